/-
  An engine for walks, eighth part: a statement whose operations may come in any order comes to what it comes to in one.
-/
import Derived.Test.YtbggipbbfknnpaaEngG
namespace Go.Eng

theorem Holds.drew {b : Blk} {w : World} (h : Holds b w) : Holds b w.drew := ⟨h.lt, h.cell, h.free, h.obj⟩
theorem Sat.drew {nt : Nat} {s : FSt} {a : Act} {w : World} (h : Sat nt s a w) : Sat nt s a w.drew := ⟨h.defers, h.size, h.env, fun p b hb => (h.mem p b hb).drew, h.apart⟩

theorem nnL_append : ∀ (a b : (List (Nat × OpH))), nnL (a ++ b) = nnL a + nnL b
  | [], b => by simp [nnL]
  | (i, h) :: a, b => by simp only [List.cons_append, nnL, nnL_append a b]; omega

theorem annot_mem : ∀ {ks : (List (Nat × OpH))} {nx : Nat} {x : Nat × OpH}, x ∈ ks → ∃ n, (x.1, x.2, n) ∈ annot ks nx
  | [], _, x, h => by cases h
  | (i, h) :: r, nx, x, hx => by
    rcases List.mem_cons.1 hx with rfl | hx
    · exact ⟨nx, by simp [annot]⟩
    · obtain ⟨n, hn⟩ := annot_mem (nx := nx + h.nb) hx
      exact ⟨n, by simp only [annot, List.mem_cons]; exact .inr hn⟩

theorem annot_ks : ∀ {ks : (List (Nat × OpH))} {nx : Nat} {y : (Nat × OpH × Nat)}, y ∈ annot ks nx → y.1 ∈ ks.map (·.1) := fun {ks nx y} h => by
  rw [← annot_idx ks nx]; exact List.mem_map.2 ⟨y, h, rfl⟩

theorem wrs_tch {h : OpH} {nx p : Nat} (hp : p ∈ h.wrs nx) : p ∈ h.tch nx := by
  unfold OpH.wrs at hp
  unfold OpH.tch
  rcases List.mem_append.1 hp with h1 | h1
  · obtain ⟨x, hx, hxp⟩ := List.mem_filterMap.1 h1
    refine List.mem_append_left _ (List.mem_map.2 ⟨x, hx, ?_⟩)
    split at hxp
    · cases hxp
    · injection hxp
  · exact List.mem_append_right _ h1

theorem indep_get {ops : Array Oper} {x y : (Nat × OpH × Nat)} {ox oy : Oper} (hx : ops[x.1]? = some ox) (hy : ops[y.1]? = some oy) (h : indep ops x y = true) :
    ox.apart ops oy = true ∧ (∀ p ∈ x.2.1.wrs x.2.2, p ∉ y.2.1.tch y.2.2) ∧ (∀ p ∈ y.2.1.wrs y.2.2, p ∉ x.2.1.tch x.2.2) := by
  simp only [indep, hx, hy, Bool.and_eq_true, List.all_eq_true] at h
  exact ⟨h.1.1, fun p hp => by simpa using h.1.2 p hp, fun p hp => by simpa using h.2 p hp⟩

theorem perm_op {ops : Array Oper} : ∀ (ks : (List (Nat × OpH))) (seen : List Nat), permOk ops ks seen = true → ∀ i ∈ ks.map (·.1), ∃ o, ops[i]? = some o
  | [], _, _, i, hi => by simp at hi
  | (j, h) :: r, seen, hp, i, hi => by
    simp only [permOk, Bool.and_eq_true] at hp
    simp only [List.map_cons, List.mem_cons] at hi
    rcases hi with rfl | hi
    · cases ho : ops[i]? with
      | none => simp [ho] at hp
      | some o => exact ⟨o, rfl⟩
    · exact perm_op r _ hp.2 i hi

/-! ### names and states, as far as operations are done -/
def nnD (D : Nat → Bool) : List (Nat × OpH) → Nat
  | [] => 0
  | (i, h) :: r => match D i with
    | true => h.nn + nnD D r
    | false => nnD D r

def fill (D : Nat → Bool) : List (Nat × OpH) → List Nat → List Nat
  | [], _ => []
  | (i, h) :: r, ns => match D i with
    | true => ns.take h.nn ++ fill D r (ns.drop h.nn)
    | false => List.replicate h.nn 0 ++ fill D r ns

def evD (F : Blk → Prop) (P : Program) (ops : Array Oper) (D : Nat → Bool) : List (Nat × OpH) → List Nat → FSt → Nat → FSt
  | [], _, f, _ => f
  | (i, h) :: r, ns, f, nx => match D i with
    | false => evD F P ops D r ns f (nx + h.nb)
    | true => match ops[i]? with
      | some o => match evOp F P ops o f nx (ns.take h.nn) h with
        | some (_, e) => evD F P ops D r (ns.drop h.nn) (f.apply o.dst e) (nx + h.nb)
        | none => evD F P ops D r (ns.drop h.nn) f (nx + h.nb)
      | none => evD F P ops D r (ns.drop h.nn) f (nx + h.nb)

theorem nnD_congr {D D' : Nat → Bool} : ∀ {ks : List (Nat × OpH)}, (∀ x ∈ ks, D x.1 = D' x.1) → nnD D ks = nnD D' ks
  | [], _ => rfl
  | (i, h) :: r, hd => by simp only [nnD, ← hd (i, h) (by simp), nnD_congr (ks := r) fun x hx => hd x (by simp [hx])]
theorem evD_congr {F : Blk → Prop} {P : Program} {ops : Array Oper} {D D' : Nat → Bool} : ∀ {ks : List (Nat × OpH)} {ns : List Nat} {f : FSt} {nx : Nat}, (∀ x ∈ ks, D x.1 = D' x.1) → evD F P ops D ks ns f nx = evD F P ops D' ks ns f nx
  | [], _, _, _, _ => rfl
  | (i, h) :: r, ns, f, nx, hd => by
    have ih := fun ns f nx => evD_congr (F := F) (P := P) (ops := ops) (ks := r) (ns := ns) (f := f) (nx := nx) fun x hx => hd x (by simp [hx])
    simp only [evD, ← hd (i, h) (by simp), ih]
theorem nnD_append {D : Nat → Bool} : ∀ (a b : List (Nat × OpH)), nnD D (a ++ b) = nnD D a + nnD D b
  | [], b => by simp [nnD]
  | (i, h) :: a, b => by
    simp only [List.cons_append, nnD, nnD_append a b]
    cases D i <;> simp only <;> omega
theorem evD_append {F : Blk → Prop} {P : Program} {ops : Array Oper} {D : Nat → Bool} (post : List (Nat × OpH)) (n2 : List Nat) : ∀ (pre : List (Nat × OpH)) (n1 : List Nat) (f : FSt) (nx : Nat), n1.length = nnD D pre →
    evD F P ops D (pre ++ post) (n1 ++ n2) f nx = evD F P ops D post n2 (evD F P ops D pre n1 f nx) (nx + nbL pre)
  | [], n1, f, nx, hl => by
    have : n1 = [] := by simpa [nnD] using hl
    subst this; simp [evD, nbL]
  | (i, h) :: pre, n1, f, nx, hl => by
    simp only [List.cons_append, evD, nbL]
    simp only [nnD] at hl
    cases hD : D i with
    | false =>
      rw [hD] at hl; simp only at hl ⊢
      rw [evD_append post n2 pre n1 f _ hl, Nat.add_assoc]
    | true =>
      rw [hD] at hl; simp only at hl ⊢
      have hle : h.nn ≤ n1.length := by omega
      rw [List.take_append_of_le_length hle, List.drop_append_of_le_length hle]
      have hl2 : (n1.drop h.nn).length = nnD D pre := by simp; omega
      split
      · split
        · rw [evD_append post n2 pre _ _ _ hl2, Nat.add_assoc]
        · rw [evD_append post n2 pre _ _ _ hl2, Nat.add_assoc]
      · rw [evD_append post n2 pre _ _ _ hl2, Nat.add_assoc]
theorem fill_length {D : Nat → Bool} : ∀ (ks : List (Nat × OpH)) (ns : List Nat), ns.length = nnD D ks → (fill D ks ns).length = nnL ks
  | [], _, _ => rfl
  | (i, h) :: r, ns, hl => by
    simp only [nnD] at hl
    simp only [fill, nnL]
    cases hD : D i with
    | true =>
      rw [hD] at hl; simp only at hl ⊢
      rw [List.length_append, fill_length r _ (by simp; omega), List.length_take]; omega
    | false =>
      rw [hD] at hl; simp only at hl ⊢
      rw [List.length_append, fill_length r _ hl, List.length_replicate]
theorem fill_full {D : Nat → Bool} : ∀ (ks : List (Nat × OpH)) (ns : List Nat), (∀ x ∈ ks, D x.1 = true) → ns.length = nnD D ks → fill D ks ns = ns ∧ ns.length = nnL ks
  | [], ns, _, hl => by
    have : ns = [] := by simpa [nnD] using hl
    subst this; exact ⟨rfl, rfl⟩
  | (i, h) :: r, ns, hd, hl => by
    have hi := hd (i, h) (by simp)
    simp only at hi
    simp only [nnD, hi] at hl
    simp only [fill, hi, nnL]
    obtain ⟨h1, h2⟩ := fill_full r (ns.drop h.nn) (fun x hx => hd x (by simp [hx])) (by simp; omega)
    rw [h1, List.take_append_drop]
    exact ⟨rfl, by simp at h2; omega⟩

theorem FSt.ext' {a b : FSt} (h1 : ∀ x, a.env x = b.env x) (h2 : ∀ p, a.mem p = b.mem p) : a = b := by
  cases a; cases b
  congr
  · funext x; exact h1 x
  · funext p; exact h2 p

theorem evSeq_ok {F : Blk → Prop} {P : Program} {ops : Array Oper} {nt : Nat} : ∀ {ks : List (Nat × OpH)} {ns : List Nat} {s s' : St} {vc : Prop}, evSeq F P ops nt ks ns s = some (vc, s') → ∀ x ∈ ks, ∃ o, ops[x.1]? = some o ∧ opOk nt o = true
  | [], _, _, _, _, _, x, hx => by cases hx
  | (i, h) :: r, ns, s, s', vc, hev, x, hx => by
    obtain ⟨o, vc1, e, vc2, ho, hok, he, hr, _⟩ := evSeq_cons hev
    rcases List.mem_cons.1 hx with rfl | hx
    · exact ⟨o, ho, hok⟩
    · exact evSeq_ok hr x hx

theorem evSeq_cut {F : Blk → Prop} {P : Program} {ops : Array Oper} {nt : Nat} : ∀ (pre rest : (List (Nat × OpH))) (n1 n2 : List Nat) (s s' : St) (vc : Prop), n1.length = nnL pre →
    evSeq F P ops nt (pre ++ rest) (n1 ++ n2) s = some (vc, s') → vc →
    ∃ vc1 s1 vc2, evSeq F P ops nt pre n1 s = some (vc1, s1) ∧ vc1 ∧ evSeq F P ops nt rest n2 s1 = some (vc2, s') ∧ vc2 ∧ s1.nx = s.nx + nbL pre
  | [], rest, n1, n2, s, s', vc, hl, hev, hvc => by
    have : n1 = [] := by simpa [nnL] using hl
    subst this
    exact ⟨True, s, vc, rfl, trivial, hev, hvc, by simp [nbL]⟩
  | (i, h) :: pre, rest, n1, n2, s, s', vc, hl, hev, hvc => by
    simp only [nnL] at hl
    have hle : h.nn ≤ n1.length := by omega
    rw [List.cons_append] at hev
    obtain ⟨o, vc1, e, vc2, ho, hok, he, hr, rfl⟩ := evSeq_cons hev
    rw [List.take_append_of_le_length hle] at he
    rw [List.drop_append_of_le_length hle] at hr
    obtain ⟨vc3, s1, vc4, g1, g2, g3, g4, g5⟩ := evSeq_cut pre rest (n1.drop h.nn) n2 _ s' vc2 (by simp; omega) hr hvc.2
    refine ⟨vc1 ∧ vc3, s1, vc4, evSeq_mk ho hok he g1, ⟨hvc.1, g2⟩, g3, g4, ?_⟩
    rw [g5]; simp only [St.apply, nbL]; omega

/-! ### states that are alike but for what is not done -/
def Rel (ops : Array Oper) (X : List (Nat × OpH × Nat)) (A B : FSt) : Prop :=
  (∀ t, (∀ u ∈ X, ∀ o, ops[u.1]? = some o → o.dst ≠ some t) → A.env t = B.env t) ∧ (∀ p, (∀ u ∈ X, p ∉ u.2.1.wrs u.2.2) → A.mem p = B.mem p)

theorem ps_tch {h : OpH} {nx p : Nat} {ro : Bool} (hp : (p, ro) ∈ h.ps) : p ∈ h.tch nx := by
  unfold OpH.tch; exact List.mem_append_left _ (List.mem_map.2 ⟨(p, ro), hp, rfl⟩)

theorem Rel.evOp {F : Blk → Prop} {P : Program} {ops : Array Oper} {X : List (Nat × OpH × Nat)} {A B : FSt} (hR : Rel ops X A B) (hXo : ∀ u ∈ X, ∃ o, ops[u.1]? = some o) {i nx : Nat} {h : OpH} {o : Oper} {ns : List Nat} (ho : ops[i]? = some o)
    (hsel : ∀ cs b, o.op ≠ .select cs b) (hX : ∀ u ∈ X, indep ops u (i, h, nx) = true) : Eng.evOp F P ops o A nx ns h = Eng.evOp F P ops o B nx ns h := by
  refine evOp_congr hsel (fun t ht => hR.1 t fun u hu ou hou hd => ?_) (fun p ro hp => hR.2 p fun u hu hw => ?_)
  · obtain ⟨k, _, _⟩ := indep_get hou ho (hX u hu)
    exact (Oper.apart_spec k).1 t hd ht
  · obtain ⟨ou, hou⟩ := hXo u hu
    obtain ⟨_, k, _⟩ := indep_get hou ho (hX u hu)
    exact k p hw (ps_tch hp)

theorem Rel.apply {ops : Array Oper} {X : List (Nat × OpH × Nat)} {A B : FSt} (hR : Rel ops X A B) (dst : Option Tmp) (e : Got) : Rel ops X (A.apply dst e) (B.apply dst e) := by
  refine ⟨fun t ht => ?_, fun p hp => ?_⟩
  · simp only [apply_env]; rw [hR.1 t ht]
  · simp only [apply_mem]; rw [hR.2 p hp]

theorem Rel.more {ops : Array Oper} {X : List (Nat × OpH × Nat)} {A B : FSt} (hR : Rel ops X A B) {i nx : Nat} {h : OpH} {o : Oper} {e : Got} (ho : ops[i]? = some o)
    (hw : ∀ p, look e.upd p ≠ none → p ∈ h.wrs nx) : Rel ops (X ++ [(i, h, nx)]) (A.apply o.dst e) B := by
  refine ⟨fun t ht => ?_, fun p hp => ?_⟩
  · have h1 := ht (i, h, nx) (by simp) o ho
    rw [apply_env, if_neg h1]
    exact hR.1 t fun u hu => ht u (by simp [hu])
  · have h1 := hp (i, h, nx) (by simp)
    rw [apply_mem]
    cases hl : look e.upd p with
    | some ob => exact absurd (hw p (by rw [hl]; simp)) h1
    | none => exact hR.2 p fun u hu => hp u (by simp [hu])

def PairD (ops : Array Oper) (D : Nat → Bool) : List (Nat × OpH × Nat) → Prop
  | [] => True
  | x :: r => (D x.1 = false → ∀ y ∈ r, D y.1 = true → indep ops x y = true) ∧ PairD ops D r

theorem sim {F : Blk → Prop} {P : Program} {ops : Array Oper} {nt : Nat} {D : Nat → Bool} : ∀ (ks : List (Nat × OpH)) (X : List (Nat × OpH × Nat)) (ns : List Nat) (s : St) (f : FSt) (s' : St) (vc : Prop), Rel ops X s.fs f →
    (∀ u ∈ X, ∃ o, ops[u.1]? = some o) → (∀ u ∈ X, ∀ y ∈ annot ks s.nx, D y.1 = true → indep ops u y = true) → PairD ops D (annot ks s.nx) → ns.length = nnD D ks → evSeq F P ops nt ks (fill D ks ns) s = some (vc, s') →
    Rel ops (X ++ (annot ks s.nx).filter fun u => !D u.1) s'.fs (evD F P ops D ks ns f s.nx)
  | [], X, ns, s, f, s', vc, hR, _, _, _, _, hev => by
    simp only [evSeq] at hev
    injection hev with hev; injection hev with _ h2; subst h2
    simpa [annot, evD] using hR
  | (i, h) :: ks, X, ns, s, f, s', vc, hR, hXo, hX, hP, hl, hev => by
    obtain ⟨o, vc1, e, vc2, ho, hok, he, hr, _⟩ := evSeq_cons hev
    simp only [nnD] at hl
    have hnx : (s.apply o.dst e h.nb).nx = s.nx + h.nb := rfl
    cases hD : D i with
    | true =>
      rw [hD] at hl; simp only at hl
      simp only [fill, hD] at he hr
      have hlt : (ns.take h.nn).length = h.nn := by rw [List.length_take]; omega
      rw [List.take_left' hlt] at he
      rw [List.drop_left' hlt] at hr
      have hc := hR.evOp (F := F) (P := P) (ns := ns.take h.nn) hXo ho (opOk_sel hok) (fun u hu => hX u hu (i, h, s.nx) (by simp [annot]) hD)
      rw [he] at hc
      have ih := sim ks X (ns.drop h.nn) (s.apply o.dst e h.nb) (f.apply o.dst e) s' vc2 (by rw [St.fs_apply]; exact hR.apply o.dst e) hXo
        (fun u hu y hy => hX u hu y (by simp only [annot, List.mem_cons]; exact .inr hy)) hP.2 (by simp; omega) hr
      simp only [evD, hD, ho, ← hc]
      rw [hnx] at ih
      simpa [annot, hD] using ih
    | false =>
      rw [hD] at hl; simp only at hl
      simp only [fill, hD] at he hr
      rw [List.take_left' List.length_replicate] at he
      rw [List.drop_left' List.length_replicate] at hr
      have ih := sim ks (X ++ [(i, h, s.nx)]) ns (s.apply o.dst e h.nb) f s' vc2 (by rw [St.fs_apply]; exact hR.more ho (evOp_wrs he))
        (fun u hu => by
          rcases List.mem_append.1 hu with hu | hu
          · exact hXo u hu
          · have : u = (i, h, s.nx) := by simpa using hu
            subst this; exact ⟨o, ho⟩)
        (fun u hu y hy hDy => by
          rcases List.mem_append.1 hu with hu | hu
          · exact hX u hu y (by simp only [annot, List.mem_cons]; exact .inr hy) hDy
          · have : u = (i, h, s.nx) := by simpa using hu
            subst this; exact hP.1 hD y hy hDy) hP.2 hl hr
      simp only [evD, hD]
      rw [hnx] at ih
      simpa [annot, hD] using ih

theorem evD_comm {F : Blk → Prop} {P : Program} {ops : Array Oper} {D : Nat → Bool} {i nxi : Nat} {h : OpH} {o : Oper} {e : Got} (ho : ops[i]? = some o) (hw : ∀ p, look e.upd p ≠ none → p ∈ h.wrs nxi) :
    ∀ (post : List (Nat × OpH)) (ns : List Nat) (f : FSt) (nx : Nat), (∀ y ∈ annot post nx, D y.1 = true → indep ops (i, h, nxi) y = true) → (∀ y ∈ post, ∀ oy, ops[y.1]? = some oy → ∀ cs b, oy.op ≠ .select cs b) →
      evD F P ops D post ns (f.apply o.dst e) nx = (evD F P ops D post ns f nx).apply o.dst e
  | [], _, _, _, _, _ => rfl
  | (j, gh) :: post, ns, f, nx, hI, hS => by
    have ih := fun ns f => evD_comm (F := F) (P := P) ho hw post ns f (nx + gh.nb) (fun y hy => hI y (by simp only [annot, List.mem_cons]; exact .inr hy)) (fun y hy => hS y (by simp [hy]))
    simp only [evD]
    cases hD : D j with
    | false => exact ih ns f
    | true =>
      simp only
      cases hoj : ops[j]? with
      | none => exact ih _ f
      | some oj =>
        simp only
        have hind := hI (j, gh, nx) (by simp [annot]) hD
        obtain ⟨k1, k2, k3⟩ := indep_get ho hoj hind
        have hc : evOp F P ops oj (f.apply o.dst e) nx (ns.take gh.nn) gh = evOp F P ops oj f nx (ns.take gh.nn) gh := by
          refine evOp_congr (hS (j, gh) (by simp) oj hoj) (fun t ht => ?_) (fun p ro hp => ?_)
          · rw [apply_env, if_neg]
            exact fun hd => (Oper.apart_spec k1).1 t hd ht
          · rw [apply_mem]
            cases hl : look e.upd p with
            | none => rfl
            | some ob => exact absurd (ps_tch hp) (k2 p (hw p (by rw [hl]; simp)))
        rw [hc]
        cases hev : evOp F P ops oj f nx (ns.take gh.nn) gh with
        | none => exact ih _ f
        | some ve =>
          obtain ⟨vcj, ej⟩ := ve
          simp only
          rw [apply_comm (t := ⟨i, o.dst, e⟩) (u := ⟨j, oj.dst, ej⟩) ⟨fun x hx hx' => (Oper.apart_spec k1).2.1 x hx hx', fun p => ?_⟩ f]
          · exact ih _ _
          · by_cases h1 : look e.upd p = none
            · exact .inl h1
            · by_cases h2 : look ej.upd p = none
              · exact .inr h2
              · exact absurd (wrs_tch (evOp_wrs hev p h2)) (k2 p (hw p h1))

theorem evD_skip {F : Blk → Prop} {P : Program} {ops : Array Oper} {D : Nat → Bool} {i nxi : Nat} {h : OpH} {o : Oper} (ho : ops[i]? = some o) :
    ∀ (post : List (Nat × OpH)) (ns : List Nat) (f : FSt) (nx : Nat), (∀ y ∈ annot post nx, D y.1 = true → indep ops (i, h, nxi) y = true) →
      (∀ t ∈ o.looksAt ops, (evD F P ops D post ns f nx).env t = f.env t) ∧ (∀ p ∈ h.tch nxi, (evD F P ops D post ns f nx).mem p = f.mem p)
  | [], _, _, _, _ => ⟨fun _ _ => rfl, fun _ _ => rfl⟩
  | (j, gh) :: post, ns, f, nx, hI => by
    have ih := fun ns f => evD_skip (F := F) (P := P) ho post ns f (nx + gh.nb) (fun y hy => hI y (by simp only [annot, List.mem_cons]; exact .inr hy))
    simp only [evD]
    cases hD : D j with
    | false => exact ih ns f
    | true =>
      simp only
      cases hoj : ops[j]? with
      | none => exact ih _ f
      | some oj =>
        simp only
        have hind := hI (j, gh, nx) (by simp [annot]) hD
        obtain ⟨k1, k2, k3⟩ := indep_get ho hoj hind
        cases hev : evOp F P ops oj f nx (ns.take gh.nn) gh with
        | none => exact ih _ f
        | some ve =>
          obtain ⟨vcj, ej⟩ := ve
          simp only
          obtain ⟨h1, h2⟩ := ih (ns.drop gh.nn) (f.apply oj.dst ej)
          refine ⟨fun t ht => ?_, fun p hp => ?_⟩
          · rw [h1 t ht, apply_env, if_neg]
            exact fun hd => (Oper.apart_spec k1).2.2 t hd ht
          · rw [h2 p hp, apply_mem]
            cases hl : look ej.upd p with
            | none => rfl
            | some ob => exact absurd hp (k3 p (evOp_wrs hev p (by rw [hl]; simp)))

theorem pairD_of {ops : Array Oper} {D : Nat → Bool} {masks : List (Nat × Nat)} (hb : ∀ (x y : Nat × OpH × Nat), D y.1 = true → before masks x.1 y.1 = true → D x.1 = true) : ∀ {l : List (Nat × OpH × Nat)}, pairsOk ops masks l = true → PairD ops D l
  | [], _ => trivial
  | x :: r, h => by
    simp only [pairsOk, Bool.and_eq_true, List.all_eq_true, Bool.or_eq_true] at h
    refine ⟨fun hx y hy hDy => ?_, pairD_of hb h.2⟩
    rcases h.1 y hy with h1 | h1
    · rw [hb x y hDy h1] at hx; cases hx
    · exact h1

theorem draw_any {F : Blk → Prop} {P : Program} {ops : Array Oper} {nt : Nat} {Q : Exit → Act → World → Prop} {ks : (List (Nat × OpH))} {s0 : St} {a : Act} {w : World}
    (hok : drawOk ops ks s0.nx = true) (hs : Sat nt s0.fs a w) (hF : Fam F s0.fs.mem w)
    (hall : ∀ ns, ns.length = nnL ks → ∃ vc s', evSeq F P ops nt ks ns s0 = some (vc, s') ∧ vc)
    (hK : ∀ ns vc s' a' w', ns.length = nnL ks → evSeq F P ops nt ks ns s0 = some (vc, s') → vc → Sat nt s'.fs a' w' → Adv s0.fs.mem w s'.fs.mem w' → Q .normal a' w') :
    wpAny P .any ops Q ops.size (Array.replicate ops.size false) a { w with drawn := w.drawn + 1 } := by
  simp only [drawOk, Bool.and_eq_true] at hok
  obtain ⟨hperm, hpairs⟩ := hok
  obtain ⟨hnodup, _⟩ := perm_nodup ks [] hperm
  have hM : MaskOk ops (ancs ops ks []) := ancs_ok ks [] (maskOk_nil ops) (fun j m h => by cases h)
  obtain ⟨_, _, hev00, _⟩ := hall (List.replicate _ 0) List.length_replicate
  have hopsOk := evSeq_ok hev00
  have hbef : ∀ D : Nat → Bool, Closed ops D → ∀ j k : Nat, D k = true → before (ancs ops ks []) j k = true → D j = true := fun D hcl j k hk hb => by
    unfold before at hb
    cases hl : look (ancs ops ks []) k with
    | none => rw [hl] at hb; cases hb
    | some m =>
      rw [hl] at hb
      have hko : ∃ ok, ops[k]? = some ok := by
        cases hx : ops[k]? with
        | some ok => exact ⟨ok, rfl⟩
        | none =>
          exfalso
          have : ∀ (l : List (Nat × OpH)) (acc : List (Nat × Nat)), (∀ j m, look acc j = some m → ∃ o, ops[j]? = some o) → ∀ m, look (ancs ops l acc) k = some m → False := by
            intro l
            induction l with
            | nil => intro acc hacc m hm; obtain ⟨o, ho⟩ := hacc k m hm; rw [hx] at ho; cases ho
            | cons x r ih =>
              intro acc hacc m hm
              obtain ⟨xi, xh⟩ := x
              simp only [ancs] at hm
              cases hox : ops[xi]? with
              | none => rw [hox] at hm; obtain ⟨o, ho⟩ := hacc k m hm; rw [hx] at ho; cases ho
              | some o =>
                rw [hox] at hm
                refine ih _ (fun j m' hj => ?_) m hm
                rw [look_cons] at hj
                split at hj
                · rename_i e; subst e; exact ⟨o, hox⟩
                · exact hacc j m' hj
          exact this ks [] (fun j m hj => by cases hj) m hl
      obtain ⟨ok, hok⟩ := hko
      exact hM D hcl k ok m hl hok (hcl k ok hok hk) j hb
  refine wpAny_inv (Inv := fun l a' w' => l.size = ops.size ∧ Closed ops (fun j => l.getD j false) ∧
    ∃ ns, ns.length = nnD (fun j => l.getD j false) ks ∧ Sat nt (evD F P ops (fun j => l.getD j false) ks ns s0.fs s0.nx) a' w' ∧
      Adv s0.fs.mem w (evD F P ops (fun j => l.getD j false) ks ns s0.fs s0.nx).mem w') ?_ ?_ _ _ _ _ ?_ ?_
  · -- all is done
    rintro l a' w' ⟨hsz, hcl, ns, hgn, hsat, hadv⟩ hr
    have hD : ∀ x ∈ ks, l.getD x.1 false = true := fun x hx => perm_all hsz hr ks [] hperm (by simp) x.1 (List.mem_map.2 ⟨x, hx, rfl⟩)
    obtain ⟨hfull, hlen⟩ := fill_full (D := fun j => l.getD j false) ks ns hD hgn
    obtain ⟨vc, s', hev, hvc⟩ := hall ns hlen
    have hsim := sim (F := F) (P := P) (nt := nt) (D := fun j => l.getD j false) ks [] ns s0 s0.fs s' vc ⟨fun _ _ => rfl, fun _ _ => rfl⟩ (by simp) (by simp)
      (pairD_of (masks := ancs ops ks []) (fun x y hy hb => hbef _ hcl x.1 y.1 hy hb) hpairs) hgn (by rw [hfull]; exact hev)
    have hnone : ((annot ks s0.nx).filter fun u => !l.getD u.1 false) = [] := by
      refine List.filter_eq_nil_iff.2 fun u hu => ?_
      obtain ⟨x, hx, hxi⟩ := List.mem_map.1 (annot_ks hu)
      have := hD x hx
      rw [hxi] at this
      simp [this]
    rw [hnone] at hsim
    have heq : s'.fs = evD F P ops (fun j => l.getD j false) ks ns s0.fs s0.nx := FSt.ext' (fun t => hsim.1 t (by simp)) (fun p => hsim.2 p (by simp))
    rw [← heq] at hsat hadv
    exact hK ns vc s' a' w' hlen hev hvc hsat hadv
  · -- one more
    rintro l a' w' i ⟨hsz, hcl, ns, hgn, hsat, hadv⟩ hr
    obtain ⟨hun, o, ho, hpr⟩ := mem_ready.1 hr
    have hil : i < l.size := by rw [hsz]; exact (Array.getElem?_eq_some_iff.1 ho).1
    have hDi : l.getD i false = false := by
      have := getD_false hun
      simp [Array.getD_eq_getD_getElem?, this]
    generalize hDdef : (fun j => l.getD j false) = D at hcl hgn hsat hadv
    have hDi' : D i = false := by rw [← hDdef]; exact hDi
    have hP : Preds D o := fun e he hb => by rw [← hDdef]; exact hpr e (by simpa using he) hb
    obtain ⟨x, hx, hxi⟩ : ∃ x ∈ ks, x.1 = i := by
      rcases perm_cover ks [] hperm i (Array.getElem?_eq_some_iff.1 ho).1 with h1 | h1
      · obtain ⟨x, hx, hxi⟩ := List.mem_map.1 h1; exact ⟨x, hx, hxi⟩
      · cases h1
    obtain ⟨pre, post, hks⟩ := List.append_of_mem hx
    obtain ⟨xi, h⟩ := x
    simp only at hxi
    have hxi' := hxi.symm
    subst hxi'
    clear hxi
    have hipre : ∀ y ∈ pre, y.1 ≠ i := fun y hy e => by
      rw [hks] at hnodup
      simp only [List.map_append, List.map_cons] at hnodup
      exact (List.nodup_append.1 hnodup).2.2 y.1 (List.mem_map.2 ⟨y, hy, rfl⟩) i (by simp) e
    have hipost : ∀ y ∈ post, y.1 ≠ i := fun y hy e => by
      rw [hks] at hnodup
      simp only [List.map_append, List.map_cons] at hnodup
      have := (List.nodup_append.1 hnodup).2.1
      simp only [List.nodup_cons] at this
      exact this.1 (List.mem_map.2 ⟨y, hy, e⟩)
    have hps := hpairs
    rw [hks, annot_append] at hps
    simp only [annot] at hps
    obtain ⟨hR1, hR2⟩ := pairs_split _ _ _ hps
    rw [← hks] at hR1 hR2
    simp only at hR1 hR2
    have hbefi : ∀ j, before (ancs ops ks []) j i = true → D j = true := fun j hb => by
      unfold before at hb
      cases hl : look (ancs ops ks []) i with
      | none => rw [hl] at hb; cases hb
      | some m => rw [hl] at hb; exact hM D hcl i o m hl ho hP j hb
    have hIpost : ∀ y ∈ annot post (s0.nx + nbL pre + h.nb), D y.1 = true → indep ops (i, h, s0.nx + nbL pre) y = true := fun y hy hDy => by
      rcases hR2 y hy with h1 | h1
      · rw [hbef D hcl i y.1 hDy h1] at hDi'; cases hDi'
      · exact h1
    have hIpre : ∀ u ∈ (annot pre s0.nx).filter (fun u => !D u.1), indep ops u (i, h, s0.nx + nbL pre) = true := fun u hu => by
      obtain ⟨hu1, hu2⟩ := List.mem_filter.1 hu
      rcases hR1 u hu1 with h1 | h1
      · rw [hbefi u.1 h1] at hu2; cases hu2
      · exact h1
    -- the names that there are
    rw [hks] at hgn hsat hadv
    have hnd : nnD D (pre ++ (i, h) :: post) = nnD D pre + nnD D post := by
      rw [nnD_append]; simp only [nnD, hDi']
    rw [hnd] at hgn
    obtain ⟨n1, n2, rfl, hn1, hn2⟩ : ∃ n1 n2, ns = n1 ++ n2 ∧ n1.length = nnD D pre ∧ n2.length = nnD D post :=
      ⟨ns.take (nnD D pre), ns.drop (nnD D pre), (List.take_append_drop _ _).symm, by rw [List.length_take]; omega, by rw [List.length_drop]; omega⟩
    rw [evD_append _ _ pre n1 _ _ hn1] at hsat hadv
    simp only [evD, hDi'] at hsat hadv
    have hlenks : nnL ks = nnL pre + (h.nn + nnL post) := by rw [hks, nnL_append]; rfl
    have hfl := fill_length pre n1 hn1
    have hop : ∀ nsi, nsi.length = h.nn → ∃ (s1 : St) (vc : Prop) (e : Got), s1.nx = s0.nx + nbL pre ∧ Rel ops ((annot pre s0.nx).filter fun u => !D u.1) s1.fs (evD F P ops D pre n1 s0.fs s0.nx) ∧ opOk nt o = true ∧ evOp F P ops o s1.fs s1.nx nsi h = some (vc, e) ∧ vc := fun nsi hnsi => by
      obtain ⟨vc3, s3, hev3, hvc3⟩ := hall (fill D pre n1 ++ (nsi ++ List.replicate (nnL post) 0)) (by simp [hlenks, hfl, hnsi])
      rw [hks] at hev3
      obtain ⟨vc4, s4, vc5, k1, k2, k3, k4, k5⟩ := evSeq_cut pre ((i, h) :: post) _ _ s0 s3 vc3 hfl hev3 hvc3
      obtain ⟨o', vc6, e, vc7, ho', hok', he, _, rfl⟩ := evSeq_cons k3
      rw [ho] at ho'; injection ho' with ho'; subst ho'
      rw [List.take_left' hnsi] at he
      have hpp : PairD ops D (annot pre s0.nx) := by
        have := pairD_of (D := D) (masks := ancs ops ks []) (fun x y hy hb => hbef _ hcl x.1 y.1 hy hb) hpairs
        rw [hks, annot_append] at this
        have cut : ∀ (a b : List (Nat × OpH × Nat)), PairD ops D (a ++ b) → PairD ops D a := by
          intro a
          induction a with
          | nil => intro b _; trivial
          | cons x r ih => intro b hb; exact ⟨fun hx y hy => hb.1 hx y (by simp [hy]), ih b hb.2⟩
        exact cut _ _ this
      have hsim := sim (F := F) (P := P) (nt := nt) (D := D) pre [] n1 s0 s0.fs s4 vc4 ⟨fun _ _ => rfl, fun _ _ => rfl⟩ (by simp) (by simp) hpp hn1 k1
      exact ⟨s4, vc6, e, k5, by simpa using hsim, hok', he, k4.1⟩
    obtain ⟨s1, _, _, hs1nx, hs1R, hokop, _, _⟩ := hop (List.replicate h.nn 0) List.length_replicate
    have hXo : ∀ u ∈ (annot pre s0.nx).filter (fun u => !D u.1), ∃ o, ops[u.1]? = some o := fun u hu => by
      obtain ⟨y, hy, hyu⟩ := List.mem_map.1 (annot_ks (List.mem_filter.1 hu).1)
      obtain ⟨oy, hoy, _⟩ := hopsOk y (by rw [hks]; simp [hy])
      exact ⟨oy, by rw [← hyu]; exact hoy⟩
    have hcong : ∀ (s1 : St) nsi, Rel ops ((annot pre s0.nx).filter fun u => !D u.1) s1.fs (evD F P ops D pre n1 s0.fs s0.nx) →
        evOp F P ops o s1.fs (s0.nx + nbL pre) nsi h = evOp F P ops o (evD F P ops D pre n1 s0.fs s0.nx) (s0.nx + nbL pre) nsi h := fun s1 nsi hR => hR.evOp hXo ho (opOk_sel hokop) hIpre
    have hcong2 : ∀ nsi, evOp F P ops o (evD F P ops D post n2 (evD F P ops D pre n1 s0.fs s0.nx) (s0.nx + nbL pre + h.nb)) (s0.nx + nbL pre) nsi h = evOp F P ops o (evD F P ops D pre n1 s0.fs s0.nx) (s0.nx + nbL pre) nsi h := fun nsi => by
      obtain ⟨k1, k2⟩ := evD_skip (F := F) (P := P) ho post n2 (evD F P ops D pre n1 s0.fs s0.nx) _ hIpost
      exact evOp_congr (opOk_sel hokop) k1 (fun p ro hp => k2 p (ps_tch hp))
    refine op_sound (nx := s0.nx + nbL pre) (h := h) ho hsat (hF.adv hadv) (opOk_sel hokop) (fun nsi hnsi => ?_) (fun nsi vc e w2 hnsi hev hvc hpost => ?_)
    · obtain ⟨s1, vc, e, hnx, hR, _, he, hvc⟩ := hop nsi hnsi
      rw [hnx, hcong s1 nsi hR] at he
      exact ⟨vc, e, by rw [hcong2]; exact he, hvc⟩
    · rw [hcong2] at hev
      have hsat2 := sat_apply hsat (opOk_dst hokop) hpost
      have hadv2 := hadv.trans hpost.adv
      have hD' : ∀ j, (l.setIfInBounds i true).getD j false = if i = j then true else D j := fun j => by
        by_cases hij : i = j
        · subst hij; simp [Array.getD_eq_getD_getElem?, hil]
        · rw [getD_set_ne false hij, if_neg hij, ← hDdef]
      have hD'pre : ∀ y ∈ pre, (l.setIfInBounds i true).getD y.1 false = D y.1 := fun y hy => by rw [hD', if_neg (fun e => hipre y hy e.symm)]
      have hD'post : ∀ y ∈ post, (l.setIfInBounds i true).getD y.1 false = D y.1 := fun y hy => by rw [hD', if_neg (fun e => hipost y hy e.symm)]
      have hD'i : (l.setIfInBounds i true).getD i false = true := by rw [hD', if_pos rfl]
      refine ⟨by simp [hsz], fun j oj hoj hj e he hb => ?_, n1 ++ (nsi ++ n2), ?_, ?_⟩
      · show (l.setIfInBounds i true).getD e.on false = true
        have hj : (l.setIfInBounds i true).getD j false = true := hj
        rw [hD']
        split
        · rfl
        · rw [hD'] at hj
          split at hj
          · rename_i hij
            subst hij
            rw [ho] at hoj; injection hoj with hoj; subst hoj
            exact hP e he hb
          · exact hcl j oj hoj hj e he hb
      · rw [hks, nnD_append, nnD_congr (D' := D) (ks := pre) hD'pre]
        simp only [nnD, hD'i]
        have e2 : nnD (fun j => (l.setIfInBounds i true).getD j false) post = nnD D post := nnD_congr hD'post
        rw [e2]
        simp [hn1, hn2, hnsi]
      · have heq : evD F P ops (fun j => (l.setIfInBounds i true).getD j false) ks (n1 ++ (nsi ++ n2)) s0.fs s0.nx =
            (evD F P ops D post n2 (evD F P ops D pre n1 s0.fs s0.nx) (s0.nx + nbL pre + h.nb)).apply o.dst e := by
          rw [hks, evD_append _ _ pre n1 _ _ (by rw [nnD_congr (D' := D) hD'pre]; exact hn1), evD_congr (D' := D) (ks := pre) hD'pre]
          simp only [evD, hD'i, ho]
          rw [List.take_left' hnsi, List.drop_left' hnsi, hev]
          simp only
          rw [evD_congr (D' := D) (ks := post) hD'post]
          refine evD_comm ho (evOp_wrs hev) post n2 _ _ hIpost fun y hy oy hoy => ?_
          obtain ⟨oy', hoy', hky⟩ := hopsOk y (by rw [hks]; simp [hy])
          rw [hoy] at hoy'; injection hoy' with hoy'; subst hoy'
          exact opOk_sel hky
        rw [heq]
        exact ⟨hsat2, hadv2⟩
  · -- fuel
    unfold unl
    simp
  · -- at the start
    have hD0 : ∀ j, (Array.replicate ops.size false).getD j false = false := fun j => by
      simp [Array.getD_eq_getD_getElem?, Array.getElem?_replicate]
      split <;> rfl
    have hnone : ∀ (l : List (Nat × OpH)) (f : FSt) (nx : Nat), evD F P ops (fun j => (Array.replicate ops.size false).getD j false) l [] f nx = f ∧ nnD (fun j => (Array.replicate ops.size false).getD j false) l = 0 := by
      intro l
      induction l with
      | nil => intro f nx; exact ⟨rfl, rfl⟩
      | cons x r ih =>
        intro f nx
        obtain ⟨j, gh⟩ := x
        obtain ⟨i1, i2⟩ := ih f (nx + gh.nb)
        have hj := hD0 j
        constructor
        · rw [evD]; simp only [hj]; exact i1
        · rw [nnD]; simp only [hj]; exact i2
    refine ⟨by simp, fun j o _ hj => ?_, [], (hnone ks s0.fs 0).2.symm, ?_⟩
    · have hj : (Array.replicate ops.size false).getD j false = true := hj
      rw [hD0] at hj; cases hj
    rw [(hnone ks s0.fs s0.nx).1]
    exact ⟨hs.drew, ⟨rfl, rfl, rfl, Nat.le_refl _, fun _ _ _ => rfl, fun _ h => .inl h, fun _ _ h _ => h⟩⟩

theorem draw_sound {F : Blk → Prop} {P : Program} {ops : Array Oper} {nt : Nat} {Q : Exit → Act → World → Prop} {ks : (List (Nat × OpH))} {s0 : St} {a : Act} {w : World} {id : Nat}
    (hmix : P.follows .mixedOrders = true) (hok : drawOk ops ks s0.nx = true) (hs : Sat nt s0.fs a w) (hF : Fam F s0.fs.mem w)
    (hall : ∀ ns, ns.length = nnL ks → ∃ vc s', evSeq F P ops nt ks ns s0 = some (vc, s') ∧ vc)
    (hK : ∀ ns vc s' a' w', ns.length = nnL ks → evSeq F P ops nt ks ns s0 = some (vc, s') → vc → Sat nt s'.fs a' w' → Adv s0.fs.mem w s'.fs.mem w' → Q .normal a' w') :
    (Code.region id ops true).wp P Q a w := wp_region_any hmix (draw_any hok hs hF hall hK)

end Go.Eng
