/-
  An engine for walks, eighth part: a statement whose operations may come in any order comes to what it comes to in one.
-/
import Derived.Test.YtghjbfkbmbnjkaaEngG
namespace Go.Eng

theorem Holds.drew {b : Blk} {w : World} (h : Holds b w) : Holds b w.drew := ⟨h.lt, h.cell, h.free⟩
theorem Sat.drew {nt : Nat} {s : FSt} {a : Act} {w : World} (h : Sat nt s a w) : Sat nt s a w.drew := ⟨h.defers, h.size, h.env, fun p b hb => (h.mem p b hb).drew, h.apart⟩

theorem nnL_append : ∀ (a b : (List (Nat × OpH))), nnL (a ++ b) = nnL a + nnL b
  | [], b => by simp [nnL]
  | (i, h) :: a, b => by simp only [List.cons_append, nnL, nnL_append a b]; omega

theorem annot_mem : ∀ {ks : (List (Nat × OpH))} {nx : Nat} {x : Nat × OpH}, x ∈ ks → ∃ n, (x.1, x.2, n) ∈ annot ks nx
  | [], _, x, h => by cases h
  | (i, h) :: r, nx, x, hx => by
    rcases List.mem_cons.1 hx with rfl | hx
    · exact ⟨nx, by simp [annot]⟩
    · obtain ⟨n, hn⟩ := annot_mem (nx := nx + h.nb) hx
      exact ⟨n, by simp only [annot, List.mem_cons]; exact .inr hn⟩

theorem annot_ks : ∀ {ks : (List (Nat × OpH))} {nx : Nat} {y : (Nat × OpH × Nat)}, y ∈ annot ks nx → y.1 ∈ ks.map (·.1) := fun {ks nx y} h => by
  rw [← annot_idx ks nx]; exact List.mem_map.2 ⟨y, h, rfl⟩

theorem wrs_tch {h : OpH} {nx p : Nat} (hp : p ∈ h.wrs nx) : p ∈ h.tch nx := by
  unfold OpH.wrs at hp
  unfold OpH.tch
  rcases List.mem_append.1 hp with h1 | h1
  · obtain ⟨x, hx, hxp⟩ := List.mem_filterMap.1 h1
    refine List.mem_append_left _ (List.mem_map.2 ⟨x, hx, ?_⟩)
    split at hxp
    · cases hxp
    · injection hxp
  · exact List.mem_append_right _ h1

theorem indep_get {ops : Array Oper} {x y : (Nat × OpH × Nat)} {ox oy : Oper} (hx : ops[x.1]? = some ox) (hy : ops[y.1]? = some oy) (h : indep ops x y = true) :
    ox.apart ops oy = true ∧ (∀ p ∈ x.2.1.wrs x.2.2, p ∉ y.2.1.tch y.2.2) ∧ (∀ p ∈ y.2.1.wrs y.2.2, p ∉ x.2.1.tch x.2.2) := by
  simp only [indep, hx, hy, Bool.and_eq_true, List.all_eq_true] at h
  exact ⟨h.1.1, fun p hp => by simpa using h.1.2 p hp, fun p hp => by simpa using h.2 p hp⟩

theorem perm_op {ops : Array Oper} : ∀ (ks : (List (Nat × OpH))) (seen : List Nat), permOk ops ks seen = true → ∀ i ∈ ks.map (·.1), ∃ o, ops[i]? = some o
  | [], _, _, i, hi => by simp at hi
  | (j, h) :: r, seen, hp, i, hi => by
    simp only [permOk, Bool.and_eq_true] at hp
    simp only [List.map_cons, List.mem_cons] at hi
    rcases hi with rfl | hi
    · cases ho : ops[i]? with
      | none => simp [ho] at hp
      | some o => exact ⟨o, rfl⟩
    · exact perm_op r _ hp.2 i hi

theorem draw_sound {P : Program} {ops : Array Oper} {nt : Nat} {Q : Exit → Act → World → Prop} {ks : (List (Nat × OpH))} {s0 : St} {a : Act} {w : World} {id : Nat}
    (hmix : P.follows .mixedOrders = true) (hok : drawOk ops ks s0.nx = true) (hs : Sat nt s0.fs a w)
    (hall : ∀ ns, ns.length = nnL ks → ∃ vc s', evSeq P ops nt ks ns s0 = some (vc, s') ∧ vc)
    (hK : ∀ ns vc s' a' w', ns.length = nnL ks → evSeq P ops nt ks ns s0 = some (vc, s') → vc → Sat nt s'.fs a' w' → Adv s0.fs.mem w s'.fs.mem w' → Q .normal a' w') :
    (Code.region id ops true).wp P Q a w := by
  simp only [drawOk, Bool.and_eq_true] at hok
  obtain ⟨hperm, hpairs⟩ := hok
  obtain ⟨hnodup, _⟩ := perm_nodup ks [] hperm
  have hM : MaskOk ops (ancs ops ks []) := ancs_ok ks [] (maskOk_nil ops) (fun j m h => by cases h)
  refine wp_region_any hmix ?_
  refine wpAny_inv (Inv := fun l a' w' => l.size = ops.size ∧ Closed ops (fun j => l.getD j false) ∧
    ∃ ns, GN (fun j => l.getD j false) ks ns ∧ Sat nt (ov (fun j => l.getD j false) s0.fs (evTr P ops ks ns s0)) a' w' ∧
      Adv s0.fs.mem w (ov (fun j => l.getD j false) s0.fs (evTr P ops ks ns s0)).mem w') ?_ ?_ _ _ _ _ ?_ ?_
  · -- all is done
    rintro l a' w' ⟨hsz, hcl, ns, hgn, hsat, hadv⟩ hr
    have hD : ∀ x ∈ ks, l.getD x.1 false = true := fun x hx => perm_all hsz hr ks [] hperm (by simp) x.1 (List.mem_map.2 ⟨x, hx, rfl⟩)
    have hlen := GN_full hD hgn
    obtain ⟨vc, s', hev, hvc⟩ := hall ns hlen
    obtain ⟨vc1, s1, vc2, g1, g2, g3, g4, g5, g6, g7⟩ := evSeq_split ks [] ns [] s0 s' vc hlen (by simpa using hev) hvc
    have hs1 : s1 = s' := by
      simp only [evSeq] at g3
      injection g3 with g3; injection g3
    subst hs1
    have hov : ov (fun j => l.getD j false) s0.fs (evTr P ops ks ns s0) = s1.fs := by
      rw [g6]
      refine ov_congr fun t ht => ?_
      obtain ⟨h, nx, o, h1, _⟩ := evTr_mem ks ns s0 t ht
      obtain ⟨x, hx, hxi⟩ := List.mem_map.1 (annot_ks h1)
      have := hD x hx
      rw [hxi] at this
      exact this
    rw [hov] at hsat hadv
    exact hK ns vc s1 a' w' hlen hev hvc hsat hadv
  · -- one more
    rintro l a' w' i ⟨hsz, hcl, ns, hgn, hsat, hadv⟩ hr
    obtain ⟨hun, o, ho, hpr⟩ := mem_ready.1 hr
    have hil : i < l.size := by rw [hsz]; exact (Array.getElem?_eq_some_iff.1 ho).1
    have hDi : l.getD i false = false := by
      have := getD_false hun
      simp [Array.getD_eq_getD_getElem?, this]
    generalize hDdef : (fun j => l.getD j false) = D at hcl hgn hsat hadv
    have hDi' : D i = false := by rw [← hDdef]; exact hDi
    have hP : Preds D o := fun e he hb => by rw [← hDdef]; exact hpr e (by simpa using he) hb
    obtain ⟨x, hx, hxi⟩ : ∃ x ∈ ks, x.1 = i := by
      rcases perm_cover ks [] hperm i (Array.getElem?_eq_some_iff.1 ho).1 with h1 | h1
      · obtain ⟨x, hx, hxi⟩ := List.mem_map.1 h1; exact ⟨x, hx, hxi⟩
      · cases h1
    obtain ⟨pre, post, hks⟩ := List.append_of_mem hx
    obtain ⟨xi, h⟩ := x
    simp only at hxi
    have hxi' := hxi.symm
    subst hxi'
    clear hxi
    have hipre : ∀ y ∈ pre, y.1 ≠ i := fun y hy e => by
      rw [hks] at hnodup
      simp only [List.map_append, List.map_cons] at hnodup
      exact (List.nodup_append.1 hnodup).2.2 y.1 (List.mem_map.2 ⟨y, hy, rfl⟩) i (by simp) e
    have hipost : ∀ y ∈ post, y.1 ≠ i := fun y hy e => by
      rw [hks] at hnodup
      simp only [List.map_append, List.map_cons] at hnodup
      have := (List.nodup_append.1 hnodup).2.1
      simp only [List.nodup_cons] at this
      exact this.1 (List.mem_map.2 ⟨y, hy, e⟩)
    have hprepost : ∀ y ∈ pre, ∀ z ∈ post, y.1 ≠ z.1 := fun y hy z hz e => by
      rw [hks] at hnodup
      simp only [List.map_append, List.map_cons] at hnodup
      exact (List.nodup_append.1 hnodup).2.2 y.1 (List.mem_map.2 ⟨y, hy, rfl⟩) z.1 (by simp only [List.mem_cons]; exact .inr (List.mem_map.2 ⟨z, hz, rfl⟩)) e
    have hps := hpairs
    rw [hks, annot_append] at hps
    simp only [annot] at hps
    rw [← hks] at hps
    obtain ⟨hR1, hR2⟩ := pairs_split _ _ _ hps
    simp only at hR1 hR2
    have hbef : ∀ j, before (ancs ops ks []) j i = true → D j = true := fun j hb => by
      unfold before at hb
      cases hl : look (ancs ops ks []) i with
      | none => rw [hl] at hb; cases hb
      | some m => rw [hl] at hb; exact hM D hcl i o m hl ho hP j hb
    have hbef2 : ∀ j oj, ops[j]? = some oj → D j = true → before (ancs ops ks []) i j = true → False := fun j oj hoj hDj hb => by
      unfold before at hb
      cases hl : look (ancs ops ks []) j with
      | none => rw [hl] at hb; cases hb
      | some m =>
        rw [hl] at hb
        have := hM D hcl j oj m hl hoj (hcl j oj hoj hDj) i hb
        rw [hDi'] at this; cases this
    have hcre : ∀ y ∈ pre, y.2.nn ≠ 0 → D y.1 = true := fun y hy hn => by
      obtain ⟨n, hn'⟩ := annot_mem (nx := s0.nx) hy
      rcases hR1 _ hn' with h1 | ⟨_, h2⟩
      · exact hbef _ h1
      · exact absurd h2 hn
    -- the names that there are
    rw [hks] at hgn
    obtain ⟨n1, n2, hns, hn1, hg2⟩ := GN_split hcre hgn
    subst hns
    have hlenks : nnL ks = nnL pre + (h.nn + nnL post) := by rw [hks, nnL_append]; rfl
    obtain ⟨vc0, s', hev0, hvc0⟩ := hall (n1 ++ List.replicate (h.nn + nnL post) 0) (by simp [hlenks, hn1])
    rw [hks] at hev0
    obtain ⟨vc1, s1, vc2, g1, g2, g3, g4, g5, g6, g7⟩ := evSeq_split pre ((i, h) :: post) n1 _ s0 s' vc0 hn1 hev0 hvc0
    have hop : ∀ nsi, nsi.length = h.nn → ∃ vc e, opOk nt o = true ∧ evOp P ops o s1.fs s1.nx nsi h = some (vc, e) ∧ vc := fun nsi hnsi => by
      obtain ⟨vc3, s3, hev3, hvc3⟩ := hall (n1 ++ (nsi ++ List.replicate (nnL post) 0)) (by simp [hlenks, hn1, hnsi])
      rw [hks] at hev3
      obtain ⟨vc4, s4, vc5, k1, k2, k3, k4, _, _, _⟩ := evSeq_split pre ((i, h) :: post) n1 _ s0 s3 vc3 hn1 hev3 hvc3
      rw [g1] at k1
      injection k1 with k1; injection k1 with k1 k1'; subst k1'
      obtain ⟨o', vc6, e, vc7, ho', hok', he, _, rfl⟩ := evSeq_cons k3
      rw [ho] at ho'; injection ho' with ho'; subst ho'
      rw [List.take_left' hnsi] at he
      exact ⟨vc6, e, hok', he, k4.1⟩
    obtain ⟨_, _, hokop, _, _⟩ := hop (List.replicate h.nn 0) List.length_replicate
    rw [hks, g7 n2] at hsat hadv
    -- what t of the one part, or of the other one, may write
    have htr1 : ∀ t ∈ evTr P ops pre n1 s0, ∃ hy nx oy, (t.i, hy, nx) ∈ annot pre s0.nx ∧ ops[t.i]? = some oy ∧ t.dst = oy.dst ∧ ∀ p, look t.e.upd p ≠ none → p ∈ hy.wrs nx :=
      fun t ht => evTr_mem pre n1 s0 t ht
    have hpreidx : ∀ t ∈ evTr P ops pre n1 s0, ∃ y ∈ pre, y.1 = t.i := fun t ht => by
      obtain ⟨hy, nx, oy, h1, _⟩ := htr1 t ht
      obtain ⟨y, hy, hyi⟩ := List.mem_map.1 (annot_ks h1)
      exact ⟨y, hy, hyi⟩
    have hpostidx : ∀ m s2, ∀ t ∈ evTr P ops post m s2, ∃ y ∈ post, y.1 = t.i := fun m s2 t ht => by
      obtain ⟨hy, nx, oy, h1, _⟩ := evTr_mem post m s2 t ht
      obtain ⟨y, hy, hyi⟩ := List.mem_map.1 (annot_ks h1)
      exact ⟨y, hy, hyi⟩
    have hnx1 : s1.nx = s0.nx + nbL pre := g5
    -- an operation that is behind this one, and done, does nothing to what this one looks at
    have hindpost : ∀ (m : List Nat) (s2 : St), s2.nx = s1.nx + h.nb → ∀ t ∈ evTr P ops post m s2, D t.i = true → ∃ hy nx oy, ops[t.i]? = some oy ∧ t.dst = oy.dst ∧
        (∀ p, look t.e.upd p ≠ none → p ∈ hy.wrs nx) ∧ indep ops (i, h, s0.nx + nbL pre) (t.i, hy, nx) = true := fun m s2 hs2 t ht hDt => by
      obtain ⟨hy, nx, oy, h1, h2, h3, h4⟩ := evTr_mem post m s2 t ht
      rw [hs2, hnx1] at h1
      refine ⟨hy, nx, oy, h2, h3, h4, ?_⟩
      rcases hR2 _ h1 with h5 | ⟨h5, _⟩
      · exact absurd h5 (fun h5 => hbef2 t.i oy h2 hDt h5)
      · exact h5
    have hindpre : ∀ t ∈ evTr P ops pre n1 s0, D t.i = false → ∃ hy nx oy, ops[t.i]? = some oy ∧ t.dst = oy.dst ∧
        (∀ p, look t.e.upd p ≠ none → p ∈ hy.wrs nx) ∧ indep ops (t.i, hy, nx) (i, h, s0.nx + nbL pre) = true := fun t ht hDt => by
      obtain ⟨hy, nx, oy, h1, h2, h3, h4⟩ := htr1 t ht
      refine ⟨hy, nx, oy, h2, h3, h4, ?_⟩
      rcases hR1 _ h1 with h5 | ⟨h5, _⟩
      · have := hbef _ h5; rw [hDt] at this; cases this
      · exact h5
    -- the second part of the trace, this one ahead
    have htr2 : ∀ m : List Nat, evTr P ops ((i, h) :: post) m s1 = [] ∨ ∃ e s2 m', s2.nx = s1.nx + h.nb ∧ evTr P ops ((i, h) :: post) m s1 = ⟨i, o.dst, e⟩ :: evTr P ops post m' s2 := fun m => by
      simp only [evTr]
      split
      · rw [ho]
        simp only
        split
        · rename_i vc e he
          exact .inr ⟨e, s1.apply o.dst e h.nb, m.drop h.nn, rfl, rfl⟩
        · exact .inl rfl
      · exact .inl rfl
    have hside : ∀ t ∈ evTr P ops ((i, h) :: post) n2 s1, D t.i = true → ∃ hy nx oy, ops[t.i]? = some oy ∧ t.dst = oy.dst ∧
        (∀ p, look t.e.upd p ≠ none → p ∈ hy.wrs nx) ∧ indep ops (i, h, s0.nx + nbL pre) (t.i, hy, nx) = true := fun t ht hDt => by
      rcases htr2 n2 with h0 | ⟨e, s2, m', hs2, h0⟩
      · rw [h0] at ht; cases ht
      · rw [h0] at ht
        rcases List.mem_cons.1 ht with rfl | ht
        · rw [hDi'] at hDt; cases hDt
        · exact hindpost m' s2 hs2 t ht hDt
    have hs1eq : s1.fs = ov (fun j => decide (∃ y ∈ pre, y.1 = j)) s0.fs (evTr P ops pre n1 s0 ++ evTr P ops ((i, h) :: post) n2 s1) := by
      rw [ov_append, ov_none, g6]
      · exact ov_congr fun t ht => by simpa using (hpreidx t ht)
      · intro t ht
        rcases htr2 n2 with h0 | ⟨e, s2, m', hs2, h0⟩
        · rw [h0] at ht; cases ht
        · rw [h0] at ht
          refine decide_eq_false ?_
          rintro ⟨y, hy, hyi⟩
          rcases List.mem_cons.1 ht with rfl | ht
          · exact hipre y hy hyi
          · obtain ⟨z, hz, hzi⟩ := hpostidx m' s2 t ht
            exact hprepost y hy z hz (hyi.trans hzi.symm)
    have hDsame : ∀ t ∈ evTr P ops pre n1 s0 ++ evTr P ops ((i, h) :: post) n2 s1,
        (D t.i = decide (∃ y ∈ pre, y.1 = t.i)) ∨ (∃ hy nx oy, ops[t.i]? = some oy ∧ t.dst = oy.dst ∧ (∀ p, look t.e.upd p ≠ none → p ∈ hy.wrs nx) ∧
          (indep ops (t.i, hy, nx) (i, h, s0.nx + nbL pre) = true ∨ indep ops (i, h, s0.nx + nbL pre) (t.i, hy, nx) = true)) := fun t ht => by
      rcases List.mem_append.1 ht with ht | ht
      · cases hDt : D t.i with
        | true => exact .inl (decide_eq_true (hpreidx t ht)).symm
        | false =>
          obtain ⟨hy, nx, oy, k1, k2, k3, k4⟩ := hindpre t ht hDt
          exact .inr ⟨hy, nx, oy, k1, k2, k3, .inl k4⟩
      · cases hDt : D t.i with
        | true =>
          obtain ⟨hy, nx, oy, k1, k2, k3, k4⟩ := hside t ht hDt
          exact .inr ⟨hy, nx, oy, k1, k2, k3, .inr k4⟩
        | false =>
          refine .inl (decide_eq_false ?_).symm
          rintro ⟨y, hy, hyi⟩
          rcases htr2 n2 with h0 | ⟨e, s2, m', hs2, h0⟩
          · rw [h0] at ht; cases ht
          · rw [h0] at ht
            rcases List.mem_cons.1 ht with rfl | ht
            · exact hipre y hy hyi
            · obtain ⟨z, hz, hzi⟩ := hpostidx m' s2 t ht
              exact hprepost y hy z hz (hyi.trans hzi.symm)
    have hcong : ∀ nsi, evOp P ops o (ov D s0.fs (evTr P ops pre n1 s0 ++ evTr P ops ((i, h) :: post) n2 s1)) s1.nx nsi h = evOp P ops o s1.fs s1.nx nsi h := fun nsi => by
      refine evOp_congr (opOk_sel hokop) (fun t ht => ?_) (fun p ro hp => ?_)
      · rw [hs1eq]
        refine ov_env rfl fun u hu hud => ?_
        rcases hDsame u hu with h1 | ⟨hy, nx, oy, k1, k2, k3, k4 | k4⟩
        · exact h1
        · obtain ⟨k5, _, _⟩ := indep_get k1 ho k4
          exact absurd ht ((Oper.apart_spec k5).1 t (by rw [← k2]; exact hud))
        · obtain ⟨k5, _, _⟩ := indep_get ho k1 k4
          exact absurd ht ((Oper.apart_spec k5).2.2 t (by rw [← k2]; exact hud))
      · rw [hs1eq]
        have hpt : p ∈ h.tch (s0.nx + nbL pre) := by
          unfold OpH.tch; exact List.mem_append_left _ (List.mem_map.2 ⟨(p, ro), hp, rfl⟩)
        refine ov_mem rfl fun u hu hud => ?_
        rcases hDsame u hu with h1 | ⟨hy, nx, oy, k1, k2, k3, k4 | k4⟩
        · exact h1
        · obtain ⟨_, k5, _⟩ := indep_get k1 ho k4
          exact absurd hpt (k5 p (k3 p hud))
        · obtain ⟨_, _, k5⟩ := indep_get ho k1 k4
          exact absurd hpt (k5 p (k3 p hud))
    -- it is done
    refine op_sound (nx := s1.nx) (h := h) ho hsat (opOk_sel hokop) (fun nsi hnsi => ?_) (fun nsi vc e w2 hnsi hev hvc hpost => ?_)
    · obtain ⟨vc, e, _, he, hvc⟩ := hop nsi hnsi
      exact ⟨vc, e, by rw [hcong]; exact he, hvc⟩
    · rw [hcong] at hev
      have hsat2 := sat_apply hsat (opOk_dst hokop) hpost
      have hadv2 := hadv.trans hpost.adv
      -- the new list
      have hD' : ∀ j, (l.setIfInBounds i true).getD j false = if i = j then true else D j := fun j => by
        by_cases hij : i = j
        · subst hij; simp [Array.getD_eq_getD_getElem?, hil]
        · rw [getD_set_ne false hij, if_neg hij, ← hDdef]
      have hD'pre : ∀ y ∈ pre, (l.setIfInBounds i true).getD y.1 false = D y.1 := fun y hy => by rw [hD', if_neg (fun e => hipre y hy e.symm)]
      have hD'post : ∀ y ∈ post, (l.setIfInBounds i true).getD y.1 false = D y.1 := fun y hy => by rw [hD', if_neg (fun e => hipost y hy e.symm)]
      have hD'i : (l.setIfInBounds i true).getD i false = true := by rw [hD', if_pos rfl]
      refine ⟨by simp [hsz], fun j oj hoj hj e he hb => ?_, ?_⟩
      · show (l.setIfInBounds i true).getD e.on false = true
        have hj : (l.setIfInBounds i true).getD j false = true := hj
        rw [hD']
        split
        · rfl
        · rw [hD'] at hj
          split at hj
          · rename_i hij
            subst hij
            rw [ho] at hoj; injection hoj with hoj; subst hoj
            exact hP e he hb
          · exact hcl j oj hoj hj e he hb
      have hA : ov (fun j => (l.setIfInBounds i true).getD j false) s0.fs (evTr P ops pre n1 s0) = ov D s0.fs (evTr P ops pre n1 s0) := ov_congr fun t ht => by
        obtain ⟨y, hy, hyi⟩ := hpreidx t ht
        rw [← hyi]; exact hD'pre y hy
      have hcre' : ∀ y ∈ pre, y.2.nn ≠ 0 → (l.setIfInBounds i true).getD y.1 false = true := fun y hy hn => by rw [hD'pre y hy]; exact hcre y hy hn
      by_cases hnn : h.nn = 0
      · have hnsi0 : nsi = [] := by simpa [hnn] using hnsi
        subst hnsi0
        have hgpost : GN D post n2 := by
          rcases hg2 with hk | hk | hk
          · exact hk.2
          · exact (hk.1 hnn).elim
          · exact (hk.1 hnn).elim
        have htr : evTr P ops ((i, h) :: post) n2 s1 = ⟨i, o.dst, e⟩ :: evTr P ops post n2 (s1.apply o.dst e h.nb) := by
          have hb : Nat.ble h.nn n2.length = true := by rw [hnn, Nat.ble_eq]; exact Nat.zero_le _
          simp only [evTr, hb, ho]
          rw [hnn, List.take_zero, hev, List.drop_zero]
        refine ⟨n1 ++ n2, ?_, ?_⟩
        · rw [hks]
          exact GN_join hcre' hn1 (.inl ⟨hnn, GN_congr (fun y hy => (hD'post y hy).symm) hgpost⟩)
        · have heq : ov (fun j => (l.setIfInBounds i true).getD j false) s0.fs (evTr P ops ks (n1 ++ n2) s0) =
              (ov D s0.fs (evTr P ops pre n1 s0 ++ evTr P ops ((i, h) :: post) n2 s1)).apply o.dst e := by
            rw [hks, g7 n2, ov_append, ov_append, hA, htr]
            simp only [ov, hD'i, hDi']
            have : ov (fun j => (l.setIfInBounds i true).getD j false) ((ov D s0.fs (evTr P ops pre n1 s0)).apply o.dst e) (evTr P ops post n2 (s1.apply o.dst e h.nb)) =
                ov D ((ov D s0.fs (evTr P ops pre n1 s0)).apply o.dst e) (evTr P ops post n2 (s1.apply o.dst e h.nb)) := ov_congr fun t ht => by
              obtain ⟨y, hy, hyi⟩ := hpostidx _ _ t ht
              rw [← hyi]; exact hD'post y hy
            rw [this]
            refine ov_apply (u := ⟨i, o.dst, e⟩) fun t ht hDt => ?_
            obtain ⟨hy, nx, oy, k1, k2, k3, k4⟩ := hindpost n2 (s1.apply o.dst e h.nb) rfl t ht hDt
            obtain ⟨k5, k6, k7⟩ := indep_get ho k1 k4
            refine ⟨fun x hx hx' => (Oper.apart_spec k5).2.1 x hx' (by rw [← k2]; exact hx), fun p => ?_⟩
            by_cases hp : look t.e.upd p = none
            · exact .inl hp
            · by_cases hp2 : look e.upd p = none
              · exact .inr hp2
              · have h8 := evOp_wrs hev p hp2
                rw [hnx1] at h8
                exact absurd (wrs_tch h8) (k7 p (k3 p hp))
          rw [heq]
          exact ⟨hsat2, hadv2⟩
      · obtain ⟨hn2, hpostD⟩ : n2 = [] ∧ ∀ x ∈ post, D x.1 = false := by
          rcases hg2 with ⟨k1, _⟩ | ⟨_, k2, _⟩ | ⟨_, _, k3, k4⟩
          · exact absurd k1 hnn
          · rw [hDi'] at k2; cases k2
          · exact ⟨k3, k4⟩
        subst hn2
        have htr0 : evTr P ops ((i, h) :: post) [] s1 = [] := by
          have hb : Nat.ble h.nn ([] : List Nat).length = false := by
            cases hx : Nat.ble h.nn ([] : List Nat).length with
            | false => rfl
            | true => exact absurd (Nat.le_of_ble_eq_true hx) (by simp; omega)
          simp only [evTr, hb]
        have htr : evTr P ops ((i, h) :: post) nsi s1 = ⟨i, o.dst, e⟩ :: evTr P ops post [] (s1.apply o.dst e h.nb) := by
          have hb : Nat.ble h.nn nsi.length = true := by rw [hnsi, Nat.ble_eq]; exact Nat.le_refl _
          simp only [evTr, hb, ho]
          rw [List.take_of_length_le (by omega), hev, List.drop_of_length_le (by omega)]
        refine ⟨n1 ++ nsi, ?_, ?_⟩
        · rw [hks]
          refine GN_join hcre' hn1 (.inr (.inl ⟨hnn, hD'i, by omega, ?_⟩))
          rw [List.drop_of_length_le (by omega)]
          exact GN_none fun y hy => by rw [hD'post y hy]; exact hpostD y hy
        · have heq : ov (fun j => (l.setIfInBounds i true).getD j false) s0.fs (evTr P ops ks (n1 ++ nsi) s0) =
              (ov D s0.fs (evTr P ops pre n1 s0 ++ evTr P ops ((i, h) :: post) [] s1)).apply o.dst e := by
            rw [hks, g7 nsi, ov_append, hA, htr, htr0, List.append_nil]
            simp only [ov, hD'i]
            refine ov_none fun t ht => ?_
            obtain ⟨y, hy, hyi⟩ := hpostidx _ _ t ht
            rw [← hyi, hD'post y hy]; exact hpostD y hy
          rw [heq]
          exact ⟨hsat2, hadv2⟩
  · -- fuel
    unfold unl
    simp
  · -- at the start
    have hD0 : ∀ j, (Array.replicate ops.size false).getD j false = false := fun j => by
      simp [Array.getD_eq_getD_getElem?, Array.getElem?_replicate]
      split <;> rfl
    refine ⟨by simp, fun j o _ hj => ?_, [], GN_none fun x _ => hD0 x.1, ?_⟩
    · have hj : (Array.replicate ops.size false).getD j false = true := hj
      rw [hD0] at hj; cases hj
    rw [ov_none fun t _ => hD0 t.i]
    exact ⟨hs.drew, ⟨rfl, rfl, rfl, Nat.le_refl _, fun _ _ _ => rfl, fun _ h => .inl h, fun _ _ h _ => h⟩⟩

end Go.Eng
