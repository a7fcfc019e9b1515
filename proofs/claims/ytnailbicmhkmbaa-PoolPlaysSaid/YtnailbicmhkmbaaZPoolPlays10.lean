/-
  Many in one: Timer2, LendV.
-/
import Derived.Test.YtnailbicmhkmbaaZPoolPlays9
set_option linter.unusedVariables false
set_option linter.unusedSimpArgs false
set_option maxRecDepth 100000
set_option maxHeartbeats 1000000
section
namespace Go.Eng
def clearSem (t ty : TypeId) (x : Value) : Sem Next := do pure (.value (← Builtin.clear_ #[t] ty #[x]))
def clrF {α : Type} (g : Nat → α) (i m : Nat) (z : α) : Nat → α := fun k => if i ≤ k ∧ k < i + m then z else g k
section
variable {P : Program} {t ty e : TypeId} {sz B : Nat} {zc : List Value}
theorem run_zeroValue' {i : TypeInfo} {z : Value} (hi : P.info? e = some i) (hz : i.zero = some z) (w : World) : (zeroValue e).run P w = .ok z w := by
  simp [zeroValue, typeInfo, hi, hz]
theorem mkJ_clear (ht : P.underlying t = some (.slice e)) (h1 : AggC P e zc sz B) (b c i m cc : Nat) {α : Type} (K : α → List Value) (hK : ∀ a, (K a).length = sz ∧ (K a).all Value.oneCell' = true) (g : Nat → α) (z0 : α) (hz0 : K z0 = zc) (hi : i + m ≤ c) :
    SRuns P (clearSem t ty (.slice (fromA (some ⟨b, 0, none⟩) c i sz) m cc)) [⟨b, true, 0, .tab c sz fun k => K (g k)⟩] 0 (fun _ => .tuple #[])
      (fun _ => [some ⟨b, true, 0, .tab c sz fun k => K (clrF g i m z0 k)⟩]) := by
  obtain ⟨inf, z, hin, hz, hsz, hB, hzc, hzl, hs0⟩ := h1
  intro w hall ha
  have hA : Holds ⟨b, true, 0, .tab c sz fun k => K (g k)⟩ w := hall _ (by simp)
  have hm : ∀ p c', listMem [some ⟨b, true, 0, .tab c sz fun k => K (g k)⟩] p = some c' → Holds c' w := fun p c' hc => hall c' (List.mem_of_getElem? (listMem_some (l := [⟨b, true, 0, .tab c sz fun k => K (g k)⟩]).1 hc))
  rcases Nat.eq_zero_or_pos m with h0 | h0
  · subst h0
    have hrun : (Builtin.clear_ #[t] ty #[.slice (fromA (some ⟨b, 0, none⟩) c i sz) 0 cc]).run P w = .ok (.tuple #[]) w := by
      unfold fromA
      split <;> simp [Builtin.clear_, run_underlying ht]
    have e0 : clrF g i 0 z0 = g := by funext k; unfold clrF; rw [if_neg (by omega)]
    rw [e0]
    exact ⟨[], w, rfl, .inl (run_value hrun), Post.refl hm ha⟩
  · have hfa : fromA (some ⟨b, 0, none⟩) c i sz = some ⟨b, i * sz, none⟩ := by
      unfold fromA; rw [if_neg (by omega)]; simp [add_none]
    rw [hfa]
    have hlen : (Builtin.zeroCells z.cells m).toList.length = m * sz := by
      unfold Builtin.zeroCells
      have : z.cells.size = sz := by rw [← hzl, ← hzc]; simp
      simp [this]
    have hcs : ∀ j, j < m * sz → (Builtin.zeroCells z.cells m).toList[j]? = some (zc.getD (j % sz) undef) := fun j hj => by
      rw [zeroCells_many hzc m j (by rw [hzl]; exact hj), hzl]
    have hle : (i + m) * sz ≤ c * sz := Nat.mul_le_mul_right _ hi
    have hadd : (i + m) * sz = i * sz + m * sz := Nat.add_mul _ _ _
    have hget : ∀ j, j < c * sz → ∃ u, (Cont.tab c sz fun k => K (g k)).get j = some u := fun j hj => ⟨_, tabE_in hs0 (fun k _ => (hK _).1) hj⟩
    have hone : ∀ v ∈ (Builtin.zeroCells z.cells m).toList, v.oneCell' = true := fun v hv => by
      obtain ⟨j, hj, rfl⟩ := List.getElem_of_mem hv
      have h2 := hcs j (by rw [← hlen]; exact hj)
      rw [List.getElem?_eq_getElem hj] at h2
      injection h2 with h2
      rw [h2]
      have h3 : j % sz < zc.length := by rw [hzl]; exact Nat.mod_lt _ hs0
      rw [List.getD_eq_getElem?_getD, List.getElem?_eq_getElem h3]
      have := (hK z0).2
      rw [hz0] at this
      exact List.all_eq_true.1 this _ (List.getElem_mem h3)
    have hst := run_storeCells_cells (P := P) b (i * sz) (Builtin.zeroCells z.cells m).toList 0 w (fun j hj => by
        obtain ⟨u, hu⟩ := hget (i * sz + j) (by rw [hlen] at hj; omega)
        have := hA.cell _ _ hu
        rw [Nat.zero_add] at this
        rw [Nat.add_zero, this]; rfl)
      (fun j hj => by
        obtain ⟨u, hu⟩ := hget (i * sz + j) (by rw [hlen] at hj; omega)
        have := hA.free rfl _ _ hu
        rw [Nat.zero_add] at this
        rw [Nat.add_zero]; exact this) hone
    have hrun : (Builtin.clear_ #[t] ty #[.slice (some ⟨b, i * sz, none⟩) m cc]).run P w = .ok (.tuple #[]) (w.setCells b (i * sz) (Builtin.zeroCells z.cells m).toList) := by
      obtain ⟨m', rfl⟩ : ∃ q, m = q + 1 := ⟨m - 1, by omega⟩
      simp only [Nat.add_zero] at hst
      simp [Builtin.clear_, run_underlying ht, run_zeroValue' hin hz, hst]
    refine ⟨[], _, rfl, .inl (run_value hrun), ?_⟩
    have hp := post_cells (m := listMem [some ⟨b, true, 0, .tab c sz fun k => K (g k)⟩]) (w := w) (p := 0) (b := ⟨b, true, 0, .tab c sz fun k => K (g k)⟩) (o0 := i * sz) (cs := (Builtin.zeroCells z.cells m).toList)
      (c := .tab c sz fun k => K (clrF g i m z0 k)) hm ha rfl rfl rfl rfl (fun j hj => hget _ (by rw [hlen] at hj; omega)) (fun j => by
        rw [hlen]
        by_cases hj : j < c * sz
        · rw [tabE_in hs0 (fun k _ => (hK _).1) hj]
          have hd1 : i ≤ j / sz ↔ i * sz ≤ j := Nat.le_div_iff_mul_le hs0
          have hd2 : j / sz < i + m ↔ j < (i + m) * sz := Nat.div_lt_iff_lt_mul hs0
          by_cases h2 : i * sz ≤ j ∧ j < i * sz + m * sz
          · rw [if_pos h2, hcs (j - i * sz) (by omega)]
            have e1 : (j - i * sz) % sz = j % sz := by rw [Nat.mul_comm i sz]; exact Nat.sub_mul_mod (by rw [Nat.mul_comm]; exact h2.1)
            have e2 : clrF g i m z0 (j / sz) = z0 := by unfold clrF; rw [if_pos ⟨hd1.2 h2.1, hd2.2 (by omega)⟩]
            show some ((K (clrF g i m z0 (j / sz))).getD (j % sz) undef) = _
            rw [e1, e2, hz0]
          · rw [if_neg h2, tabE_in hs0 (fun k _ => (hK _).1) hj]
            have e2 : clrF g i m z0 (j / sz) = g (j / sz) := by
              unfold clrF; rw [if_neg]
              rintro ⟨h3, h4⟩
              exact h2 ⟨hd1.1 h3, by have := hd2.1 h4; omega⟩
            show some ((K (clrF g i m z0 (j / sz))).getD (j % sz) undef) = some ((K (g (j / sz))).getD (j % sz) undef)
            rw [e2]
        · rw [tabE_out hj, if_neg (by omega), tabE_out hj])
    have hs1 : memApply (listMem [some (⟨b, true, 0, .tab c sz fun k => K (g k)⟩ : Blk)]) [(0, some ⟨b, true, 0, .tab c sz fun k => K (clrF g i m z0 k)⟩)] = listMem [some ⟨b, true, 0, .tab c sz fun k => K (clrF g i m z0 k)⟩] := by
      funext q
      rcases q with _ | q
      · rfl
      · rfl
    simp only [Nat.zero_add] at hp
    rw [hs1] at hp
    exact hp
end
def kc (f : Nat → TmR) (id : Int) : Nat → Nat
  | 0 => 0
  | k + 1 => kc f id k + if (f k).i = id then 0 else 1
def kf (f : Nat → TmR) (id : Int) : Nat → Nat → TmR
  | 0 => f
  | k + 1 => if (f k).i = id then kf f id k else upd (kf f id k) (kc f id k) (f k)
theorem kf_en {f : Nat → TmR} {id : Int} {n : Nat} (hi : ∀ j k, j < n → k < n → f j = f k → j = k) : ∀ k, k ≤ n → En (kf f id k) (kc f id k) fun x => x.i ≠ id ∧ ∃ j, j < k ∧ f j = x
  | 0, _ => En.none.iff fun x => ⟨fun ⟨_, j, h, _⟩ => absurd h (Nat.not_lt_zero j), fun h => h.elim⟩
  | k + 1, hk => by
    have ih := kf_en (id := id) hi k (by omega)
    by_cases h : (f k).i = id
    · have e1 : kf f id (k + 1) = kf f id k := by rw [kf, if_pos h]
      have e2 : kc f id (k + 1) = kc f id k := by rw [kc, if_pos h]; rfl
      rw [e1, e2]
      refine ih.iff fun x => ⟨?_, fun ⟨h1, j, hj, e⟩ => ⟨h1, j, by omega, e⟩⟩
      rintro ⟨h1, j, hj, rfl⟩
      refine ⟨h1, j, ?_, rfl⟩
      by_cases e : j = k
      · subst e; exact absurd h h1
      · omega
    · have e1 : kf f id (k + 1) = upd (kf f id k) (kc f id k) (f k) := by rw [kf, if_neg h]
      have e2 : kc f id (k + 1) = kc f id k + 1 := by rw [kc, if_neg h]
      rw [e1, e2]
      have hp := ih.push (x := f k) (by
        rintro ⟨_, j, hj, e⟩
        have := hi j k (by omega) (by omega) e
        omega)
      refine (hp.congr fun j hj => ?_).iff fun x => ⟨?_, ?_⟩
      · unfold upd catU
        by_cases h2 : j = kc f id k
        · rw [if_pos h2, if_neg (by omega)]
        · rw [if_neg h2, if_pos (by omega)]
      · rintro ⟨h1, j, hj, rfl⟩
        by_cases e : j = k
        · subst e; exact .inr rfl
        · exact .inl ⟨h1, j, by omega, rfl⟩
      · rintro (⟨h1, j, hj, rfl⟩ | rfl)
        · exact ⟨h1, j, by omega, rfl⟩
        · exact ⟨h, k, by omega, rfl⟩
def delF (f : Nat → TmR) (id : Int) (n : Nat) : Nat → TmR := clrF (kf f id n) (kc f id n) (n - kc f id n) tmZ
theorem delF_in {f : Nat → TmR} {id : Int} {n k : Nat} (h : k < kc f id n) : delF f id n k = kf f id n k := by unfold delF clrF; rw [if_neg (by omega)]
section
variable {α : Type} {lt : α → α → Bool}
def iniH (lt : α → α → Bool) (n : Nat) : Nat → (Nat → α) → Nat → α
  | 0, f => f
  | k + 1, f => iniH lt n k (dnF lt n f k).1
theorem iniH_ok (h : SWO lt) {n : Nat} : ∀ (k : Nat) (f : Nat → α), HpB lt k f n → HpB lt 0 (iniH lt n k f) n ∧ ∀ S, En f n S → En (iniH lt n k f) n S
  | 0, f, hp => ⟨hp, fun S hS => hS⟩
  | k + 1, f, hp => by
    obtain ⟨h1, h2, _⟩ := dnF_ok h (b := k) (n := n) n k f (by omega) ⟨fun j h0 hj hb hne => hp j h0 hj (by omega), fun h0 hb => by omega⟩
    obtain ⟨h3, h4⟩ := iniH_ok h k _ h1
    exact ⟨h3, fun S hS => h4 S (h2 n S (Nat.le_refl _) hS)⟩
theorem ini_ok (h : SWO lt) {n : Nat} {f : Nat → α} : HpB lt 0 (iniH lt n (n / 2) f) n ∧ ∀ S, En f n S → En (iniH lt n (n / 2) f) n S :=
  iniH_ok h _ f fun k h0 hk hb => by omega
end
def canF (f : Nat → TmR) (id : Int) (n : Nat) : Nat → TmR := iniH ltT (kc f id n) (kc f id n / 2) (delF f id n)
def keepL (id : Int) (L : List TmR) : List TmR := L.filter fun x => !decide (x.i = id)
theorem keep_up {id : Int} {L : List TmR} (h : L.Pairwise fun x y => ltT x y = true) : (keepL id L).Pairwise fun x y => ltT x y = true := List.Pairwise.filter _ h
theorem en_len {F : Nat → TmR} {n : Nat} {L : List TmR} (h : En F n (· ∈ L)) (hu : L.Pairwise fun x y => ltT x y = true) : L.length = n := by
  have hnd : L.Nodup := hu.imp fun {a b} hab e => by subst e; rw [ltT_swo.irr] at hab; cases hab
  have h1 : ((List.range n).map F).Nodup := by
    unfold List.Nodup
    rw [List.pairwise_map]
    refine List.Pairwise.imp_of_mem ?_ List.pairwise_lt_range
    intro a b ha hb hab e
    have := h.inj a b (List.mem_range.1 ha) (List.mem_range.1 hb) e
    omega
  have h2 : ((List.range n).map F).Perm L := by
    rw [List.perm_ext_iff_of_nodup h1 hnd]
    intro a
    simp only [List.mem_map, List.mem_range]
    constructor
    · rintro ⟨k, hk, rfl⟩; exact h.mem k hk
    · intro ha; exact h.sur a ha
  have := h2.length_eq
  simpa using this.symm
theorem Std.cancel {F : Nat → TmR} {n : Nat} {L : List TmR} (h : Std F n L) (id : Int) : Std (canF F id n) (kc F id n) (keepL id L) := by
  have h1 := (kf_en (f := F) (id := id) h.en.inj n (Nat.le_refl _)).congr (g := delF F id n) fun k hk => delF_in hk
  obtain ⟨h2, h3⟩ := ini_ok ltT_swo (n := kc F id n) (f := delF F id n)
  have h4 : En (canF F id n) (kc F id n) (· ∈ keepL id L) := (h3 _ h1).iff fun x => by
    unfold keepL
    rw [List.mem_filter]
    constructor
    · rintro ⟨h5, h6⟩
      obtain ⟨j, hj, e⟩ := h.en.sur x h5
      exact ⟨by simpa using h6, j, hj, e⟩
    · rintro ⟨h5, j, hj, rfl⟩
      exact ⟨h.en.mem j hj, by simpa using h5⟩
  exact ⟨h2, h4, keep_up h.up, en_len h4 (keep_up h.up)⟩
theorem Std.congr {F G : Nat → TmR} {n : Nat} {L : List TmR} (h : Std F n L) (hg : ∀ k, k < n → G k = F k) : Std G n L :=
  ⟨fun k h0 hk hb => by rw [hg k hk, hg _ (by omega)]; exact h.hp k h0 hk hb, h.en.congr hg, h.up, h.len⟩
theorem Std.add {F : Nat → TmR} {n : Nat} {L : List TmR} {x : TmR} {b nm : Nat} (h : Std F n L) (hn : ∀ y ∈ L, y.n.toNat < x.n.toNat) : Std (upF ltT (pshG F n x tmZ b nm) (n + 1 - 1)) (n + 1) (insT x L) :=
  Std.push h (fun k hk => pshG_lt hk) pshG_eq hn
theorem Std.next {F : Nat → TmR} {n : Nat} {x : TmR} {L : List TmR} (h : Std F n (x :: L)) : Std (popF ltT F (n - 1)) (n - 1) L := h.pop.2.2.2
theorem Std.gone {F : Nat → TmR} {n : Nat} {L : List TmR} (h : Std F n L) (id : Int) : kc F id n = (keepL id L).length := (h.cancel id).len.symm
end Go.Eng
end
section
namespace Go.Eng
def recG (D : Grw UInt8) : BytL := ⟨gsA D, D.n, gsC D, D.nm, 0, D.f⟩
theorem recG_ok {D : Grw UInt8} (h : D.ok) (hl : D.n ≤ 9223372036854775807) : OkB (recG D) := ⟨gs_le h, fun h0 => gsA_own (h.pos h0), hl⟩
theorem recG_fam {D : Grw UInt8} (h : D.ok) {w : World} (hb : ∀ b, roO (gsE u8C [u8 0] 1 D) = some b → Holds b w) : FamH (famB (recG D)) w := fun b hb' => by
  obtain ⟨h0, rfl⟩ := hb'
  have hz := h.pos h0
  have h1 := hb ⟨D.nm, false, 0, spr (D.n + D.r) D.n (fun k => u8 (D.f k)) (u8 0)⟩ (by rw [gsE_u8, grO_own hz]; rfl)
  exact ⟨holds_sprB h1, rfl⟩
theorem ro_own {c : Option Blk} : ∀ b, roO c = some b → b.own = false := fun b hb => by
  cases c with
  | none => cases hb
  | some x => injection hb with hb; rw [← hb]
end Go.Eng
end
