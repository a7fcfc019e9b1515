/-
  Rows of elements of many cells whose room holds whatever it held; what is appended to them; halves.
-/
import Derived.Test.YtflbdmbiceenjaaHeap
import Derived.Test.YtflbdmbiceenjaaInvoke
namespace Go.Eng
set_option linter.unusedSimpArgs false
set_option linter.unusedVariables false
set_option maxRecDepth 100000
/-- One more behind the first len; the rest is as it was, or new. -/
def pshG {α : Type} (g : Nat → α) (len : Nat) (x z : α) (b nm : Nat) : Nat → α := fun j => if j < len then g j else if j = len then x else if nm = b then g j else z
theorem pshG_K {α β : Type} (K : α → β) (g : Nat → α) (len : Nat) (x z : α) (b nm : Nat) : (fun j => K (pshG g len x z b nm j)) = pshG (fun j => K (g j)) len (K x) (K z) b nm := by
  funext j; unfold pshG; split
  · rfl
  · split
    · rfl
    · split <;> rfl
theorem pshG_lt {α : Type} {g : Nat → α} {len : Nat} {x z : α} {b nm k : Nat} (h : k < len) : pshG g len x z b nm k = g k := if_pos h
theorem pshG_eq {α : Type} {g : Nat → α} {len : Nat} {x z : α} {b nm : Nat} : pshG g len x z b nm len = x := by unfold pshG; rw [if_neg (Nat.lt_irrefl _), if_pos rfl]
section
variable {P : Program} {t ty e : TypeId} {i : TypeInfo} {z : Value} {sz : Nat} {zc : List Value}
theorem srunJ_append (ht : P.underlying t = some (.slice e)) (hi : P.info? e = some i) (hz : i.zero = some z) (hsz : i.size = sz) (hs0 : 0 < sz) (hzc : z.cells.toList = zc) (hzl : zc.length = sz)
    {b len c k bo os cc : Nat} {g : Nat → List Value} {x : List Value} {S : Cont} (hle : len ≤ c) (hg : ∀ k, (g k).length = sz) (hx : x.length = sz) (hS : ∀ j, j < sz → S.get (os + j) = x[j]?) (h1 : x.all Value.oneCell' = true)
    (hb : (len + 1) * i.bytes ≤ 140737488355328) (hb2 : len + 1 ≤ 9223372036854775807) :
    SRuns P (appendSem t ty (.slice (some ⟨b, 0, none⟩) len c) (.slice (some ⟨k, bo + os, none⟩) 1 cc)) [⟨b, true, 0, .tab c sz g⟩, ⟨k, false, bo, S⟩] 2
      (fun ns => .slice (some ⟨ns.getD 0 0, 0, none⟩) (len + 1) (len + 1 + ns.getD 1 0))
      (fun ns => [some ⟨ns.getD 0 0, true, 0, .tab (len + 1 + ns.getD 1 0) sz (pshG g len x zc b (ns.getD 0 0))⟩, some ⟨k, false, bo, S⟩]) := by
  intro w hall ha
  have hA : Holds ⟨b, true, 0, .tab c sz g⟩ w := hall _ (by simp)
  have hK : Holds ⟨k, false, bo, S⟩ w := hall _ (by simp)
  have hnews : ∀ j u, x[j]? = some u → w.cell? ((⟨k, bo + os, none⟩ : Addr).add j) = some u := fun j u hj => by
    have hjn : j < sz := by rw [← hx]; exact (List.getElem?_eq_some_iff.1 hj).1
    rw [add_none, Nat.add_assoc]
    exact hK.cell _ _ (by rw [hS j hjn, hj])
  have hone : ∀ u ∈ x, u.oneCell' = true := List.all_eq_true.1 h1
  have hm : ∀ p c', listMem [some ⟨b, true, 0, .tab c sz g⟩, some ⟨k, false, bo, S⟩] p = some c' → Holds c' w := fun p c' hc => hall c' (List.mem_of_getElem? (listMem_some (l := [⟨b, true, 0, .tab c sz g⟩, ⟨k, false, bo, S⟩]).1 hc))
  have hpl : ∀ nm k, (pshG g len x zc b nm k).length = sz := fun nm k => by unfold pshG; split; exact hg _; split; exact hx; split; exact hg _; exact hzl
  have hdm : ∀ o, len * sz ≤ o → o < len * sz + sz → o / sz = len ∧ o % sz = o - len * sz := fun o h1 h2 => by
    have e : o = sz * len + (o - len * sz) := by rw [Nat.mul_comm]; omega
    constructor
    · rw [e, Nat.mul_add_div hs0, Nat.div_eq_of_lt (by omega), Nat.add_zero]
    · rw [e, Nat.mul_add_mod, Nat.mod_eq_of_lt (by omega)]; rw [Nat.mul_comm sz len]; omega
  have hdlt : ∀ o, o < len * sz → o / sz < len := fun o h => div_lt_row h
  have hdgt : ∀ o, len * sz + sz ≤ o → len < o / sz := fun o h => by
    rw [Nat.lt_iff_add_one_le, Nat.le_div_iff_mul_le hs0, Nat.add_mul, Nat.one_mul]; exact h
  have hcf : ∀ o nm, cf sz (pshG g len x zc b nm) o = if o < len * sz then cf sz g o else if o < len * sz + sz then x.getD (o - len * sz) undef else if nm = b then cf sz g o else zc.getD (o % sz) undef := fun o nm => by
    unfold cf pshG
    by_cases h2 : o < len * sz
    · rw [if_pos (hdlt o h2), if_pos h2]
    · by_cases h3 : o < len * sz + sz
      · obtain ⟨e1, e2⟩ := hdm o (by omega) h3
        rw [if_neg (by omega), if_pos e1, if_neg h2, if_pos h3, e2]
      · have := hdgt o (by omega)
        rw [if_neg (by omega), if_neg (by omega), if_neg h2, if_neg h3]
        split <;> rfl
  have hadd : (len + 1) * sz = len * sz + sz := Nat.succ_mul _ _
  by_cases hr : len + 1 ≤ c
  · -- there is room
    have hle2 : len * sz + sz ≤ c * sz := by rw [← hadd]; exact Nat.mul_le_mul_right _ hr
    have hget : ∀ j, j < sz → ∃ u, (Cont.tab c sz g).get (len * sz + j) = some u := fun j hj => ⟨_, tabE_in hs0 (fun k _ => hg k) (by omega)⟩
    have hrun := run_append_room_cells (P := P) w t ty e i ht hi b 0 len c ⟨k, bo + os, none⟩ 1 cc x (by simp [hsz, hx]) hnews hone (by omega)
      (fun j hj => by
        obtain ⟨u, hu⟩ := hget j (by omega)
        have := hA.cell _ _ hu
        rw [show 0 + len * i.size + j = 0 + (len * sz + j) by rw [hsz]; omega, this]; rfl)
      (fun j hj => by
        obtain ⟨u, hu⟩ := hget j (by omega)
        have := hA.free rfl _ _ hu
        rw [show 0 + len * i.size + j = 0 + (len * sz + j) by rw [hsz]; omega]; exact this)
    have hrun2 : (Builtin.append_ #[t, t] ty #[.slice (some ⟨b, 0, none⟩) len c, .slice (some ⟨k, bo + os, none⟩) 1 cc]).run P w = .ok (.slice (some ⟨b, 0, none⟩) (len + 1) (len + 1 + (c - len - 1))) (w.setCells b (0 + len * i.size) x) := by
      rw [show len + 1 + (c - len - 1) = c by omega]; exact hrun
    refine ⟨[b, c - len - 1], _, rfl, .inl (run_value hrun2), ?_⟩
    have hp := post_cells (m := listMem [some ⟨b, true, 0, .tab c sz g⟩, some ⟨k, false, bo, S⟩]) (w := w) (p := 0) (b := ⟨b, true, 0, .tab c sz g⟩) (o0 := len * sz) (cs := x)
      (c := .tab c sz (pshG g len x zc b b)) hm ha rfl rfl rfl (fun j hj => hget j (by omega)) (fun j => by
        rw [hx]
        by_cases hj : j < c * sz
        · rw [tabE_in hs0 (fun k _ => hpl b k) hj, hcf]
          by_cases h2 : j < len * sz
          · rw [if_pos h2, if_neg (by omega), tabE_in hs0 (fun k _ => hg k) hj]
          · by_cases h3 : j < len * sz + sz
            · rw [if_neg h2, if_pos h3, if_pos (by omega), List.getD_eq_getElem?_getD, List.getElem?_eq_getElem (by omega)]; rfl
            · rw [if_neg h2, if_neg h3, if_pos rfl, if_neg (by omega), tabE_in hs0 (fun k _ => hg k) hj]
        · rw [tabE_out hj, if_neg (by omega), tabE_out hj])
    rw [listMem_set0] at hp
    have e1 : len + 1 + (c - len - 1) = c := by omega
    simpa [hsz, e1] using hp
  · -- it grows
    have hce : c = len := by omega
    subst hce
    have hgr : c < c + 1 := by omega
    have hrun := run_append_grow (P := P) w t ty e i z ht hi hz ⟨b, 0, none⟩ c c ((List.range (c * sz)).map (cf sz g)) (by simp [hsz])
      (fun j v hj => by
        obtain ⟨hjn, rfl⟩ := map_range_get hj
        rw [add_none, Nat.zero_add]
        have := hA.cell j (cf sz g j) (tabE_in hs0 (fun k _ => hg k) hjn)
        rw [Nat.zero_add] at this; exact this)
      ⟨k, bo + os, none⟩ 1 cc x (by simp [hsz, hx]) hnews hgr (by omega) (growslice_fits hgr hb)
    have hge := grownCap_ge w (c + 1) c e
    obtain ⟨q, hq⟩ : ∃ q, grownCap w (c + 1) c e = c + 1 + q := ⟨_, (Nat.add_sub_cancel' hge).symm⟩
    rw [hq] at hrun
    refine ⟨[w.heap.size, q], _, rfl, .inl (run_value hrun), ?_⟩
    have hp0 := Post.drew hm ha
    have hp := hp0.trans (post_new hp0.holds hp0.apart 0 (((List.range (c * sz)).map (cf sz g)).toArray ++ x.toArray ++ Builtin.zeroCells z.cells (c + 1 + q - (c + 1))) e)
    rw [show w.drew.heap.size = w.heap.size from rfl, listMem_set0] at hp
    have hnb : ¬ w.heap.size = b := fun h => by have := hA.lt; simp only at this; omega
    have hc : ∀ o v, (Cont.tab (c + 1 + q) sz (pshG g c x zc b w.heap.size)).get o = some v →
        (Cont.lit (((List.range (c * sz)).map (cf sz g)).toArray ++ x.toArray ++ Builtin.zeroCells z.cells (c + 1 + q - (c + 1))).toList).get o = some v := fun o v ho => by
      rw [show c + 1 + q - (c + 1) = q by omega]
      simp only [Cont.get, Array.toList_append, List.append_assoc]
      have hall3 : (c + 1 + q) * sz = c * sz + sz + q * sz := by rw [Nat.add_mul, Nat.add_mul, Nat.one_mul]
      by_cases h0 : o < (c + 1 + q) * sz
      · rw [tabE_in hs0 (fun k _ => hpl _ k) h0, hcf] at ho
        by_cases h2 : o < c * sz
        · rw [if_pos h2] at ho
          rw [List.getElem?_append_left (by simp; exact h2), List.getElem?_map, List.getElem?_range h2]; exact ho
        · rw [if_neg h2] at ho
          rw [List.getElem?_append_right (by simp; omega)]
          simp only [List.length_map, List.length_range]
          by_cases h3 : o < c * sz + sz
          · rw [if_pos h3, List.getD_eq_getElem?_getD, List.getElem?_eq_getElem (by omega)] at ho
            rw [List.getElem?_append_left (by omega)]
            rw [List.getElem?_eq_getElem (by omega)]; exact ho
          · rw [if_neg h3, if_neg hnb] at ho
            rw [List.getElem?_append_right (by omega)]
            simp only [hx]
            rw [zeroCells_many hzc q _ (by rw [hzl]; omega), ← ho, hzl]
            rw [show o - c * sz - sz = o - sz * (c + 1) by rw [Nat.mul_comm sz, hadd]; omega, Nat.sub_mul_mod]
            rw [Nat.mul_comm, hadd]; omega
      · rw [tabE_out h0] at ho; cases ho
    have hN := (hp.holds 0 _ rfl).recont rfl hc
    refine ⟨fun p d hpc => ?_, fun p p' d d' hpp hc1 hd ho => ?_, ⟨hp.adv.os, hp.adv.output, hp.adv.tape, hp.adv.size, hp.adv.heap, fun j hj => ?_, fun p d hpc ho => ?_⟩⟩
    · rcases p with _ | _ | p
      · injection hpc with hpc; subst hpc; exact hN
      · injection hpc with hpc; subst hpc; exact hp.holds 1 _ rfl
      · simp [listMem] at hpc
    · rcases p with _ | _ | p
      · injection hc1 with hc1; subst hc1
        rcases p' with _ | _ | p'
        · exact absurd rfl hpp
        · injection hd with hd; subst hd
          have h01 := hp.apart 0 1 _ _ (by omega) rfl rfl rfl
          exact h01
        · simp [listMem] at hd
      · injection hc1 with hc1; subst hc1; cases ho
      · simp [listMem] at hc1
    · obtain ⟨p, d, hpc, ho, rfl⟩ := hj
      rcases p with _ | _ | p
      · injection hpc with hpc; subst hpc
        exact .inr (Nat.le_refl _)
      · injection hpc with hpc; subst hpc; cases ho
      · simp [listMem] at hpc
    · rcases p with _ | _ | p
      · injection hpc with hpc; subst hpc; cases ho
      · exact hpc
      · simp [listMem] at hpc
theorem mkJ_append {B : Nat} (ht : P.underlying t = some (.slice e)) (h1 : AggC P e zc sz B) (b len c k bo os cc : Nat) {α : Type} (K : α → List Value) (hK : ∀ a, (K a).length = sz ∧ (K a).all Value.oneCell' = true) (g : Nat → α) (x z0 : α) (hz0 : K z0 = zc) (S : Cont)
    (hS : ∀ j, j < sz → S.get (os + j) = (K x)[j]?) (hle : len ≤ c) (hb : (len + 1) * B ≤ 140737488355328 ∧ len + 1 ≤ 9223372036854775807) :
    SRuns P (appendSem t ty (.slice (some ⟨b, 0, none⟩) len c) (.slice (some ⟨k, bo + os, none⟩) 1 cc)) [⟨b, true, 0, .tab c sz fun k => K (g k)⟩, ⟨k, false, bo, S⟩] 2
      (fun ns => .slice (some ⟨ns.getD 0 0, 0, none⟩) (len + 1) (len + 1 + ns.getD 1 0))
      (fun ns => [some ⟨ns.getD 0 0, true, 0, .tab (len + 1 + ns.getD 1 0) sz fun k => K (pshG g len x z0 b (ns.getD 0 0) k)⟩, some ⟨k, false, bo, S⟩]) := by
  obtain ⟨i, z, hi, hz, hsz, hB, hzc, hzl, hs0⟩ := h1
  subst hB
  have := srunJ_append (P := P) (t := t) (ty := ty) ht hi hz hsz hs0 hzc hzl (b := b) (len := len) (c := c) (k := k) (bo := bo) (os := os) (cc := cc) (g := fun k => K (g k)) (x := K x) (S := S) hle (fun _ => (hK _).1) (hK x).1 hS (hK x).2 hb.1 hb.2
  simp only [pshG_K, hz0]
  exact this
theorem mkJ_append_nil {B : Nat} (ht : P.underlying t = some (.slice e)) (h1 : AggC P e zc sz B) (k bo os cc : Nat) {α : Type} (K : α → List Value) (hK : ∀ a, (K a).length = sz ∧ (K a).all Value.oneCell' = true) (x z0 : α) (hz0 : K z0 = zc) (S : Cont)
    (hS : ∀ j, j < sz → S.get (os + j) = (K x)[j]?) (hb : 1 * B ≤ 140737488355328) :
    SRuns P (appendSem t ty (.slice none 0 0) (.slice (some ⟨k, bo + os, none⟩) 1 cc)) [⟨k, false, bo, S⟩] 2
      (fun ns => .slice (some ⟨ns.getD 0 0, 0, none⟩) 1 (1 + ns.getD 1 0))
      (fun ns => [some ⟨k, false, bo, S⟩, some ⟨ns.getD 0 0, true, 0, .tab (1 + ns.getD 1 0) sz fun k => K (pshG (fun _ => z0) 0 x z0 0 0 k)⟩]) := by
  have h2 := mkE_append_nil (P := P) (t := t) (ty := ty) (e := e) ht h1 k bo os 1 cc K hK (fun _ => x) S (fun j hj => by
    obtain ⟨i, z, hi, hz, hsz, hB, hzc, hzl, hs0⟩ := h1
    have hj' : j < sz := by omega
    rw [hS j hj']
    unfold cf
    rw [Nat.mod_eq_of_lt hj', List.getD_eq_getElem?_getD, List.getElem?_eq_getElem (by rw [(hK x).1]; exact hj')]
    rfl) ⟨by omega, hb, by omega⟩
  have e : ∀ c, sprE sz c 1 (fun k => K x) zc = .tab c sz fun k => K (pshG (fun _ => z0) 0 x z0 0 0 k) := fun c => by
    unfold sprE
    congr 1
    funext k
    unfold pshG
    by_cases hk : k = 0
    · subst hk; rfl
    · rw [if_neg (by omega), if_neg (by omega), if_neg hk]; exact hz0.symm
  simp only [e] at h2
  exact h2
end
section
variable {P : Program} {t t' : TypeId} {x y : Operand}
theorem is_half (j : Nat) (h : j ≤ 9223372036854775807) : IsOp P (.binOp .quo t x y t') [int ((j : Int) - ((1 : Nat) : Int)), int 2] (nat ((j - 1) / 2)) := isOp_bin guard_int (by
  show pureRun P (Op.intDiv .quo .i64 ((j : Int) - ((1 : Nat) : Int)) (2 : Int)) = _
  unfold Op.intDiv
  rw [if_neg (by omega)]
  show some (Value.int .i64 (IntKind.i64.wrap (((j : Int) - ((1 : Nat) : Int)).tdiv 2))) = _
  have e : ((j : Int) - ((1 : Nat) : Int)).tdiv 2 = (((j - 1) / 2 : Nat) : Int) := by
    rcases Nat.eq_zero_or_pos j with h0 | h0
    · subst h0; rfl
    · rw [Int.tdiv_eq_ediv_of_nonneg (by omega)]; omega
  rw [e]
  generalize he : (j - 1) / 2 = q
  rw [wrap_i64 _ (by omega)]; rfl)
end
/-- An element's store in a row. -/
theorem store_tabK {sz n : Nat} {α : Type} (K : α → List Value) (hK : ∀ a, (K a).length = sz) (f : Nat → α) (i : Nat) (v : α) : (Cont.tab n sz fun k => K (f k)).store (.tab i 0) (K v) = some (.tab n sz fun k => K (upd f i v k)) := by
  simp only [Cont.store, hK, Nat.zero_add]
  have e1 : Nat.ble sz sz = true := by simp
  simp only [e1, Nat.beq_refl, Bool.and_self]
  congr 2
  funext k
  unfold upd
  by_cases h : k = i
  · subst h; rw [if_pos rfl, if_pos rfl]; unfold splice; simp [hK, List.drop_eq_nil_of_le]
  · rw [if_neg h, if_neg h]
theorem get_lit {l : List Value} (o : Nat) : (Cont.lit l).get (0 + o) = l[o]? := by rw [Nat.zero_add]; rfl
/-! ### one is put into a heap -/
section
variable {α : Type} {lt : α → α → Bool}
theorem push_ok (h : SWO lt) {f g : Nat → α} {n : Nat} {x : α} (hp : HpB lt 0 f n) (hg : ∀ k, k < n → g k = f k) (hx : g n = x) : HpB lt 0 (upF lt g n) (n + 1) ∧ (∀ S, En f n S → ¬ S x → En (upF lt g n) (n + 1) fun y => S y ∨ y = x) ∧ ∀ k, n + 1 ≤ k → upF lt g n k = g k := by
  obtain ⟨h1, h2, h3⟩ := upF_ok h (n := n + 1) n g (by omega) ⟨fun k h0 hk hkn => by rw [hg k (by omega), hg ((k - 1) / 2) (by omega)]; exact hp k h0 (by omega) (Nat.zero_le _), fun k h0 hk e => by omega⟩
  refine ⟨h1, fun S hS hn => h2 _ ((hS.push hn).congr fun k hk => ?_), h3⟩
  unfold catU
  by_cases hk2 : k < n
  · rw [if_pos hk2]; exact hg k hk2
  · rw [if_neg hk2, show k = n by omega]; exact hx
theorem up_end {F : Nat → α} {j : Nat} (h : selB (decide ((j - 1) / 2 = j)) true (!(lt (F j) (F ((j - 1) / 2)))) = true) : j = 0 ∨ lt (F j) (F ((j - 1) / 2)) = false := by
  cases hb : lt (F j) (F ((j - 1) / 2)) with
  | false => exact .inr rfl
  | true =>
    rw [hb] at h
    by_cases e : (j - 1) / 2 = j
    · exact .inl (by omega)
    · simp [selB, e] at h
theorem up_step {F f : Nat → α} {j j0 n : Nat} (B0 : j < n) (B1 : upF lt F j = upF lt f j0) (h : selB (decide ((j - 1) / 2 = j)) true (!(lt (F j) (F ((j - 1) / 2)))) = false) :
    ((j - 1) / 2 < n ∧ upF lt (swp F ((j - 1) / 2) j) ((j - 1) / 2) = upF lt f j0) ∧ (j - 1) / 2 < j := by
  have e : ¬ (j - 1) / 2 = j := fun e => by simp [selB, e] at h
  have hl : lt (F j) (F ((j - 1) / 2)) = true := by
    cases hb : lt (F j) (F ((j - 1) / 2)) with
    | true => rfl
    | false => rw [hb] at h; simp [selB, e] at h
  refine ⟨⟨by omega, ?_⟩, by omega⟩
  rw [← upF_go (by omega) hl]; exact B1
theorem dn_none {F f : Nat → α} {i i0 m : Nat} (B1 : dnF lt m F i = dnF lt m f i0) (h : m ≤ 2 * i + 1) : dnF lt m f i0 = (F, i) := by
  rw [← B1]; exact dnF_end (.inl h)
theorem dn_r {F f : Nat → α} {i i0 m : Nat} (B1 : dnF lt m F i = dnF lt m f i0) (h2 : selB (decide (2 * i + 1 + 1 < m)) (lt (F (2 * i + 1 + 1)) (F (2 * i + 1))) false = true) (h3 : (!(lt (F (2 * i + 1 + 1)) (F i))) = true) : dnF lt m f i0 = (F, i) := by
  rw [← B1]
  refine dnF_end (.inr ?_)
  have : pick lt m F i = 2 * i + 2 := by
    unfold pick; rw [if_pos]
    by_cases e : 2 * i + 1 + 1 < m
    · simp [selB, e] at h2; exact ⟨e, h2⟩
    · simp [selB, e] at h2
  rw [this]; simpa using h3
theorem dn_l {F f : Nat → α} {i i0 m : Nat} (B1 : dnF lt m F i = dnF lt m f i0) (h2 : selB (decide (2 * i + 1 + 1 < m)) (lt (F (2 * i + 1 + 1)) (F (2 * i + 1))) false = false) (h3 : (!(lt (F (2 * i + 1)) (F i))) = true) : dnF lt m f i0 = (F, i) := by
  rw [← B1]
  refine dnF_end (.inr ?_)
  have : pick lt m F i = 2 * i + 1 := by
    unfold pick; rw [if_neg]
    rintro ⟨e, e2⟩
    have e : 2 * i + 1 + 1 < m := e
    have e2 : lt (F (2 * i + 1 + 1)) (F (2 * i + 1)) = true := e2
    simp [selB, e, e2] at h2
  rw [this]; simpa using h3
theorem dn_step_r {F f : Nat → α} {i i0 m n : Nat} (hm : m ≤ n) (hn : n ≤ 1000000) (B0 : i ≤ 1000000) (B1 : dnF lt m F i = dnF lt m f i0) (h0 : 2 * i + 1 < m) (h2 : selB (decide (2 * i + 1 + 1 < m)) (lt (F (2 * i + 1 + 1)) (F (2 * i + 1))) false = true) (h3 : (!(lt (F (2 * i + 1 + 1)) (F i))) = false) :
    (2 * i + 1 + 1 ≤ 1000000 ∧ dnF lt m (swp F i (2 * i + 1 + 1)) (2 * i + 1 + 1) = dnF lt m f i0) ∧ 1000000 - (2 * i + 1 + 1) < 1000000 - i := by
  by_cases e : 2 * i + 1 + 1 < m
  · have e2 : lt (F (2 * i + 1 + 1)) (F (2 * i + 1)) = true := by simpa [selB, e] using h2
    have hp : pick lt m F i = 2 * i + 1 + 1 := by unfold pick; exact if_pos ⟨e, e2⟩
    refine ⟨⟨by omega, ?_⟩, by omega⟩
    have := dnF_go (lt := lt) (f := F) h0 (by rw [hp]; simpa using h3)
    rw [hp] at this; rw [← this]; exact B1
  · simp [selB, e] at h2
theorem dn_step_l {F f : Nat → α} {i i0 m n : Nat} (hm : m ≤ n) (hn : n ≤ 1000000) (B0 : i ≤ 1000000) (B1 : dnF lt m F i = dnF lt m f i0) (h0 : 2 * i + 1 < m) (h2 : selB (decide (2 * i + 1 + 1 < m)) (lt (F (2 * i + 1 + 1)) (F (2 * i + 1))) false = false) (h3 : (!(lt (F (2 * i + 1)) (F i))) = false) :
    (2 * i + 1 ≤ 1000000 ∧ dnF lt m (swp F i (2 * i + 1)) (2 * i + 1) = dnF lt m f i0) ∧ 1000000 - (2 * i + 1) < 1000000 - i := by
  have hp : pick lt m F i = 2 * i + 1 := by
    unfold pick; rw [if_neg]
    rintro ⟨e, e2⟩
    have e : 2 * i + 1 + 1 < m := e
    have e2 : lt (F (2 * i + 1 + 1)) (F (2 * i + 1)) = true := e2
    simp [selB, e, e2] at h2
  refine ⟨⟨by omega, ?_⟩, by omega⟩
  have := dnF_go (lt := lt) (f := F) h0 (by rw [hp]; simpa using h3)
  rw [hp] at this; rw [← this]; exact B1
end
end Go.Eng
