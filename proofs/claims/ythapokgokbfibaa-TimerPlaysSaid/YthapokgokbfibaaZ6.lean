/-
  Many in one: EngY.
-/
import Derived.Test.YthapokgokbfibaaZ5
import Derived.ChangeSame
section
namespace Go.Eng
set_option linter.unusedVariables false
def cutN (n : Nat) (h : Nat → N4) : Nat → N4 := fun k => if k < n then h k else ⟨0, 0, 0, 0⟩
theorem cutN_zero (h : Nat → N4) : (fun _ => N4.mk 0 0 0 0) = cutN 0 h := by funext k; simp [cutN]
theorem cutN_at {n k : Nat} {h : Nat → N4} (hk : k < n) : cutN n h k = h k := if_pos hk
theorem cutN_next {h : Nat → N4} {k : Nat} {w : N4} (hw : w = h k) : cutN (k + 1) h = upd (cutN k h) k w := by
  funext j
  unfold cutN upd
  by_cases h1 : j = k
  · subst h1; rw [if_pos (by omega), if_pos rfl, hw]
  · by_cases h2 : j < k
    · rw [if_pos (by omega), if_neg h1]; exact (if_pos h2).symm
    · rw [if_neg (by omega), if_neg h1]; exact (if_neg h2).symm
theorem store_tabN_as (n : Nat) (f : Nat → N4) (i : Nat) (v : N4) (g : Nat → N4) (hg : g = upd f i v) : (tabN n f).store (.tab i 0) [u64 v.a, u64 v.b, u64 v.c, u64 v.d] = some (tabN n g) := by rw [hg]; exact store_tabN n f i v
def cellsP (a : N4 × N4) : List Value := [u64 a.1.a, u64 a.1.b, u64 a.1.c, u64 a.1.d, u64 a.2.a, u64 a.2.b, u64 a.2.c, u64 a.2.d]
theorem cellsP_ok (a : N4 × N4) : (cellsP a).length = 8 ∧ (cellsP a).all Value.oneCell' = true := ⟨rfl, rfl⟩
abbrev tabP (n : Nat) (f : Nat → N4 × N4) : Cont := .tab n 8 fun k => cellsP (f k)
def prow2 (a b : N4 × N4) : Nat → N4 × N4 := fun k => match k with
  | 0 => a
  | _ => b
theorem to_prow2 (a b : N4 × N4) : ∀ o v, (tabP 2 (prow2 a b)).get o = some v → (Cont.lit [u64 a.1.a, u64 a.1.b, u64 a.1.c, u64 a.1.d, u64 a.2.a, u64 a.2.b, u64 a.2.c, u64 a.2.d, u64 b.1.a, u64 b.1.b, u64 b.1.c, u64 b.1.d, u64 b.2.a, u64 b.2.b, u64 b.2.c, u64 b.2.d]).get o = some v := fun o v h => by
  have ho : o < 2 * 8 := Decidable.byContradiction fun hn => by rw [Cont.get_tab_out hn] at h; cases h
  rw [Cont.get_tab ho] at h
  rcases o with _ | _ | _ | _ | _ | _ | _ | _ | _ | _ | _ | _ | _ | _ | _ | _ | o
  all_goals first | exact h | omega
section
variable {P : Program} {t ty e : TypeId}
theorem sprE_as {sz c len : Nat} {g g' : Nat → List Value} {zc : List Value} (h : ∀ k, k < len → g' k = g k) : sprE sz c len g zc = sprE sz c len g' zc := by
  unfold sprE
  congr 1
  funext k
  split
  · rename_i hk; exact (h k hk).symm
  · rfl
theorem mkE_append_as {sz B : Nat} {zc : List Value} (ht : P.underlying t = some (.slice e)) (h1 : AggC P e zc sz B) (b len r k bo os n cc : Nat) {α : Type} (K : α → List Value) (hK : ∀ a, (K a).length = sz ∧ (K a).all Value.oneCell' = true) (g h : Nat → α) (S : Cont)
    (hS : ∀ j, j < n * sz → S.get (os + j) = some (cf sz (fun k => K (h k)) j)) (hb : (len + n) * B ≤ 140737488355328 ∧ len + n ≤ 9223372036854775807) (g' : Nat → α) (hg : ∀ k, k < len + n → g' k = catU g len h k) :
    SRuns P (appendSem t ty (.slice (some ⟨b, 0, none⟩) len (len + r)) (.slice (some ⟨k, bo + os, none⟩) n cc)) [⟨b, true, 0, sprE sz (len + r) len (fun k => K (g k)) zc⟩, ⟨k, false, bo, S⟩] 2
      (fun ns => .slice (some ⟨ns.getD 0 0, 0, none⟩) (len + n) (len + n + ns.getD 1 0))
      (fun ns => [some ⟨ns.getD 0 0, true, 0, sprE sz (len + n + ns.getD 1 0) (len + n) (fun k => K (g' k)) zc⟩, some ⟨k, false, bo, S⟩]) := by
  have h2 := mkE_append (P := P) (t := t) (ty := ty) (e := e) ht h1 b len r k bo os n cc K hK g h S hS hb
  have e2 : ∀ c, sprE sz c (len + n) (fun k => K (catU g len h k)) zc = sprE sz c (len + n) (fun k => K (g' k)) zc := fun c => sprE_as fun k hk => by rw [hg k hk]
  simp only [e2] at h2
  exact h2
theorem mkE_append_nil_as {sz B : Nat} {zc : List Value} (ht : P.underlying t = some (.slice e)) (h1 : AggC P e zc sz B) (k bo os n cc : Nat) {α : Type} (K : α → List Value) (hK : ∀ a, (K a).length = sz ∧ (K a).all Value.oneCell' = true) (h : Nat → α) (S : Cont)
    (hS : ∀ j, j < n * sz → S.get (os + j) = some (cf sz (fun k => K (h k)) j)) (hb : 0 < n ∧ n * B ≤ 140737488355328 ∧ n ≤ 9223372036854775807) (g' : Nat → α) (hg : ∀ k, k < n → g' k = h k) :
    SRuns P (appendSem t ty (.slice none 0 0) (.slice (some ⟨k, bo + os, none⟩) n cc)) [⟨k, false, bo, S⟩] 2
      (fun ns => .slice (some ⟨ns.getD 0 0, 0, none⟩) n (n + ns.getD 1 0))
      (fun ns => [some ⟨k, false, bo, S⟩, some ⟨ns.getD 0 0, true, 0, sprE sz (n + ns.getD 1 0) n (fun k => K (g' k)) zc⟩]) := by
  have h2 := mkE_append_nil (P := P) (t := t) (ty := ty) (e := e) ht h1 k bo os n cc K hK h S hS hb
  have e2 : ∀ c, sprE sz c n (fun k => K (h k)) zc = sprE sz c n (fun k => K (g' k)) zc := fun c => sprE_as fun k hk => by rw [hg k hk]
  simp only [e2] at h2
  exact h2
theorem cat_one {α : Type} {g g' : Nat → α} {len : Nat} {x : α} (h1 : ∀ k, k < len → g' k = g k) (h2 : g' len = x) : ∀ k, k < len + 1 → g' k = catU g len (fun _ => x) k := fun k hk => by
  unfold catU
  by_cases h : k < len
  · rw [if_pos h]; exact h1 k h
  · rw [if_neg h, show k = len by omega]; exact h2
end
section
open Go.ChangeShapes Go.WideShapes Go.ChangeAt Go.RowKit Go.Deep
variable {H : Type} {enc : TypeId × Value → H} {P : Program}
def pairT (P : Program) (e a : TypeId) : Bool := match P.underlying e with
  | some (.struct fs) => match fs.toList with
    | [f0, f1] => Nat.beq f0.type a && (Nat.beq f0.offset 0 && (Nat.beq f1.type a && Nat.beq f1.offset 4))
    | _ => false
  | _ => false
theorem pairT_get {P : Program} {e a : TypeId} (h : pairT P e a = true) : ∃ f0 f1 : Field, P.underlying e = some (.struct #[f0, f1]) ∧ (f0.type = a ∧ f0.offset = 0) ∧ (f1.type = a ∧ f1.offset = 4) := by
  unfold pairT at h
  split at h
  · rename_i fs hf
    split at h
    · rename_i f0 f1 hl
      simp only [Bool.and_eq_true] at h
      obtain ⟨h1, h2, h3, h4⟩ := h
      refine ⟨f0, f1, ?_, ⟨Nat.eq_of_beq_eq_true h1, Nat.eq_of_beq_eq_true h2⟩, ⟨Nat.eq_of_beq_eq_true h3, Nat.eq_of_beq_eq_true h4⟩⟩
      rw [hf]
      have : fs = #[f0, f1] := by cases fs; simp_all
      rw [this]
    · cases h
  · cases h
theorem open_sliceP {r : Reach} {b0 : Nat} {W : World} {base : Nat} {sp : Nat → Bool} {held : Bool} {t e a u : TypeId} {v : Value} {d : DataW H} {ps : List MemPlace} (ht : P.underlying t = some (.slice e)) (hp : pairT P e a = true)
    (ha : P.underlying a = some (.array 4 u)) (hu : P.underlying u = some (.int .u64))
    (hcu : P.cellsOf u = 1) (hca : P.cellsOf a = 4) (hc : P.cellsOf e = 8) (hval : Value.okWide P W r b0 t v) (hd : DataW.Trod enc P W base sp held t v d ps) :
    (∃ ao c, v = .slice ao 0 c) ∨ ∃ (b o n c : Nat) (f : Nat → N4 × N4), v = .slice (some ⟨b, o, none⟩) n c ∧ 0 < n ∧ n ≤ 9223372036854775807 ∧ Holds ⟨b, false, o, .tab n 8 fun k => cellsP (f k)⟩ W := by
  obtain ⟨f0, f1, he, hf0, hf1⟩ := pairT_get hp
  exact open_sliceE (α := N4 × N4) cellsP (fun _ => rfl) (by decide) ht hc (fun n cs x hl h => by
    obtain ⟨y0, y1, m, _, _, g0, g1⟩ := trod_struct2 he h
    rw [hf0.1, hf0.2, hca] at g0
    rw [hf1.1, hf1.2, hca] at g1
    obtain ⟨a0, e0⟩ := nat4_of_row ha hu hcu (by simp [hl]) g0
    obtain ⟨a1, e1⟩ := nat4_of_row ha hu hcu (by simp [hl]) g1
    refine ⟨(a0, a1), ?_⟩
    rw [List.drop_zero] at e0
    have h4 : (cs.drop 4).take 4 = cs.drop 4 := List.take_of_length_le (by simp [hl])
    rw [h4] at e1
    have := List.take_append_drop 4 cs
    rw [← this, e0, e1]
    rfl) hval hd
end
end Go.Eng
end
