/-
  Slices of bytes, as they are handed in; copies of bytes; families of such.
-/
import Derived.Test.YtkbiahdnfhokgaaDoorEngZ
import Derived.Test.YtkbiahdnfhokgaaDoorEngY
import Derived.Test.YtkbiahdnfhokgaaDoorFams
namespace Go.Eng
set_option linter.unusedSimpArgs false
set_option linter.unusedVariables false
set_option maxRecDepth 100000

/-- Slices of bytes. -/
structure BytL where
  wa : Option Addr
  wn : Nat
  wc : Nat
  wb : Nat
  wo : Nat
  wf : Nat → UInt8
def slqV (q : BytL) : Value := .slice q.wa q.wn q.wc
def bytB (q : BytL) : Blk := ⟨q.wb, false, q.wo, tabF q.wn fun k => u8 (q.wf k)⟩
structure OkB (q : BytL) : Prop where
  cap : q.wn ≤ q.wc
  ad : 0 < q.wn → q.wa = some ⟨q.wb, q.wo, none⟩
  len : q.wn ≤ 9223372036854775807
def famB (q : BytL) (b : Blk) : Prop := 0 < q.wn ∧ b = bytB q
/-- Parts of a slice. -/
def bytT (x : BytL) (k : Nat) : BytL := ⟨x.wa, k, x.wc, x.wb, x.wo, x.wf⟩
def bytF (x : BytL) (k : Nat) : BytL := ⟨fromA x.wa x.wc k 1, x.wn - k, x.wc - k, x.wb, x.wo + k, fun i => x.wf (i + k)⟩
def bytO (nm n c : Nat) (f : Nat → UInt8) : BytL := ⟨some ⟨nm, 0, none⟩, n, c, nm, 0, f⟩
def bytZ (a : Option Addr) (c : Nat) : BytL := ⟨a, 0, c, 0, 0, fun _ => 0⟩
theorem okb_to {x : BytL} {k : Nat} (h : OkB x) (hk : k ≤ x.wn) : OkB (bytT x k) := ⟨Nat.le_trans hk h.cap, fun h0 => h.ad (Nat.lt_of_lt_of_le h0 hk), Nat.le_trans hk h.len⟩
theorem okb_from {x : BytL} {k : Nat} (h : OkB x) (hk : k ≤ x.wn) : OkB (bytF x k) := ⟨Nat.sub_le_sub_right h.cap k, fun h0 => by
  have h1 : 0 < x.wn - k := h0
  show fromA x.wa x.wc k 1 = some ⟨x.wb, x.wo + k, none⟩
  have hc := h.cap
  unfold fromA
  rw [if_neg (by omega), h.ad (by omega)]
  simp [add_none], Nat.le_trans (Nat.sub_le _ _) h.len⟩
theorem okb_own {nm n c : Nat} {f : Nat → UInt8} (h1 : n ≤ c) (h2 : n ≤ 9223372036854775807) : OkB (bytO nm n c f) := ⟨h1, fun _ => rfl, h2⟩
theorem okb_nil {a : Option Addr} {c : Nat} : OkB (bytZ a c) := ⟨Nat.zero_le _, fun h => absurd h (Nat.lt_irrefl 0), Nat.zero_le _⟩
theorem tabU_less {nm o n k : Nat} {f : Nat → UInt8} {w : World} (h : Holds ⟨nm, false, o, tabF n fun k => u8 (f k)⟩ w) (hk : k ≤ n) : Holds ⟨nm, false, o, tabF k fun k => u8 (f k)⟩ w :=
  h.recont rfl fun j v hj => by
    by_cases hl : j < k
    · rw [tabF_in hl] at hj
      rw [tabF_in (by omega)]; exact hj
    · rw [tabF_out hl] at hj; cases hj
theorem tabU_tail {nm o n k : Nat} {f : Nat → UInt8} {w : World} (h : Holds ⟨nm, false, o, tabF n fun k => u8 (f k)⟩ w) (hk : k ≤ n) : Holds ⟨nm, false, o + k, tabF (n - k) fun i => u8 (f (i + k))⟩ w := by
  refine ⟨h.lt, fun j v hj => ?_, (fun hb => by cases hb), obj_not rfl⟩
  by_cases hl : j < n - k
  · rw [tabF_in hl] at hj
    have := h.cell (k + j) v (by show (tabF n _).get (k + j) = _; rw [tabF_in (by omega)]; rw [Nat.add_comm k j]; exact hj)
    show w.cell? ⟨nm, o + k + j, none⟩ = some v
    rw [Nat.add_assoc]; exact this
  · rw [tabF_out hl] at hj; cases hj
theorem holdb_own {nm n c : Nat} {f : Nat → UInt8} {w : World} (h : Holds ⟨nm, false, 0, tabF n fun k => u8 (f k)⟩ w) : FamH (famB (bytO nm n c f)) w := fun b hb => by
  obtain ⟨_, rfl⟩ := hb
  exact ⟨h, rfl⟩
theorem holdb_nil {a : Option Addr} {c : Nat} {w : World} : FamH (famB (bytZ a c)) w := fun b hb => absurd hb.1 (Nat.lt_irrefl 0)
theorem holdb_to {x : BytL} {k : Nat} {w : World} (hk : k ≤ x.wn) (h : FamH (famB x) w) : FamH (famB (bytT x k)) w := fun b hb => by
  obtain ⟨h0, rfl⟩ := hb
  have h1 : 0 < k := h0
  obtain ⟨h2, _⟩ := h (bytB x) ⟨by omega, rfl⟩
  exact ⟨tabU_less h2 hk, rfl⟩
theorem holdb_from {x : BytL} {k : Nat} {w : World} (hk : k ≤ x.wn) (h : FamH (famB x) w) : FamH (famB (bytF x k)) w := fun b hb => by
  obtain ⟨h0, rfl⟩ := hb
  have h1 : 0 < x.wn - k := h0
  obtain ⟨h2, _⟩ := h (bytB x) ⟨by omega, rfl⟩
  exact ⟨tabU_tail h2 hk, rfl⟩
theorem hold_or {F G : Blk → Prop} {w : World} (hx : FamH F w) (hy : FamH G w) : FamH (fun b => F b ∨ G b) w := fun b hb => by
  rcases hb with hb | hb
  · exact hx b hb
  · exact hy b hb
section
variable {P : Program} {t e t' : TypeId} {x y z : Operand}
/-- a[i:] of an array in memory, by a number of any kind. -/
theorem is_slArr {n : Nat} (ht : P.underlying t = some (.array n e)) (hs : sizeB P e = some 1) (b o i : Nat) (k : IntKind) (hi : i ≤ n) :
    IsOp P (.slice t x (some y) none none) [ptr b o, .int k (i : Int)] (.slice (some ⟨b, if n = i then o else o + i, none⟩) (n - i) (n - i)) := by
  intro ρ o' ho hv
  rw [ho] at hv
  have hv' : [ρ x, ρ y] = [ptr b o, .int k (i : Int)] := hv
  injection hv' with h1 hv'
  injection hv' with h2 _
  unfold execOp
  rw [ho]
  simp only [Option.map]
  show pureRun P (Sem.bind (Instr.sliceAt t (ρ x) (some (ρ y)) none none) fun v => Sem.pure (Next.value v)) = _
  rw [pureRun_bind, h1, h2]
  have hi' : 0 ≤ (i : Int) ∧ (i : Int) ≤ (n : Int) := by omega
  have e : pureRun P (Instr.sliceAt t (ptr b o) (some (.int k (i : Int))) none none) = some (.slice (some ⟨b, if n = i then o else o + i, none⟩) (n - i) (n - i)) := by
    simp only [Instr.sliceAt, Instr.slice, ptr, Instr.sliceBounds, Instr.sliceBound, nat, pureRun_bind', asIntOf, pureRun, pure, pureRun_underlying ht, hi', and_self, if_true, pureRun_sizeOf hs, Int.toNat_natCast]
    by_cases h : n = i
    · simp [h, Instr.sureAddr, pureRun, pure]
    · simp [h, Instr.sureAddr, pureRun, pure, add_none, Nat.mul_one]
  rw [e]
  rfl
end
section
variable {P : Program} {t ty e : TypeId}
theorem mk_build0 {B : Nat} {z : Value} (ht : P.underlying t = some (.slice e)) (h1 : OneC P e z B) {α : Type} (K : α → Value) (g : Nat → α) :
    SRuns P (buildSem t 0 #[]) [] 1 (fun ns => .slice (some ⟨ns.getD 0 0, 0, none⟩) 0 0) (fun ns => [some ⟨ns.getD 0 0, true, 0, spr (0 + 0) 0 (fun k => K (g k)) z⟩]) := by
  obtain ⟨i, hi, hz, hsz, hB, hzc⟩ := h1
  have h0 : SRuns P (buildSem t 0 #[]) [] 1 (fun ns => .slice (some ⟨ns.getD 0 0, 0, none⟩) 0 0) (fun ns => [some ⟨ns.getD 0 0, true, 0, .lit (#[] : Array Value).toList⟩]) := srun_made (e := e) fun w => by
    refine run_value ?_
    simp [Instr.buildSlice, run_underlying ht, sizeOf, typeInfo, hi, newRow, Instr.fill]
    exact congrArg (fun a => w.alloc (Obj.cells a e)) (Array.eq_empty_of_size_eq_zero (by simp))
  exact h0.recont (C' := fun _ => spr (0 + 0) 0 (fun k => K (g k)) z) (fun _ => rfl) fun ns o v ho => by
    rw [spr, tabF_out (by omega)] at ho; cases ho
theorem mk_append0 {B : Nat} {z : Value} (ht : P.underlying t = some (.slice e)) (h1 : OneC P e z B) (b : Nat) (C : Cont) (al : Option Addr) (cl : Nat) :
    SRuns P (appendSem t ty (.slice (some ⟨b, 0, none⟩) 0 (0 + 0)) (.slice al 0 cl)) [⟨b, true, 0, C⟩] 1 (fun ns => .slice (some ⟨ns.getD 0 0, 0, none⟩) 0 (0 + 0)) (fun ns => [some ⟨ns.getD 0 0, true, 0, C⟩]) := by
  obtain ⟨i, hi, hz, hsz, hB, hzc⟩ := h1
  intro w hall ha
  refine ⟨[b], w, rfl, .inl (run_value ?_), Post.refl (fun p c h => ?_) ha⟩
  · cases al <;> simp [Builtin.append_, run_underlying ht, sizeOf, typeInfo, hi, Builtin.lenOf, Builtin.firstCells, storeCells, loadCells, loadCellsFrom]
  · rcases p with _ | p
    · cases h; exact hall _ (by simp)
    · simp [listMem] at h
end
/-- A copy, wherever from. -/
theorem srun_copyG {P : Program} {dT sT ty e : TypeId} {n k od dl dc bs os sl sc : Nat} {D D' cs : List Value} {S : Cont}
    (hu : P.underlying dT = some (.slice e)) (hs : sizeB P e = some 1) (hcs : ∀ j, j < cs.length → S.get (os + j) = cs[j]?) (hlen : cs.length = min sl dl) (h1 : cs.all Value.oneCell' = true)
    (hst : (Cont.lit D).store (.lit od) cs = some (.lit D')) :
    SRuns P (copySem dT sT ty (.slice (some ⟨n, od, none⟩) dl dc) (.slice (some ⟨k, bs + os, none⟩) sl sc)) [⟨n, true, 0, .lit D⟩, ⟨k, false, bs, S⟩] 0 (fun _ => nat cs.length) (fun _ => [some ⟨n, true, 0, .lit D'⟩, none]) := by
  intro w hm ha
  have hD : Holds ⟨n, true, 0, .lit D⟩ w := hm _ (by simp)
  have hS : Holds ⟨k, false, bs, S⟩ w := hm _ (by simp)
  obtain ⟨g1, g2⟩ := Cont.store_get hst trivial
  have hr := run_copy_cells (P := P) w dT sT ty e n od dl dc ⟨k, bs + os, none⟩ sl sc cs hu (by simpa [sizeB] using hs) (by rw [hlen])
    (fun j v hj => by
      have hjl : j < cs.length := (List.getElem?_eq_some_iff.1 hj).1
      have := hS.cell (os + j) v (by rw [← hj]; exact hcs j hjl)
      rw [show (⟨k, bs + os, none⟩ : Addr).add j = ⟨k, bs + (os + j), none⟩ by rw [← Nat.add_assoc]; exact add_none k (bs + os) j]
      exact this)
    (fun j hj => by
      obtain ⟨u, hu⟩ := g1 j hj
      have := hD.cell _ u hu
      simp only [Cont.off, Nat.zero_add] at this
      rw [this]; rfl)
    (fun j hj => by
      obtain ⟨u, hu⟩ := g1 j hj
      have := hD.free rfl _ u hu
      simpa [Cont.off] using this) (List.all_eq_true.1 h1)
  refine ⟨[], w.setCells n od cs, rfl, .inl ?_, ?_⟩
  · show ((Builtin.copy_ #[dT, sT] ty #[.slice (some ⟨n, od, none⟩) dl dc, .slice (some ⟨k, bs + os, none⟩) sl sc]).bind fun v => Sem.pure (Next.value v)).run P w = _
    have : ∀ (s : Sem Value) (v : Value) (w' : World), s.run P w = .ok v w' → (s.bind fun v => Sem.pure (Next.value v)).run P w = .ok (Next.value v) w' := fun s v w' h => by
      show (s >>= fun v => Sem.pure (Next.value v)).run P w = _
      rw [Sem.run_bind, h]; rfl
    exact this _ _ _ hr
  · have hp := post_store (m := listMem ([⟨n, true, 0, .lit D⟩, ⟨k, false, bs, S⟩].map some)) (w := w) (p := 0) (b := ⟨n, true, 0, .lit D⟩) (l := .lit od) (cs := cs) (c := .lit D')
      (fun p b hb => hm b (List.mem_of_getElem? (listMem_some.1 hb))) ha rfl rfl hst trivial
    rw [show ([⟨n, true, 0, .lit D⟩, ⟨k, false, bs, S⟩].map some : List (Option Blk)) = [some ⟨n, true, 0, .lit D⟩, some ⟨k, false, bs, S⟩] from rfl] at hp ⊢
    rw [listMem_set0] at hp
    have hp2 : Post (listMem [some ⟨n, true, 0, .lit D⟩, some ⟨k, false, bs, S⟩]) w (listMem [some ⟨n, true, 0, .lit D'⟩, some ⟨k, false, bs, S⟩]) (w.setCells n od cs) := by simpa [Cont.off] using hp
    have hsub : ∀ p b, listMem [some (⟨n, true, 0, .lit D'⟩ : Blk), none] p = some b → listMem [some ⟨n, true, 0, .lit D'⟩, some ⟨k, false, bs, S⟩] p = some b := fun p b hpb => by
      rcases p with _ | _ | p
      · exact hpb
      · cases hpb
      · simp [listMem] at hpb
    exact ⟨fun p b hpb => hp2.holds p b (hsub p b hpb), fun p q b c hpq hb hc => hp2.apart p q b c hpq (hsub p b hb) (hsub q c hc), hp2.adv.weak hsub⟩
end Go.Eng
namespace Go.Eng
theorem mk_appendA {P : Program} {t ty e : TypeId} {B : Nat} {z : Value} (ht : P.underlying t = some (.slice e)) (h1 : OneC P e z B) (b len r k bo os n cc : Nat) {α : Type} (K : α → Value) (g h : Nat → α) (S : Cont) (hS : ∀ j, j < n → S.get (os + j) = some (K (h j)))
    (hK : ∀ a, (K a).oneCell' = true) (hb : (len + n) * B ≤ 140737488355328 ∧ len + n ≤ 9223372036854775807) {A : Option Addr} (hA : A = some ⟨k, bo + os, none⟩) :
    SRuns P (appendSem t ty (.slice (some ⟨b, 0, none⟩) len (len + r)) (.slice A n cc)) [⟨b, true, 0, spr (len + r) len (fun k => K (g k)) z⟩, ⟨k, false, bo, S⟩] 2
      (fun ns => .slice (some ⟨ns.getD 0 0, 0, none⟩) (len + n) (len + n + ns.getD 1 0))
      (fun ns => [some ⟨ns.getD 0 0, true, 0, spr (len + n + ns.getD 1 0) (len + n) (fun k => K (catU g len h k)) z⟩, some ⟨k, false, bo, S⟩]) := by
  subst hA; exact mk_append ht h1 b len r k bo os n cc K g h S hS hK hb
/-- Eight bytes behind. -/
def oct (a b c d e f g h : UInt8) : Nat → UInt8
  | 0 => a
  | 1 => b
  | 2 => c
  | 3 => d
  | 4 => e
  | 5 => f
  | 6 => g
  | _ => h
theorem cat8 (f : Nat → UInt8) (z : Nat) (a b c d e g h i : UInt8) (k : Nat) (hk : k < z + 8) :
    catU (catU (catU (catU (catU (catU (catU (catU f z (fun _ => a)) (z + 1) (fun _ => b)) (z + 1 + 1) (fun _ => c)) (z + 1 + 1 + 1) (fun _ => d)) (z + 1 + 1 + 1 + 1) (fun _ => e)) (z + 1 + 1 + 1 + 1 + 1) (fun _ => g)) (z + 1 + 1 + 1 + 1 + 1 + 1) (fun _ => h)) (z + 1 + 1 + 1 + 1 + 1 + 1 + 1) (fun _ => i) k =
      if k < z then f k else oct a b c d e g h i (k - z) := by
  by_cases h1 : k < z
  · simp only [catU]
    rw [if_pos (by omega), if_pos (by omega), if_pos (by omega), if_pos (by omega), if_pos (by omega), if_pos (by omega), if_pos (by omega), if_pos h1, if_pos h1]
  · obtain ⟨j, rfl⟩ : ∃ j, k = z + j := ⟨k - z, by omega⟩
    rw [if_neg h1, Nat.add_sub_cancel_left]
    rcases j with _ | _ | _ | _ | _ | _ | _ | _ | j
    · simp only [catU]; rw [if_pos (by omega), if_pos (by omega), if_pos (by omega), if_pos (by omega), if_pos (by omega), if_pos (by omega), if_pos (by omega), if_neg (by omega)]; rfl
    · simp only [catU]; rw [if_pos (by omega), if_pos (by omega), if_pos (by omega), if_pos (by omega), if_pos (by omega), if_pos (by omega), if_neg (by omega)]; rfl
    · simp only [catU]; rw [if_pos (by omega), if_pos (by omega), if_pos (by omega), if_pos (by omega), if_pos (by omega), if_neg (by omega)]; rfl
    · simp only [catU]; rw [if_pos (by omega), if_pos (by omega), if_pos (by omega), if_pos (by omega), if_neg (by omega)]; rfl
    · simp only [catU]; rw [if_pos (by omega), if_pos (by omega), if_pos (by omega), if_neg (by omega)]; rfl
    · simp only [catU]; rw [if_pos (by omega), if_pos (by omega), if_neg (by omega)]; rfl
    · simp only [catU]; rw [if_pos (by omega), if_neg (by omega)]; rfl
    · simp only [catU]; rw [if_neg (by omega)]; rfl
    · omega
end Go.Eng
