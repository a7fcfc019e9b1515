/-
  Slices of bytes, as they are handed in; copies of bytes; families of such.
-/
import Derived.Test.YthapokgokbfibaaEngZ
import Derived.Test.YthapokgokbfibaaEngY
import Derived.Test.YthapokgokbfibaaFams
set_option linter.unusedSimpArgs false
set_option linter.unusedVariables false
set_option maxRecDepth 100000
namespace Go.Eng

/-- Slices of bytes. -/
structure BytL where
  wa : Option Addr
  wn : Nat
  wc : Nat
  wb : Nat
  wo : Nat
  wf : Nat → UInt8
def slqV (q : BytL) : Value := .slice q.wa q.wn q.wc
def bytB (q : BytL) : Blk := ⟨q.wb, false, q.wo, tabF q.wn fun k => u8 (q.wf k)⟩
structure OkB (q : BytL) : Prop where
  cap : q.wn ≤ q.wc
  ad : 0 < q.wn → q.wa = some ⟨q.wb, q.wo, none⟩
  len : q.wn ≤ 9223372036854775807
def famB (q : BytL) (b : Blk) : Prop := 0 < q.wn ∧ b = bytB q
/-- Parts of a slice. -/
def bytT (x : BytL) (k : Nat) : BytL := ⟨x.wa, k, x.wc, x.wb, x.wo, x.wf⟩
def bytF (x : BytL) (k : Nat) : BytL := ⟨fromA x.wa x.wc k 1, x.wn - k, x.wc - k, x.wb, x.wo + k, fun i => x.wf (i + k)⟩
def bytO (nm n c : Nat) (f : Nat → UInt8) : BytL := ⟨some ⟨nm, 0, none⟩, n, c, nm, 0, f⟩
def bytZ (a : Option Addr) (c : Nat) : BytL := ⟨a, 0, c, 0, 0, fun _ => 0⟩
theorem okb_to {x : BytL} {k : Nat} (h : OkB x) (hk : k ≤ x.wn) : OkB (bytT x k) := ⟨Nat.le_trans hk h.cap, fun h0 => h.ad (Nat.lt_of_lt_of_le h0 hk), Nat.le_trans hk h.len⟩
theorem okb_from {x : BytL} {k : Nat} (h : OkB x) (hk : k ≤ x.wn) : OkB (bytF x k) := ⟨Nat.sub_le_sub_right h.cap k, fun h0 => by
  have h1 : 0 < x.wn - k := h0
  show fromA x.wa x.wc k 1 = some ⟨x.wb, x.wo + k, none⟩
  have hc := h.cap
  unfold fromA
  rw [if_neg (by omega), h.ad (by omega)]
  simp [add_none], Nat.le_trans (Nat.sub_le _ _) h.len⟩
theorem okb_own {nm n c : Nat} {f : Nat → UInt8} (h1 : n ≤ c) (h2 : n ≤ 9223372036854775807) : OkB (bytO nm n c f) := ⟨h1, fun _ => rfl, h2⟩
theorem okb_nil {a : Option Addr} {c : Nat} : OkB (bytZ a c) := ⟨Nat.zero_le _, fun h => absurd h (Nat.lt_irrefl 0), Nat.zero_le _⟩
theorem tabU_less {nm o n k : Nat} {f : Nat → UInt8} {w : World} (h : Holds ⟨nm, false, o, tabF n fun k => u8 (f k)⟩ w) (hk : k ≤ n) : Holds ⟨nm, false, o, tabF k fun k => u8 (f k)⟩ w :=
  h.recont rfl fun j v hj => by
    by_cases hl : j < k
    · rw [tabF_in hl] at hj
      rw [tabF_in (by omega)]; exact hj
    · rw [tabF_out hl] at hj; cases hj
theorem tabU_tail {nm o n k : Nat} {f : Nat → UInt8} {w : World} (h : Holds ⟨nm, false, o, tabF n fun k => u8 (f k)⟩ w) (hk : k ≤ n) : Holds ⟨nm, false, o + k, tabF (n - k) fun i => u8 (f (i + k))⟩ w := by
  refine ⟨h.lt, fun j v hj => ?_, (fun hb => by cases hb), obj_not rfl⟩
  by_cases hl : j < n - k
  · rw [tabF_in hl] at hj
    have := h.cell (k + j) v (by show (tabF n _).get (k + j) = _; rw [tabF_in (by omega)]; rw [Nat.add_comm k j]; exact hj)
    show w.cell? ⟨nm, o + k + j, none⟩ = some v
    rw [Nat.add_assoc]; exact this
  · rw [tabF_out hl] at hj; cases hj
theorem holdb_own {nm n c : Nat} {f : Nat → UInt8} {w : World} (h : Holds ⟨nm, false, 0, tabF n fun k => u8 (f k)⟩ w) : FamH (famB (bytO nm n c f)) w := fun b hb => by
  obtain ⟨_, rfl⟩ := hb
  exact ⟨h, rfl⟩
theorem holdb_nil {a : Option Addr} {c : Nat} {w : World} : FamH (famB (bytZ a c)) w := fun b hb => absurd hb.1 (Nat.lt_irrefl 0)
theorem holdb_to {x : BytL} {k : Nat} {w : World} (hk : k ≤ x.wn) (h : FamH (famB x) w) : FamH (famB (bytT x k)) w := fun b hb => by
  obtain ⟨h0, rfl⟩ := hb
  have h1 : 0 < k := h0
  obtain ⟨h2, _⟩ := h (bytB x) ⟨by omega, rfl⟩
  exact ⟨tabU_less h2 hk, rfl⟩
theorem holdb_from {x : BytL} {k : Nat} {w : World} (hk : k ≤ x.wn) (h : FamH (famB x) w) : FamH (famB (bytF x k)) w := fun b hb => by
  obtain ⟨h0, rfl⟩ := hb
  have h1 : 0 < x.wn - k := h0
  obtain ⟨h2, _⟩ := h (bytB x) ⟨by omega, rfl⟩
  exact ⟨tabU_tail h2 hk, rfl⟩
theorem hold_or {F G : Blk → Prop} {w : World} (hx : FamH F w) (hy : FamH G w) : FamH (fun b => F b ∨ G b) w := fun b hb => by
  rcases hb with hb | hb
  · exact hx b hb
  · exact hy b hb
section
variable {P : Program} {t e t' : TypeId} {x y z : Operand}
/-- a[i:] of an array in memory, by a number of any kind. -/
theorem is_slArr {n : Nat} (ht : P.underlying t = some (.array n e)) (hs : sizeB P e = some 1) (b o i : Nat) (k : IntKind) (hi : i ≤ n) :
    IsOp P (.slice t x (some y) none none) [ptr b o, .int k (i : Int)] (.slice (some ⟨b, if n = i then o else o + i, none⟩) (n - i) (n - i)) := by
  intro ρ o' ho hv
  rw [ho] at hv
  have hv' : [ρ x, ρ y] = [ptr b o, .int k (i : Int)] := hv
  injection hv' with h1 hv'
  injection hv' with h2 _
  unfold execOp
  rw [ho]
  simp only [Option.map]
  show pureRun P (Sem.bind (Instr.sliceAt t (ρ x) (some (ρ y)) none none) fun v => Sem.pure (Next.value v)) = _
  rw [pureRun_bind, h1, h2]
  have hi' : 0 ≤ (i : Int) ∧ (i : Int) ≤ (n : Int) := by omega
  have e : pureRun P (Instr.sliceAt t (ptr b o) (some (.int k (i : Int))) none none) = some (.slice (some ⟨b, if n = i then o else o + i, none⟩) (n - i) (n - i)) := by
    simp only [Instr.sliceAt, Instr.slice, ptr, Instr.sliceBounds, Instr.sliceBound, nat, pureRun_bind', asIntOf, pureRun, pure, pureRun_underlying ht, hi', and_self, if_true, pureRun_sizeOf hs, Int.toNat_natCast]
    by_cases h : n = i
    · simp [h, Instr.sureAddr, pureRun, pure]
    · simp [h, Instr.sureAddr, pureRun, pure, add_none, Nat.mul_one]
  rw [e]
  rfl
end
section
variable {P : Program} {t ty e : TypeId}
theorem mk_build0 {B : Nat} {z : Value} (ht : P.underlying t = some (.slice e)) (h1 : OneC P e z B) {α : Type} (K : α → Value) (g : Nat → α) :
    SRuns P (buildSem t 0 #[]) [] 1 (fun ns => .slice (some ⟨ns.getD 0 0, 0, none⟩) 0 0) (fun ns => [some ⟨ns.getD 0 0, true, 0, spr (0 + 0) 0 (fun k => K (g k)) z⟩]) := by
  obtain ⟨i, hi, hz, hsz, hB, hzc⟩ := h1
  have h0 : SRuns P (buildSem t 0 #[]) [] 1 (fun ns => .slice (some ⟨ns.getD 0 0, 0, none⟩) 0 0) (fun ns => [some ⟨ns.getD 0 0, true, 0, .lit (#[] : Array Value).toList⟩]) := srun_made (e := e) fun w => by
    refine run_value ?_
    simp [Instr.buildSlice, run_underlying ht, sizeOf, typeInfo, hi, newRow, Instr.fill]
    exact congrArg (fun a => w.alloc (Obj.cells a e)) (Array.eq_empty_of_size_eq_zero (by simp))
  exact h0.recont (C' := fun _ => spr (0 + 0) 0 (fun k => K (g k)) z) (fun _ => rfl) fun ns o v ho => by
    rw [spr, tabF_out (by omega)] at ho; cases ho
theorem mk_append0 {B : Nat} {z : Value} (ht : P.underlying t = some (.slice e)) (h1 : OneC P e z B) (b : Nat) (C : Cont) (al : Option Addr) (cl : Nat) :
    SRuns P (appendSem t ty (.slice (some ⟨b, 0, none⟩) 0 (0 + 0)) (.slice al 0 cl)) [⟨b, true, 0, C⟩] 1 (fun ns => .slice (some ⟨ns.getD 0 0, 0, none⟩) 0 (0 + 0)) (fun ns => [some ⟨ns.getD 0 0, true, 0, C⟩]) := by
  obtain ⟨i, hi, hz, hsz, hB, hzc⟩ := h1
  intro w hall ha
  refine ⟨[b], w, rfl, .inl (run_value ?_), Post.refl (fun p c h => ?_) ha⟩
  · cases al <;> simp [Builtin.append_, run_underlying ht, sizeOf, typeInfo, hi, Builtin.lenOf, Builtin.firstCells, storeCells, loadCells, loadCellsFrom]
  · rcases p with _ | p
    · cases h; exact hall _ (by simp)
    · simp [listMem] at h
end
/-- A copy, wherever from. -/
theorem srun_copyG {P : Program} {dT sT ty e : TypeId} {n k od dl dc bs os sl sc : Nat} {D D' cs : List Value} {S : Cont}
    (hu : P.underlying dT = some (.slice e)) (hs : sizeB P e = some 1) (hcs : ∀ j, j < cs.length → S.get (os + j) = cs[j]?) (hlen : cs.length = min sl dl) (h1 : cs.all Value.oneCell' = true)
    (hst : (Cont.lit D).store (.lit od) cs = some (.lit D')) :
    SRuns P (copySem dT sT ty (.slice (some ⟨n, od, none⟩) dl dc) (.slice (some ⟨k, bs + os, none⟩) sl sc)) [⟨n, true, 0, .lit D⟩, ⟨k, false, bs, S⟩] 0 (fun _ => nat cs.length) (fun _ => [some ⟨n, true, 0, .lit D'⟩, none]) := by
  intro w hm ha
  have hD : Holds ⟨n, true, 0, .lit D⟩ w := hm _ (by simp)
  have hS : Holds ⟨k, false, bs, S⟩ w := hm _ (by simp)
  obtain ⟨g1, g2⟩ := Cont.store_get hst trivial
  have hr := run_copy_cells (P := P) w dT sT ty e n od dl dc ⟨k, bs + os, none⟩ sl sc cs hu (by simpa [sizeB] using hs) (by rw [hlen])
    (fun j v hj => by
      have hjl : j < cs.length := (List.getElem?_eq_some_iff.1 hj).1
      have := hS.cell (os + j) v (by rw [← hj]; exact hcs j hjl)
      rw [show (⟨k, bs + os, none⟩ : Addr).add j = ⟨k, bs + (os + j), none⟩ by rw [← Nat.add_assoc]; exact add_none k (bs + os) j]
      exact this)
    (fun j hj => by
      obtain ⟨u, hu⟩ := g1 j hj
      have := hD.cell _ u hu
      simp only [Cont.off, Nat.zero_add] at this
      rw [this]; rfl)
    (fun j hj => by
      obtain ⟨u, hu⟩ := g1 j hj
      have := hD.free rfl _ u hu
      simpa [Cont.off] using this) (List.all_eq_true.1 h1)
  refine ⟨[], w.setCells n od cs, rfl, .inl ?_, ?_⟩
  · show ((Builtin.copy_ #[dT, sT] ty #[.slice (some ⟨n, od, none⟩) dl dc, .slice (some ⟨k, bs + os, none⟩) sl sc]).bind fun v => Sem.pure (Next.value v)).run P w = _
    have : ∀ (s : Sem Value) (v : Value) (w' : World), s.run P w = .ok v w' → (s.bind fun v => Sem.pure (Next.value v)).run P w = .ok (Next.value v) w' := fun s v w' h => by
      show (s >>= fun v => Sem.pure (Next.value v)).run P w = _
      rw [Sem.run_bind, h]; rfl
    exact this _ _ _ hr
  · have hp := post_store (m := listMem ([⟨n, true, 0, .lit D⟩, ⟨k, false, bs, S⟩].map some)) (w := w) (p := 0) (b := ⟨n, true, 0, .lit D⟩) (l := .lit od) (cs := cs) (c := .lit D')
      (fun p b hb => hm b (List.mem_of_getElem? (listMem_some.1 hb))) ha rfl rfl hst trivial
    rw [show ([⟨n, true, 0, .lit D⟩, ⟨k, false, bs, S⟩].map some : List (Option Blk)) = [some ⟨n, true, 0, .lit D⟩, some ⟨k, false, bs, S⟩] from rfl] at hp ⊢
    rw [listMem_set0] at hp
    have hp2 : Post (listMem [some ⟨n, true, 0, .lit D⟩, some ⟨k, false, bs, S⟩]) w (listMem [some ⟨n, true, 0, .lit D'⟩, some ⟨k, false, bs, S⟩]) (w.setCells n od cs) := by simpa [Cont.off] using hp
    have hsub : ∀ p b, listMem [some (⟨n, true, 0, .lit D'⟩ : Blk), none] p = some b → listMem [some ⟨n, true, 0, .lit D'⟩, some ⟨k, false, bs, S⟩] p = some b := fun p b hpb => by
      rcases p with _ | _ | p
      · exact hpb
      · cases hpb
      · simp [listMem] at hpb
    exact ⟨fun p b hpb => hp2.holds p b (hsub p b hpb), fun p q b c hpq hb hc => hp2.apart p q b c hpq (hsub p b hb) (hsub q c hc), hp2.adv.weak hsub⟩
end Go.Eng
namespace Go.Eng
/-- x[i:], told by its operands. -/
def slF (sz : Nat) (vs : List Value) : Value := match vs with
  | [.slice a len cap, .int _ i] => .slice (fromA a cap i.toNat sz) (len - i.toNat) (cap - i.toNat)
  | _ => undef
theorem mk_appendA {P : Program} {t ty e : TypeId} {B : Nat} {z : Value} (ht : P.underlying t = some (.slice e)) (h1 : OneC P e z B) (b len r k bo os n cc : Nat) {α : Type} (K : α → Value) (g h : Nat → α) (S : Cont) (hS : ∀ j, j < n → S.get (os + j) = some (K (h j)))
    (hK : ∀ a, (K a).oneCell' = true) (hb : (len + n) * B ≤ 140737488355328 ∧ len + n ≤ 9223372036854775807) {A : Option Addr} (hA : A = some ⟨k, bo + os, none⟩) :
    SRuns P (appendSem t ty (.slice (some ⟨b, 0, none⟩) len (len + r)) (.slice A n cc)) [⟨b, true, 0, spr (len + r) len (fun k => K (g k)) z⟩, ⟨k, false, bo, S⟩] 2
      (fun ns => .slice (some ⟨ns.getD 0 0, 0, none⟩) (len + n) (len + n + ns.getD 1 0))
      (fun ns => [some ⟨ns.getD 0 0, true, 0, spr (len + n + ns.getD 1 0) (len + n) (fun k => K (catU g len h k)) z⟩, some ⟨k, false, bo, S⟩]) := by
  subst hA; exact mk_append ht h1 b len r k bo os n cc K g h S hS hK hb
/-- Eight bytes behind. -/
def oct (a b c d e f g h : UInt8) : Nat → UInt8
  | 0 => a
  | 1 => b
  | 2 => c
  | 3 => d
  | 4 => e
  | 5 => f
  | 6 => g
  | _ => h
theorem cat8 (f : Nat → UInt8) (z : Nat) (a b c d e g h i : UInt8) (k : Nat) (hk : k < z + 8) :
    catU (catU (catU (catU (catU (catU (catU (catU f z (fun _ => a)) (z + 1) (fun _ => b)) (z + 1 + 1) (fun _ => c)) (z + 1 + 1 + 1) (fun _ => d)) (z + 1 + 1 + 1 + 1) (fun _ => e)) (z + 1 + 1 + 1 + 1 + 1) (fun _ => g)) (z + 1 + 1 + 1 + 1 + 1 + 1) (fun _ => h)) (z + 1 + 1 + 1 + 1 + 1 + 1 + 1) (fun _ => i) k =
      if k < z then f k else oct a b c d e g h i (k - z) := by
  by_cases h1 : k < z
  · simp only [catU]
    rw [if_pos (by omega), if_pos (by omega), if_pos (by omega), if_pos (by omega), if_pos (by omega), if_pos (by omega), if_pos (by omega), if_pos h1, if_pos h1]
  · obtain ⟨j, rfl⟩ : ∃ j, k = z + j := ⟨k - z, by omega⟩
    rw [if_neg h1, Nat.add_sub_cancel_left]
    rcases j with _ | _ | _ | _ | _ | _ | _ | _ | j
    · simp only [catU]; rw [if_pos (by omega), if_pos (by omega), if_pos (by omega), if_pos (by omega), if_pos (by omega), if_pos (by omega), if_pos (by omega), if_neg (by omega)]; rfl
    · simp only [catU]; rw [if_pos (by omega), if_pos (by omega), if_pos (by omega), if_pos (by omega), if_pos (by omega), if_pos (by omega), if_neg (by omega)]; rfl
    · simp only [catU]; rw [if_pos (by omega), if_pos (by omega), if_pos (by omega), if_pos (by omega), if_pos (by omega), if_neg (by omega)]; rfl
    · simp only [catU]; rw [if_pos (by omega), if_pos (by omega), if_pos (by omega), if_pos (by omega), if_neg (by omega)]; rfl
    · simp only [catU]; rw [if_pos (by omega), if_pos (by omega), if_pos (by omega), if_neg (by omega)]; rfl
    · simp only [catU]; rw [if_pos (by omega), if_pos (by omega), if_neg (by omega)]; rfl
    · simp only [catU]; rw [if_pos (by omega), if_neg (by omega)]; rfl
    · simp only [catU]; rw [if_neg (by omega)]; rfl
    · omega
end Go.Eng
namespace Go.Eng
theorem listMem_app {a b : List (Option Blk)} {p : Nat} {x : Blk} (h : listMem (a ++ b) p = some x) : (p < a.length ∧ listMem a p = some x) ∨ (a.length ≤ p ∧ listMem b (p - a.length) = some x) := by
  unfold listMem at h ⊢
  by_cases hp : p < a.length
  · left; rw [List.getElem?_append_left hp] at h; exact ⟨hp, h⟩
  · right; rw [List.getElem?_append_right (by omega)] at h; exact ⟨by omega, h⟩
theorem listMem_left {a b : List (Option Blk)} {p : Nat} (hp : p < a.length) : listMem (a ++ b) p = listMem a p := by
  unfold listMem; rw [List.getElem?_append_left hp]
theorem listMem_right {a b : List (Option Blk)} {p : Nat} (hp : a.length ≤ p) : listMem (a ++ b) p = listMem b (p - a.length) := by
  unfold listMem; rw [List.getElem?_append_right hp]
theorem noneL_length : ∀ cs : List Blk, (noneL cs).length = cs.length
  | [] => rfl
  | _ :: r => congrArg (· + 1) (noneL_length r)
/-- A call that writes, makes, and reads what is lent. -/
theorem RunsF.lendG {F F' : Blk → Prop} {P : Program} {f : FuncId} {args : List Value} {bs cs : List Blk} {k : Nat} {v : List Nat → Value} {o nw : List Nat → List (Option Blk)} (h : RunsF F P f args bs k v (fun ns => o ns ++ nw ns)) (ho : ∀ ns, (o ns).length = bs.length)
    (hF : ∀ w : World, FamH F' w → (∀ b ∈ cs, Holds b w) → FamH F w) (hn : ∀ x, F x → (∃ y, F' y ∧ y.name = x.name) ∨ ∃ c ∈ cs, c.name = x.name) (hc : ∀ b ∈ cs, b.own = false) :
    RunsF F' P f args (bs ++ cs) k v (fun ns => o ns ++ (noneL cs ++ nw ns)) := by
  intro w hm ha hF'
  have hsub : ∀ p b, listMem (bs.map some) p = some b → p < bs.length ∧ listMem ((bs ++ cs).map some) p = some b := fun p b hp => by
    have hl : p < bs.length := by
      have := (List.getElem?_eq_some_iff.1 (listMem_some.1 hp)).1
      simpa using this
    exact ⟨hl, by rw [List.map_append, listMem_left (by simpa using hl)]; exact hp⟩
  have ho1 : ∀ k, Owns (listMem (bs.map some)) k → Owns (listMem ((bs ++ cs).map some)) k := fun k ⟨p, b, h1, h2, h3⟩ => ⟨p, b, (hsub p b h1).2, h2, h3⟩
  have hw := hF w (fun b hb' => ⟨(hF' b hb').1, (hF' b hb').2.1⟩) (fun b hb' => hm b (by simp [hb']))
  refine Calls.mono (h w (fun b hb' => hm b (by simp [hb'])) (fun p q b c hpq hpb hqc hown => ha p q b c hpq (hsub p b hpb).2 (hsub q c hqc).2 hown) (fun b hFb => ⟨(hw b hFb).1, (hw b hFb).2, fun ⟨p, b', h1, h2, h3⟩ => ?_⟩)) ?_
  · obtain ⟨hl, hp'⟩ := hsub p b' h1
    rcases hn b hFb with ⟨y, hy, he⟩ | ⟨c, hcm, he⟩
    · exact (hF' y hy).2.2 ⟨p, b', hp', h2, by rw [h3, he]⟩
    · obtain ⟨i, hi⟩ := List.getElem?_of_mem hcm
      have hq : listMem ((bs ++ cs).map some) (bs.length + i) = some c := by
        rw [List.map_append, listMem_right (by simp)]
        simp [listMem, hi]
      exact ha p (bs.length + i) b' c (by omega) hp' hq h2 (by rw [h3, he])
  · rintro e w' ⟨ns, hns, he, hp⟩
    have hout : ∀ p b, listMem (o ns ++ (noneL cs ++ nw ns)) p = some b → (p < bs.length ∧ listMem (o ns ++ nw ns) p = some b) ∨ (bs.length + cs.length ≤ p ∧ listMem (o ns ++ nw ns) (p - cs.length) = some b) := fun p b hpb => by
      rcases listMem_app hpb with ⟨h1, h2⟩ | ⟨h1, h2⟩
      · left; rw [ho] at h1; exact ⟨h1, by rw [listMem_left (by rw [ho]; exact h1)]; exact h2⟩
      · rw [ho] at h1 h2
        rcases listMem_app h2 with ⟨h3, h4⟩ | ⟨h3, h4⟩
        · exact absurd h4 (noneL_get _ _ _)
        · right
          rw [noneL_length] at h3 h4
          refine ⟨by omega, ?_⟩
          rw [listMem_right (by rw [ho]; omega), ho, show p - cs.length - bs.length = p - bs.length - cs.length by omega]; exact h4
    have hpos : ∀ p b, listMem (o ns ++ (noneL cs ++ nw ns)) p = some b → ∃ p', listMem (o ns ++ nw ns) p' = some b ∧ ((p < bs.length ∧ p' = p) ∨ (bs.length + cs.length ≤ p ∧ p' = p - cs.length)) := fun p b hpb => by
      rcases hout p b hpb with ⟨h1, h2⟩ | ⟨h1, h2⟩
      · exact ⟨p, h2, .inl ⟨h1, rfl⟩⟩
      · exact ⟨p - cs.length, h2, .inr ⟨h1, rfl⟩⟩
    refine ⟨ns, hns, he, ⟨fun p b hpb => ?_, fun p q b c hpq hpb hqc => ?_, ⟨hp.adv.os, hp.adv.output, hp.adv.tape, hp.adv.size, fun k hk hno => hp.adv.heap k hk (fun hk' => hno (ho1 k hk')), fun k ⟨p, b, h1, h2, h3⟩ => ?_, fun p b hpb hob => ?_⟩⟩⟩
    · obtain ⟨p', h1, _⟩ := hpos p b hpb; exact hp.holds p' b h1
    · obtain ⟨p', h1, h2⟩ := hpos p b hpb
      obtain ⟨q', h3, h4⟩ := hpos q c hqc
      exact hp.apart p' q' b c (by omega) h1 h3
    · obtain ⟨p', h4, _⟩ := hpos p b h1
      rcases hp.adv.names k ⟨p', b, h4, h2, h3⟩ with h5 | h5
      · exact .inl (ho1 k h5)
      · exact .inr h5
    · obtain ⟨p', h1, h2⟩ := hpos p b hpb
      have h3 := hp.adv.ro p' b h1 hob
      obtain ⟨h4, h5⟩ := hsub p' b h3
      rcases h2 with ⟨_, rfl⟩ | ⟨h6, rfl⟩
      · exact h5
      · omega
end Go.Eng
namespace Go.Eng
theorem holds_sprB {nm n r : Nat} {f : Nat → UInt8} {w : World} (h : Holds ⟨nm, false, 0, spr (n + r) n (fun k => u8 (f k)) (u8 0)⟩ w) : Holds ⟨nm, false, 0, tabF n fun k => u8 (f k)⟩ w :=
  h.recont rfl fun j v hj => by
    by_cases hl : j < n
    · rw [tabF_in hl] at hj
      show (spr (n + r) n (fun k => u8 (f k)) (u8 0)).get j = _
      rw [spr, tabF_in (by omega), if_pos hl]; exact hj
    · rw [tabF_out hl] at hj; cases hj
theorem famB_name {F' : Blk → Prop} {q : BytL} {B : Blk} (h : B.name = q.wb) : ∀ x, famB q x → (∃ y, F' y ∧ y.name = x.name) ∨ ∃ c ∈ [B], c.name = x.name := fun x hx => by
  obtain ⟨_, rfl⟩ := hx
  exact .inr ⟨B, by simp, h⟩
/-- A block that is only read stands in a family. -/
theorem Runs.fam {F : Blk → Prop} {P : Program} {f : FuncId} {args : List Value} {B : Blk} {v : Value} {o : List (Option Blk)} (h : Runs P f args [B] 0 (fun _ => v) (fun _ => o)) (hB : F B) : RunsF F P f args [] 0 (fun _ => v) (fun _ => []) := by
  intro w hm ha hF
  obtain ⟨h1, h2, _⟩ := hF B hB
  have hno : ∀ k, ¬ Owns (listMem ([B].map some)) k := fun k ⟨p, b, hp, ho, _⟩ => by
    rcases p with _ | p
    · cases hp; rw [h2] at ho; cases ho
    · simp [listMem] at hp
  refine Calls.mono (h w (fun b hb => by simp at hb; subst hb; exact h1) (fun p q b c _ hb _ ho => by
    rcases p with _ | p
    · cases hb; rw [h2] at ho; cases ho
    · simp [listMem] at hb)) ?_
  rintro e w' ⟨ns, hns, he, hp⟩
  have hnil : ∀ p b, listMem ([] : List (Option Blk)) p ≠ some b := fun p b => by simp [listMem]
  exact ⟨ns, hns, he, ⟨fun p b hpb => absurd hpb (hnil p b), fun p q b c _ hpb => absurd hpb (hnil p b), ⟨hp.adv.os, hp.adv.output, hp.adv.tape, hp.adv.size, fun k hk _ => hp.adv.heap k hk (hno k), fun k ⟨p, b, hpb, _⟩ => absurd hpb (hnil p b), fun p b hpb => absurd hpb (hnil p b)⟩⟩⟩
section
variable {P : Program} {t e t' : TypeId} {x y z : Operand}
theorem is_slqPartK (ht : P.underlying t = some (.slice e)) {sz : Nat} (hs : sizeB P e = some sz) (k1 k2 : IntKind) (wa : Option Addr) (len cap i j : Nat) (hi : i ≤ j ∧ j ≤ cap) :
    IsOp P (.slice t x (some y) (some z) none) [.slice wa len cap, .int k1 (i : Int), .int k2 (j : Int)] (.slice (fromA wa cap i sz) (j - i) (cap - i)) := by
  intro ρ o' ho hv
  rw [ho] at hv
  have hv' : [ρ x, ρ y, ρ z] = [Value.slice wa len cap, .int k1 (i : Int), .int k2 (j : Int)] := hv
  injection hv' with h1 hv'
  injection hv' with h2 hv'
  injection hv' with h3 _
  unfold execOp
  rw [ho]
  simp only [Option.map]
  show pureRun P (Sem.bind (Instr.sliceAt t (ρ x) (some (ρ y)) (some (ρ z)) none) fun v => Sem.pure (Next.value v)) = _
  rw [pureRun_bind, h1, h2, h3]
  have hi' : 0 ≤ (i : Int) ∧ (i : Int) ≤ (j : Int) := by omega
  have hj' : 0 ≤ (j : Int) ∧ (j : Int) ≤ (cap : Int) := by omega
  have e : pureRun P (Instr.sliceAt t (.slice wa len cap) (some (.int k1 (i : Int))) (some (.int k2 (j : Int))) none) = some (.slice (fromA wa cap i sz) (j - i) (cap - i)) := by
    simp only [Instr.sliceAt, Instr.slice, Instr.sliceBounds, Instr.sliceBound, nat, pureRun_bind', asIntOf, pureRun, pure, pureRun_underlying ht, hi', hj', and_self, if_true, pureRun_sizeOf hs, Int.toNat_natCast]
    rfl
  rw [e]
  rfl
theorem is_slqFromK (ht : P.underlying t = some (.slice e)) {sz : Nat} (hs : sizeB P e = some sz) (k : IntKind) (wa : Option Addr) (len cap i : Nat) (hi : i ≤ len ∧ len ≤ cap) : IsOp P (.slice t x (some y) none none) [.slice wa len cap, .int k (i : Int)] (.slice (fromA wa cap i sz) (len - i) (cap - i)) := by
  intro ρ o' ho hv
  rw [ho] at hv
  have hv' : [ρ x, ρ y] = [Value.slice wa len cap, .int k (i : Int)] := hv
  injection hv' with h1 hv'
  injection hv' with h2 _
  unfold execOp
  rw [ho]
  simp only [Option.map]
  show pureRun P (Sem.bind (Instr.sliceAt t (ρ x) (some (ρ y)) none none) fun v => Sem.pure (Next.value v)) = _
  rw [pureRun_bind, h1, h2]
  have hi' : 0 ≤ (i : Int) ∧ (i : Int) ≤ (len : Int) := by omega
  have e : pureRun P (Instr.sliceAt t (.slice wa len cap) (some (.int k (i : Int))) none none) = some (.slice (fromA wa cap i sz) (len - i) (cap - i)) := by
    simp only [Instr.sliceAt, Instr.slice, Instr.sliceBounds, Instr.sliceBound, nat, pureRun_bind', asIntOf, pureRun, pure, pureRun_underlying ht, hi', and_self, if_true, pureRun_sizeOf hs, Int.toNat_natCast]
    rfl
  rw [e]
  rfl
end
section
variable {P : Program} {t t' : TypeId} {x y : Operand} (a b : UInt8)
theorem is_add8 : IsOp P (.binOp .add t x y t') [u8 a, u8 b] (u8 (a + b)) := isOp_bin guard_int (by
  show some (Value.int .u8 (IntKind.u8.wrap ((a.toNat : Int) + b.toNat))) = _
  rw [wrap_u8, u8, UInt8.toNat_add]; congr 2)
theorem is_leq8 : IsOp P (.binOp .leq t x y t') [u8 a, u8 b] (.bool (decide (a.toNat ≤ b.toNat))) := isOp_bin guard_int (by
  show some (Value.bool (decide ((a.toNat : Int) ≤ (b.toNat : Int)))) = _
  congr 2; exact decide_eq_decide.2 Int.ofNat_le)
theorem is_gtr8 : IsOp P (.binOp .gtr t x y t') [u8 a, u8 b] (.bool (decide (b.toNat < a.toNat))) := isOp_bin guard_int (by
  show some (Value.bool (decide ((b.toNat : Int) < (a.toNat : Int)))) = _
  congr 2; exact decide_eq_decide.2 Int.ofNat_lt)
end
end Go.Eng
namespace Go.Eng
/-- A block that is only read stands in a family: of a call that makes new ones. -/
theorem Runs.famN {F : Blk → Prop} {P : Program} {f : FuncId} {args : List Value} {B : Blk} {k : Nat} {v : List Nat → Value} {x : List Nat → Option Blk} {nw : List Nat → List (Option Blk)} (h : Runs P f args [B] k v (fun ns => x ns :: nw ns)) (hB : F B) : RunsF F P f args [] k v nw := by
  intro w hm ha hF
  obtain ⟨h1, h2, _⟩ := hF B hB
  have hno : ∀ k, ¬ Owns (listMem ([B].map some)) k := fun k ⟨p, b, hp, ho, _⟩ => by
    rcases p with _ | p
    · cases hp; rw [h2] at ho; cases ho
    · simp [listMem] at hp
  refine Calls.mono (h w (fun b hb => by simp at hb; subst hb; exact h1) (fun p q b c _ hb _ ho => by
    rcases p with _ | p
    · cases hb; rw [h2] at ho; cases ho
    · simp [listMem] at hb)) ?_
  rintro e w' ⟨ns, hns, he, hp⟩
  have hs : ∀ p b, listMem (nw ns) p = some b → listMem (x ns :: nw ns) (p + 1) = some b := fun p b h => by simpa [listMem] using h
  refine ⟨ns, hns, he, ⟨fun p b hpb => hp.holds _ b (hs p b hpb), fun p q b c hpq hpb hqc => hp.apart _ _ b c (by omega) (hs p b hpb) (hs q c hqc), ⟨hp.adv.os, hp.adv.output, hp.adv.tape, hp.adv.size, fun k hk _ => hp.adv.heap k hk (hno k), fun k ⟨p, b, hpb, h3, h4⟩ => ?_, fun p b hpb hob => ?_⟩⟩⟩
  · rcases hp.adv.names k ⟨p + 1, b, hs p b hpb, h3, h4⟩ with h5 | h5
    · exact absurd h5 (hno k)
    · exact .inr h5
  · have := hp.adv.ro (p + 1) b (hs p b hpb) hob
    simp [listMem] at this
end Go.Eng
namespace Go.Eng
/-- A call whose family follows from another one, block by block of the same names. -/
theorem RunsF.lendP {F F' : Blk → Prop} {P : Program} {f : FuncId} {args : List Value} {bs : List Blk} {k : Nat} {v : List Nat → Value} {out : List Nat → List (Option Blk)}
    (hF : ∀ w : World, FamH F' w → FamH F w) (hn : ∀ x, F x → ∃ y, F' y ∧ y.name = x.name) (h : RunsF F P f args bs k v out) : RunsF F' P f args bs k v out := fun w hb ha hF' => h w hb ha fun b hb' => by
  obtain ⟨h1, h2⟩ := hF w (fun x hx => ⟨(hF' x hx).1, (hF' x hx).2.1⟩) b hb'
  obtain ⟨y, hy, he⟩ := hn b hb'
  exact ⟨h1, h2, by rw [← he]; exact (hF' y hy).2.2⟩
theorem famB_part {b c : BytL} {x : Blk} (h : 0 < c.wn → 0 < b.wn) (hx : famB c x) (hb : c.wb = b.wb := by rfl) : ∃ y, famB b y ∧ y.name = x.name := by
  obtain ⟨h0, rfl⟩ := hx
  exact ⟨bytB b, ⟨h h0, rfl⟩, hb.symm⟩
end Go.Eng
namespace Go.Eng
section
variable {P : Program} {t t' : TypeId} {x y : Operand}
theorem is_eql8 (a b : UInt8) : IsOp P (.binOp .eql t x y t') [u8 a, u8 b] (.bool (a == b)) := isOp_bin guard_int (by
  show some (Value.bool ((a.toNat : Int) == (b.toNat : Int))) = _
  have : ((a.toNat : Int) == (b.toNat : Int)) = (a == b) := by
    rw [Bool.eq_iff_iff, beq_iff_eq, beq_iff_eq]
    constructor
    · intro h; exact UInt8.toNat_inj.1 (by omega)
    · intro h; rw [h]
  rw [this])
end
end Go.Eng
namespace Go.Eng
theorem map_get {α : Type} (K : α → Value) (g : Nat → α) (n k : Nat) (h : k < n) : ((List.range n).map fun j => K (g j))[k]? = some (K (g k)) := by
  rw [List.getElem?_map, List.getElem?_range h]; rfl
theorem holds_litB {nm : Nat} {l : List Value} {n : Nat} {f : Nat → UInt8} {w : World} (h : Holds ⟨nm, false, 0, .lit l⟩ w) (hl : l = (List.range n).map fun k => u8 (f k)) : Holds ⟨nm, false, 0, tabF n fun k => u8 (f k)⟩ w := by
  subst hl
  exact h.recont rfl fun j v hj => by
    by_cases hl : j < n
    · rw [tabF_in hl] at hj
      show ((List.range n).map fun k => u8 (f k))[j]? = _
      rw [map_get u8 f n j hl]; exact hj
    · rw [tabF_out hl] at hj; cases hj
def bytsOf (l : List UInt8) (k : Nat) : UInt8 := l.getD k 0
theorem is_minN {P : Program} {x y : Operand} {ts : Array TypeId} (a b : Nat) : IsOp P (.call { callee := .builtin .min, args := #[x, y], argTypes := ts }) [nat a, nat b] (nat (min a b)) := by
  intro ρ o ho hv
  rw [ho] at hv
  have hv' : ρ x = nat a ∧ ρ y = nat b := by simpa [Op.operands, Call.operands] using hv
  unfold execOp
  rw [ho]
  show pureRun P ((Builtin.min_ ts o.type (#[x, y].map ρ)) >>= fun v => (pure (Next.value v) : Sem Next)) = _
  have e1 : (#[x, y].map ρ : Array Value) = #[nat a, nat b] := by simp [hv'.1, hv'.2]
  have e2 : pureRun P (Builtin.min_ ts o.type #[nat a, nat b]) = some (nat (min a b)) := by
    show some (Value.int .i64 (if ((b : Int) < (a : Int)) then (b : Int) else (a : Int))) = _
    unfold nat
    congr 2
    split <;> omega
  rw [e1, pureRun_bind', e2]
  rfl
/-- Families of two slices of bytes. -/
def famBB (x y : BytL) (b : Blk) : Prop := famB x b ∨ famB y b
theorem holdb_ownT {nm n k c r : Nat} {f : Nat → UInt8} {w : World} (hk : k ≤ n) (h : Holds ⟨nm, false, 0, spr (n + r) n (fun k => u8 (f k)) (u8 0)⟩ w) : FamH (famB (bytO nm k c f)) w := holdb_own (tabU_less (holds_sprB h) hk)
end Go.Eng
namespace Go.Eng
/-- New blocks are left out. -/
theorem RunsF.drop {F : Blk → Prop} {P : Program} {f : FuncId} {args : List Value} {bs : List Blk} {k : Nat} {v : List Nat → Value} {o nw : List Nat → List (Option Blk)} (h : RunsF F P f args bs k v (fun ns => o ns ++ nw ns)) : RunsF F P f args bs k v o := fun w hb ha hF =>
  Calls.mono (h w hb ha hF) fun e w' ⟨ns, h1, h2, hp⟩ => by
    have hs : ∀ p b, listMem (o ns) p = some b → listMem (o ns ++ nw ns) p = some b := fun p b h => by
      have hl : p < (o ns).length := (List.getElem?_eq_some_iff.1 (show (o ns)[p]? = some (some b) by
        unfold listMem at h
        cases h3 : (o ns)[p]? with
        | none => rw [h3] at h; cases h
        | some x => rw [h3] at h; simp at h; rw [h])).1
      rw [listMem_left hl]; exact h
    exact ⟨ns, h1, h2, ⟨fun p b h => hp.holds p b (hs p b h), fun p q b c hpq hb hc => hp.apart p q b c hpq (hs p b hb) (hs q c hc), hp.adv.weak hs⟩⟩
/-- A name more. -/
theorem RunsF.name1 {F : Blk → Prop} {P : Program} {f : FuncId} {args : List Value} {bs : List Blk} {v : Value} {o : List (Option Blk)} (h : RunsF F P f args bs 0 (fun _ => v) (fun _ => o)) : RunsF F P f args bs 1 (fun _ => v) (fun _ => o) := fun w hb ha hF =>
  Calls.mono (h w hb ha hF) fun e w' ⟨ns, h1, h2, hp⟩ => ⟨[0], rfl, h2, hp⟩
end Go.Eng
