/-
  More of the hash: one word of its block, copies, what stands behind the last byte, the digest's bytes.
-/
import Derived.Test.YtkbiahdnfhokgaaDoorShaHash
import Derived.Test.YtkbiahdnfhokgaaDoorBytIn
namespace Go.Eng
set_option linter.unusedSimpArgs false
set_option linter.unusedVariables false
set_option maxRecDepth 100000
theorem hash_copy (H : HS) (z : Nat → UInt8) : hashC ⟨H.s, cpyL z 0 64 H.l, H.n⟩ = hashC H := by
  refine congrArg Cont.lit (List.ext_getElem? fun k => ?_)
  rw [hash_get, hash_get]
  by_cases h2 : k < 8
  · rw [if_pos h2, if_pos h2]
  · rw [if_neg h2, if_neg h2]
    by_cases h3 : k < 72
    · rw [if_pos h3, if_pos h3]
      simp only [cpyL]
      rw [if_pos (by omega), Nat.sub_zero]
    · rw [if_neg h3, if_neg h3]
def newH : HS := ⟨fun _ => 0, fun _ => 0, 0⟩
section
variable {P : Program} {t ty e : TypeId}
def ldSem (t : TypeId) (x : Value) : Sem Next := do pure (.value (← Instr.loadAt t x))
theorem srun_ldW (ha : aggB P t = some false) (H : HS) (b i : Nat) (hi : i < 8) : SRuns P (ldSem t (.pointer (some ⟨b, 0 + i * 1, none⟩))) [⟨b, false, 0, hashC H⟩] 0 (fun _ => u32 (H.s i)) (fun _ => [none]) := by
  intro w hm hap
  have hS : Holds ⟨b, false, 0, hashC H⟩ w := hm _ (by simp)
  have hc := hS.cell i (u32 (H.s i)) (by show (hashL H)[i]? = _; rw [hash_get, if_pos hi])
  refine ⟨[], w, rfl, .inl ?_, ?_⟩
  · have hr := run_loadAt_one (P := P) (t := t) (w := w) (b := b) (o := 0 + i * 1) (v := u32 (H.s i)) ha (by rw [Nat.mul_one]; exact hc)
    show (Instr.loadAt t _ >>= fun v => Sem.pure (Next.value v)).run P w = _
    rw [Sem.run_bind, hr]; rfl
  · exact ⟨fun p b hpb => by rcases p with _ | p <;> simp [listMem] at hpb, fun p q b c _ hpb => by rcases p with _ | p <;> simp [listMem] at hpb, (Adv.refl _ _).weak fun p b hpb => by rcases p with _ | p <;> simp [listMem] at hpb⟩
theorem mk_make_cap {B : Nat} {z : Value} (ht : P.underlying t = some (.slice e)) (h1 : OneC P e z B) (n c : Nat) (k1 k2 : IntKind) (hn : n ≤ c) (hb : (B : Int) * (c : Int) ≤ 281474976710656 ∧ c ≤ 9223372036854775807) {α : Type} (K : α → Value) (a : α) (hz : K a = z) :
    SRuns P (makeSem t (.int k1 (n : Int)) (.int k2 (c : Int))) [] 1 (fun ns => .slice (some ⟨ns.getD 0 0, 0, none⟩) n (n + (c - n))) (fun ns => [some ⟨ns.getD 0 0, true, 0, spr (n + (c - n)) n (fun _ => K a) z⟩]) := by
  subst hz
  obtain ⟨i, hi, hz, hsz, hB, hzc⟩ := h1
  subst hB
  rw [show n + (c - n) = c by omega]
  refine (srun_made (P := P) (e := e) (s := makeSem t (.int k1 (n : Int)) (.int k2 (c : Int))) (cs := madeCells (K a).cells (c * i.size)) (len := n) (cap := c) fun w => ?_).recont (fun _ => rfl) fun ns o v ho => ?_
  · refine run_value ?_
    have := run_make (P := P) w t e i (K a) ht hi hz k1 k2 (n : Int) (c : Int) (by omega) (by omega) hb.1 (by omega)
    simpa using this
  · by_cases hon : o < c
    · rw [spr, tabF_in hon] at ho
      rw [hzc, hsz]
      simp [Cont.get, madeCells, hon, Nat.mod_one]
      simpa using ho
    · rw [spr, tabF_out hon] at ho; cases ho
end
theorem store_spr {α : Type} (c n : Nat) (K : α → Value) (f : Nat → α) (z : Value) (i : Nat) (v : α) (hi : i < n) : (spr c n (fun k => K (f k)) z).store (.tab i 0) [K v] = some (spr c n (fun k => K (upd f i v k)) z) := by
  show some (Cont.tab c 1 fun k => if k = i then [K v] else [if k < n then K (f k) else z]) = _
  unfold spr tabF
  congr 2
  funext k
  by_cases h : k = i
  · subst h; simp [upd, hi]
  · simp [upd, h]
theorem spr_as {c n : Nat} {f g : Nat → Value} {z : Value} (h : ∀ k, k < n → f k = g k) : spr c n f z = spr c n g z := by
  unfold spr
  congr 1
  funext k
  by_cases hk : k < n
  · rw [if_pos hk, if_pos hk, h k hk]
  · rw [if_neg hk, if_neg hk]
/-- How many zeros, and the bytes, that stand behind n bytes. -/
def zerosU (n : UInt64) : UInt64 := (119 - n % 64) % 64
def tailZ (n : UInt64) : Nat := (1 + zerosU n).toNat
def lenB (n : UInt64) (i : Nat) : UInt8 := (shr64 (8 * n) (56 - 8 * i)).toUInt8
def tailF (n : UInt64) : Nat → UInt8 := fun k => if k = 0 then 128 else if k < tailZ n then 0 else lenB n (k - tailZ n)
theorem zeros_lt (n : UInt64) : (zerosU n).toNat < 64 := n64_lt _
theorem tailZ_val (n : UInt64) : tailZ n = 1 + (zerosU n).toNat := by
  unfold tailZ
  rw [UInt64.toNat_add]
  have := zeros_lt n
  have h1 : (1 : UInt64).toNat = 1 := rfl
  omega
theorem zeros_mod (n : UInt64) : (n.toNat + (zerosU n).toNat) % 64 = 55 := by
  unfold zerosU
  have h64 : (64 : UInt64).toNat = 64 := rfl
  have h119 : (119 : UInt64).toNat = 119 := rfl
  have h1 := n64_lt n
  have h2 : (n % 64).toNat = n.toNat % 64 := by rw [UInt64.toNat_mod, h64]
  rw [UInt64.toNat_mod, h64, UInt64.toNat_sub_of_le _ _ (by rw [UInt64.le_iff_toNat_le]; omega), h119]
  omega
theorem tail_mod (n : UInt64) : (n.toNat + (tailZ n + 8)) % 64 = 0 := by
  have := zeros_mod n
  rw [tailZ_val]; omega
/-- A digest's byte. -/
def digB (s : Nat → UInt32) (i : Nat) : UInt8 := (shr32 (s (i / 4)) (24 - i % 4 * 8)).toUInt8
def digR (s : Nat → UInt32) (i : Nat) : Nat → UInt8 := fun k => if k < i then digB s k else 0
theorem digR_succ (s : Nat → UInt32) (i : Nat) : upd (digR s i) i (digB s i) = digR s (i + 1) := by
  funext k; unfold upd digR
  by_cases h : k = i
  · subst h; rw [if_pos rfl, if_pos (by omega)]
  · rw [if_neg h]
    by_cases h2 : k < i
    · rw [if_pos h2, if_pos (by omega)]
    · rw [if_neg h2, if_neg (by omega)]
/-- The state whose words are the digest. -/
def endH (H : HS) : HS := wrH H (tailF H.n) (tailZ H.n + 8)
def sumD (H : HS) : Nat → UInt8 := digB (endH H).s
theorem vec_digR (s : Nat → UInt32) : vecV 32 (fun k => u8 (digR s 32 k)) = vecV 32 fun k => u8 (digB s k) :=
  vecV_ext fun k hk => by rw [digR, if_pos hk]
/-- A call that writes to a block, and reads what is lent. -/
theorem RunsF.lendW {F F' : Blk → Prop} {P : Program} {f : FuncId} {args : List Value} {b0 : Blk} {cs : List Blk} {v : Value} {o : Blk} (h : RunsF F P f args [b0] 0 (fun _ => v) (fun _ => [some o]))
    (hF : ∀ w : World, FamH F' w → (∀ b ∈ cs, Holds b w) → FamH F w) (hn : ∀ x, F x → (∃ y, F' y ∧ y.name = x.name) ∨ ∃ c ∈ cs, c.name = x.name) (hb0 : b0.own = true) (hc : ∀ b ∈ cs, b.own = false) :
    RunsF F' P f args (b0 :: cs) 0 (fun _ => v) (fun _ => some o :: noneL cs) := by
  intro w hm ha hF'
  have hsub : ∀ p b, listMem ([b0].map some) p = some b → p = 0 ∧ b = b0 := fun p b hp => by
    rcases p with _ | p
    · cases hp; exact ⟨rfl, rfl⟩
    · simp [listMem] at hp
  have ho1 : ∀ k, Owns (listMem ([b0].map some)) k → Owns (listMem ((b0 :: cs).map some)) k := fun k ⟨p, b, h1, h2, h3⟩ => by
    obtain ⟨rfl, rfl⟩ := hsub p b h1
    exact ⟨0, b, rfl, h2, h3⟩
  have hapart : ∀ c ∈ cs, b0.name ≠ c.name := fun c hcm => by
    obtain ⟨i, hi⟩ := List.getElem?_of_mem hcm
    exact ha 0 (i + 1) b0 c (by omega) rfl (by show listMem (some b0 :: cs.map some) (i + 1) = some c; simp [listMem, hi]) hb0
  have hw := hF w (fun b hb' => ⟨(hF' b hb').1, (hF' b hb').2.1⟩) (fun b hb' => hm b (by simp [hb']))
  refine Calls.mono (h w (fun b hb' => hm b (by simp at hb'; simp [hb'])) (fun p q b c hpq hpb hqc ho => ?_) (fun b hFb => ⟨(hw b hFb).1, (hw b hFb).2, fun ⟨p, b', h1, h2, h3⟩ => ?_⟩)) ?_
  · obtain ⟨rfl, _⟩ := hsub p b hpb
    obtain ⟨rfl, _⟩ := hsub q c hqc
    exact absurd rfl hpq
  · obtain ⟨rfl, rfl⟩ := hsub p b' h1
    rcases hn b hFb with ⟨y, hy, he⟩ | ⟨c, hcm, he⟩
    · refine (hF' y hy).2.2 (ho1 _ ⟨0, b', rfl, h2, ?_⟩)
      rw [h3, he]
    · exact hapart c hcm (by rw [h3, he])
  · rintro e w' ⟨ns, hns, he, hp⟩
    have hout : ∀ p b, listMem (some o :: noneL cs) p = some b → listMem [some o] p = some b := fun p b hpb => by
      rcases p with _ | p
      · exact hpb
      · exact absurd (show listMem (noneL cs) p = some b by simpa [listMem] using hpb) (noneL_get _ _ _)
    exact ⟨ns, hns, he, ⟨fun p b hpb => hp.holds p b (hout p b hpb), fun p q b c hpq hpb hqc => hp.apart p q b c hpq (hout p b hpb) (hout q c hqc),
      ⟨hp.adv.os, hp.adv.output, hp.adv.tape, hp.adv.size, fun k hk hno => hp.adv.heap k hk (fun hk' => hno (ho1 k hk')), fun k ⟨p, b, h1, h2, h3⟩ => by
        rcases hp.adv.names k ⟨p, b, hout p b h1, h2, h3⟩ with h4 | h4
        · exact .inl (ho1 k h4)
        · exact .inr h4, fun p b hpb hob => by
        have h1 := hp.adv.ro p b (hout p b hpb) hob
        obtain ⟨rfl, rfl⟩ := hsub p b h1
        exact rfl⟩⟩⟩
end Go.Eng
namespace Go.Eng
theorem srun_cpLastA {P : Program} {dT sT ty e : TypeId} (hu : P.underlying dT = some (.slice e)) (hs : sizeB P e = some 1) (H : HS) (g : Nat → UInt8) (b k bs os i sl sc dc : Nat) (N : Nat) (hi : i < 64) (hN : os + sl ≤ N) {A : Option Addr} (hA : A = some ⟨k, bs + os, none⟩) :
    SRuns P (copySem dT sT ty (.slice (some ⟨b, 8 + i, none⟩) (64 - i) dc) (.slice A sl sc)) [⟨b, true, 0, hashC H⟩, ⟨k, false, bs, tabF N fun j => u8 (g j)⟩] 0 (fun _ => nat (min sl (64 - i)))
      (fun _ => [some ⟨b, true, 0, hashC ⟨H.s, cpyL H.l i (min sl (64 - i)) (fun j => g (os + j)), H.n⟩⟩, none]) := by
  subst hA; exact srun_cpLast hu hs H g b k bs os i sl sc dc N hi hN
theorem wr_init {H G : HS} {b : BytL} (hb : OkB b) (hG : G = wakeH H) : b.wn ≤ b.wn ∧ b.wn ≤ b.wc ∧ G = puts (wakeH H) b.wf (b.wn - b.wn) ∧ (0 < b.wn → b.wa = some ⟨b.wb, b.wo + (b.wn - b.wn), none⟩) ∧ b.wc ≤ b.wc := by
  rw [Nat.sub_self]
  exact ⟨Nat.le_refl _, hb.cap, hG, hb.ad, Nat.le_refl _⟩
theorem wr_step {H G G' : HS} {b : BytL} {A : Option Addr} {m q k i : Nat} (hm : 0 < m) (h0 : m ≤ b.wn) (h1 : m ≤ q) (h2 : G = puts (wakeH H) b.wf (b.wn - m)) (h3 : 0 < m → A = some ⟨b.wb, b.wo + (b.wn - m), none⟩) (h4 : q ≤ b.wc)
    (hG : G' = puts G (fun j => b.wf (b.wn - m + j)) k) (hk : k = min m (64 - i)) (hi : i < 64) :
    (m - k ≤ b.wn ∧ m - k ≤ q - k ∧ G' = puts (wakeH H) b.wf (b.wn - (m - k)) ∧ (0 < m - k → fromA A q k 1 = some ⟨b.wb, b.wo + (b.wn - (m - k)), none⟩) ∧ q - k ≤ b.wc) ∧ m - k < m := by
  refine ⟨⟨by omega, by omega, ?_, fun h5 => ?_, by omega⟩, by omega⟩
  · rw [hG, h2, show b.wn - (m - k) = (b.wn - m) + k by omega, puts_add]
  · rw [h3 hm]
    unfold fromA
    rw [if_neg (by omega)]
    simp [add_none] <;> omega
theorem wr_fin {H G : HS} {b : BytL} {m : Nat} (h : G = puts (wakeH H) b.wf (b.wn - m)) (hm : ¬ 0 < m) : hashC G = hashC (wrH H b.wf b.wn) := by
  rw [h, show b.wn - m = b.wn by omega]; rfl
end Go.Eng
namespace Go.Eng
theorem tailZ_le (n : UInt64) : 0 < (1 + (119 - n % 64) % 64).toNat ∧ (1 + (119 - n % 64) % 64).toNat ≤ 64 := by
  have h := tailZ_val n
  have h2 := zeros_lt n
  unfold tailZ zerosU at h
  unfold zerosU at h2
  omega
theorem tail_cat (n : UInt64) (k : Nat) (hk : k < (1 + (119 - n % 64) % 64).toNat + 8) {z : Nat} (hz : z = (1 + (119 - n % 64) % 64).toNat) :
    catU (catU (catU (catU (catU (catU (catU (catU (upd (fun _ => 0) 0 128) z (fun _ => (shr64 (8 * n) 56).toUInt8)) (z + 1) (fun _ => (shr64 (8 * n) 48).toUInt8)) (z + 1 + 1) (fun _ => (shr64 (8 * n) 40).toUInt8)) (z + 1 + 1 + 1) (fun _ => (shr64 (8 * n) 32).toUInt8)) (z + 1 + 1 + 1 + 1) (fun _ => (shr64 (8 * n) 24).toUInt8)) (z + 1 + 1 + 1 + 1 + 1) (fun _ => (shr64 (8 * n) 16).toUInt8)) (z + 1 + 1 + 1 + 1 + 1 + 1) (fun _ => (shr64 (8 * n) 8).toUInt8)) (z + 1 + 1 + 1 + 1 + 1 + 1 + 1) (fun _ => (shr64 (8 * n) 0).toUInt8) k = tailF n k := by
  have h0 := tailZ_le n
  have e : tailZ n = z := hz.symm
  unfold tailF
  rw [e]
  rw [← hz] at hk h0
  by_cases h1 : k < z
  · have : ∀ j, k < z + j := fun j => by omega
    simp only [catU, upd]
    rw [if_pos (by omega), if_pos (by omega), if_pos (by omega), if_pos (by omega), if_pos (by omega), if_pos (by omega), if_pos (by omega), if_pos h1, if_pos h1]
  · obtain ⟨j, rfl⟩ : ∃ j, k = z + j := ⟨k - z, by omega⟩
    rw [if_neg (by omega), if_neg h1, Nat.add_sub_cancel_left]
    rcases j with _ | _ | _ | _ | _ | _ | _ | _ | j
    · simp only [catU]; rw [if_pos (by omega), if_pos (by omega), if_pos (by omega), if_pos (by omega), if_pos (by omega), if_pos (by omega), if_pos (by omega), if_neg (by omega)]; rfl
    · simp only [catU]; rw [if_pos (by omega), if_pos (by omega), if_pos (by omega), if_pos (by omega), if_pos (by omega), if_pos (by omega), if_neg (by omega)]; rfl
    · simp only [catU]; rw [if_pos (by omega), if_pos (by omega), if_pos (by omega), if_pos (by omega), if_pos (by omega), if_neg (by omega)]; rfl
    · simp only [catU]; rw [if_pos (by omega), if_pos (by omega), if_pos (by omega), if_pos (by omega), if_neg (by omega)]; rfl
    · simp only [catU]; rw [if_pos (by omega), if_pos (by omega), if_pos (by omega), if_neg (by omega)]; rfl
    · simp only [catU]; rw [if_pos (by omega), if_pos (by omega), if_neg (by omega)]; rfl
    · simp only [catU]; rw [if_pos (by omega), if_neg (by omega)]; rfl
    · simp only [catU]; rw [if_neg (by omega)]; rfl
    · omega
theorem digR_zero (s : Nat → UInt32) : (fun _ => 0) = digR s 0 := by
  funext k; unfold digR; rw [if_neg (by omega)]
theorem holds_sprB {nm n r : Nat} {f : Nat → UInt8} {w : World} (h : Holds ⟨nm, false, 0, spr (n + r) n (fun k => u8 (f k)) (u8 0)⟩ w) : Holds ⟨nm, false, 0, tabF n fun k => u8 (f k)⟩ w :=
  h.recont rfl fun j v hj => by
    by_cases hl : j < n
    · rw [tabF_in hl] at hj
      show (spr (n + r) n (fun k => u8 (f k)) (u8 0)).get j = _
      rw [spr, tabF_in (by omega), if_pos hl]; exact hj
    · rw [tabF_out hl] at hj; cases hj
theorem famTB_own {F : Blk → Prop} (hT : ∀ x, famT x → F x) {nm n cc : Nat} {f : Nat → UInt8} {B : Blk} (hH : ∀ w : World, Holds B w → Holds ⟨nm, false, 0, tabF n fun k => u8 (f k)⟩ w) :
    ∀ w : World, FamH F w → (∀ b ∈ [B], Holds b w) → FamH (famTB (bytO nm n cc f)) w := fun w hF hb x hx => by
  rcases hx with hx | hx
  · exact hF x (hT x hx)
  · exact holdb_own (hH w (hb B (by simp))) x hx
theorem famTB_names {F : Blk → Prop} (hT : ∀ x, famT x → F x) {nm n cc : Nat} {f : Nat → UInt8} {B : Blk} (hn : B.name = nm) :
    ∀ x, famTB (bytO nm n cc f) x → (∃ y, F y ∧ y.name = x.name) ∨ ∃ c ∈ [B], c.name = x.name := fun x hx => by
  rcases hx with hx | ⟨_, rfl⟩
  · exact .inl ⟨x, hT x hx, rfl⟩
  · exact .inr ⟨B, by simp, hn⟩
def famTS (q : BytS) (b : Blk) : Prop := famT b ∨ famS q b
theorem famTS_el {q : BytS} {i : Nat} (hi : i < q.wn) (x : Blk) (h : famTB (q.wf i) x) : famTS q x := by
  rcases h with h | h
  · exact .inl h
  · exact .inr (.inr ⟨i, hi, h⟩)
def wrS (H : HS) (f : Nat → BytL) : Nat → HS
  | 0 => H
  | k + 1 => wrH (wrS H f k) (f k).wf (f k).wn
def ofD (q : BytS) : Nat → UInt8 := sumD (wrS newH q.wf q.wn)
end Go.Eng
namespace Go.Eng
theorem digR_step {s : Nat → UInt32} {d : Nat → UInt8} {i : Nat} (h : d = digR s i) : upd d i ((shr32 (s (i / 4)) (24 - i % 4 * 8)).toUInt8) = digR s (i + 1) := by
  subst h; exact digR_succ s i
theorem sum_fin (H : HS) {d : Nat → UInt8} {i : Nat} (h : d = digR (wrH H (tailF H.n) (tailZ H.n + 8)).s i) (hi : i = 32) : vecV 32 (fun k => u8 (d k)) = vecV 32 fun k => u8 (sumD H k) := by
  subst h hi; exact vec_digR _
theorem holds_litB {nm : Nat} {l : List Value} {n : Nat} {f : Nat → UInt8} {w : World} (h : Holds ⟨nm, false, 0, .lit l⟩ w) (hl : l = (List.range n).map fun k => u8 (f k)) : Holds ⟨nm, false, 0, tabF n fun k => u8 (f k)⟩ w := by
  subst hl
  exact h.recont rfl fun j v hj => by
    by_cases hl : j < n
    · rw [tabF_in hl] at hj
      show ((List.range n).map fun k => u8 (f k))[j]? = _
      rw [map_get u8 f n j hl]; exact hj
    · rw [tabF_out hl] at hj; cases hj
def bytsOf (l : List UInt8) (k : Nat) : UInt8 := l.getD k 0
theorem famTB_nil {F : Blk → Prop} (hT : ∀ x, famT x → F x) {a : Option Addr} {c : Nat} (x : Blk) (h : famTB (bytZ a c) x) : F x := by
  rcases h with h | ⟨h, _⟩
  · exact hT x h
  · exact absurd h (Nat.lt_irrefl 0)
end Go.Eng
namespace Go.Eng
/-! ### the document's step -/
def wordB (b : Nat → UInt8) (i : Nat) : UInt32 := (b (4 * i)).toUInt32 * 16777216 + (b (4 * i + 1)).toUInt32 * 65536 + (b (4 * i + 2)).toUInt32 * 256 + (b (4 * i + 3)).toUInt32
def rw1 (b : Nat → UInt8) (j : Nat) : Nat → UInt32 := fun k => if k < j then wordB b k else 0
theorem rw1_zero (b : Nat → UInt8) : (fun _ => 0) = rw1 b 0 := by funext k; unfold rw1; rw [if_neg (by omega)]
theorem rw1_succ (b : Nat → UInt8) (j : Nat) : upd (rw1 b j) j (wordB b j) = rw1 b (j + 1) := by
  funext k; unfold upd rw1
  by_cases h : k = j
  · subst h; rw [if_pos rfl, if_pos (by omega)]
  · rw [if_neg h]
    by_cases h2 : k < j
    · rw [if_pos h2, if_pos (by omega)]
    · rw [if_neg h2, if_neg (by omega)]
/-- A word of the first bytes that have come. -/
def word_part (b : Nat → UInt8) (i : Nat) : Nat → UInt32
  | 0 => 0
  | j + 1 => shl32 (word_part b i j) 8 ||| (b (4 * i + j)).toUInt32
theorem sp1_word (b : Nat → UInt8) : ∀ (n k : Nat), sp1 b n k = word_part b k (if 4 * k + 4 ≤ n then 4 else n - 4 * k)
  | 0, k => by
    rw [if_neg (by omega), show 0 - 4 * k = 0 by omega]; rfl
  | n + 1, k => by
    rw [sp1]
    unfold upd
    by_cases h : k = n / 4
    · subst h
      rw [if_pos rfl, sp1_word b n (n / 4)]
      have h4 := Nat.div_add_mod n 4
      have hl := Nat.mod_lt n (show 4 > 0 by omega)
      rw [if_neg (by omega)]
      have e : (if 4 * (n / 4) + 4 ≤ n + 1 then 4 else n + 1 - 4 * (n / 4)) = (n - 4 * (n / 4)) + 1 := by
        split <;> omega
      rw [e, word_part, show 4 * (n / 4) + (n - 4 * (n / 4)) = n by omega]
    · rw [if_neg h, sp1_word b n k]
      congr 1
      have h4 := Nat.div_add_mod n 4
      have hl := Nat.mod_lt n (show 4 > 0 by omega)
      by_cases h5 : 4 * k + 4 ≤ n
      · rw [if_pos h5, if_pos (by omega)]
      · rw [if_neg h5]
        split <;> omega
theorem or_byte (x : UInt32) (y : UInt8) (hx : x.toNat < 16777216) : (shl32 x 8 ||| y.toUInt32).toNat = x.toNat * 256 + y.toNat := by
  have hy := y.toNat_lt
  have h1 : (shl32 x 8).toNat = 2 ^ 8 * x.toNat := by rw [shl32_toNat, Nat.mul_comm]; exact Nat.mod_eq_of_lt (by omega)
  rw [UInt32.toNat_or, h1, UInt8.toNat_toUInt32, ← Nat.two_pow_add_eq_or_of_lt (by omega)]
  omega
theorem word_full (b : Nat → UInt8) (i : Nat) : word_part b i 4 = wordB b i := by
  apply UInt32.toNat_inj.1
  have b0 := (b (4 * i)).toNat_lt
  have b1 := (b (4 * i + 1)).toNat_lt
  have b2 := (b (4 * i + 2)).toNat_lt
  have b3 := (b (4 * i + 3)).toNat_lt
  have e1 : (word_part b i 1).toNat = (b (4 * i)).toNat := by
    have := or_byte 0 (b (4 * i)) (by decide)
    have h0 : (0 : UInt32).toNat = 0 := rfl
    rw [h0] at this
    simpa [word_part] using this
  have e2 : (word_part b i 2).toNat = (b (4 * i)).toNat * 256 + (b (4 * i + 1)).toNat := by
    rw [← e1]; exact or_byte (word_part b i 1) _ (by omega)
  have e3 : (word_part b i 3).toNat = ((b (4 * i)).toNat * 256 + (b (4 * i + 1)).toNat) * 256 + (b (4 * i + 2)).toNat := by
    rw [← e2]; exact or_byte (word_part b i 2) _ (by omega)
  have e4 : (word_part b i 4).toNat = (((b (4 * i)).toNat * 256 + (b (4 * i + 1)).toNat) * 256 + (b (4 * i + 2)).toNat) * 256 + (b (4 * i + 3)).toNat := by
    rw [← e3]; exact or_byte (word_part b i 3) _ (by omega)
  rw [e4]
  unfold wordB
  simp only [UInt32.toNat_add, UInt32.toNat_mul, UInt8.toNat_toUInt32]
  have c1 : (16777216 : UInt32).toNat = 16777216 := rfl
  have c2 : (65536 : UInt32).toNat = 65536 := rfl
  have c3 : (256 : UInt32).toNat = 256 := rfl
  rw [c1, c2, c3]
  omega
theorem rw1_all (b : Nat → UInt8) : rw1 b 16 = sp1 b 64 := by
  funext k
  rw [sp1_word]
  unfold rw1
  by_cases h : k < 16
  · rw [if_pos h, if_pos (by omega), word_full]
  · rw [if_neg h, if_neg (by omega), show 64 - 4 * k = 0 by omega]; rfl
theorem div_shr (x m : UInt32) (n : Nat) (h : m.toNat = 2 ^ n) : x / m = shr32 x n := by
  apply UInt32.toNat_inj.1
  rw [UInt32.toNat_div, shr32_toNat, h]
theorem rsp_step {b : Nat → UInt8} {j : Nat} {v : Nat → UInt32} (h : 16 ≤ j) (hv : v = sp2 b (j - 16)) :
    upd v j (v (j - 16) + (rot (v (j - 15)) 7 ^^^ rot (v (j - 15)) 18 ^^^ v (j - 15) / 8) + v (j - 7) + (rot (v (j - 2)) 17 ^^^ rot (v (j - 2)) 19 ^^^ v (j - 2) / 1024)) = sp2 b (j + 1 - 16) := by
  rw [← sp_step h hv, div_shr _ 8 3 rfl, div_shr _ 1024 10 rfl]
  congr 1
  congr 1
  rw [UInt32.add_assoc, UInt32.add_assoc (v (j - 16)), UInt32.add_comm (v (j - 7))]
theorem choose_eq (e f g : UInt32) : (e &&& f ||| (4294967295 - e) &&& g) = (e &&& f ^^^ ~~~e &&& g) := by
  have h : (4294967295 : UInt32) - e = ~~~e := by
    apply UInt32.toBitVec_inj.1
    show BitVec.allOnes 32 - e.toBitVec = ~~~e.toBitVec
    exact BitVec.allOnes_sub_eq_not _
  rw [h]
  apply UInt32.toBitVec_inj.1
  show (e.toBitVec &&& f.toBitVec ||| ~~~e.toBitVec &&& g.toBitVec) = (e.toBitVec &&& f.toBitVec ^^^ ~~~e.toBitVec &&& g.toBitVec)
  apply BitVec.eq_of_getLsbD_eq
  intro i hi
  simp only [BitVec.getLsbD_or, BitVec.getLsbD_and, BitVec.getLsbD_xor, BitVec.getLsbD_not, hi, decide_true, Bool.true_and]
  cases e.toBitVec.getLsbD i <;> simp
theorem most_eq (a b c : UInt32) : (a &&& b ||| a &&& c ||| b &&& c) = (a &&& b ^^^ a &&& c ^^^ b &&& c) := by
  apply UInt32.toBitVec_inj.1
  show (a.toBitVec &&& b.toBitVec ||| a.toBitVec &&& c.toBitVec ||| b.toBitVec &&& c.toBitVec) = (a.toBitVec &&& b.toBitVec ^^^ a.toBitVec &&& c.toBitVec ^^^ b.toBitVec &&& c.toBitVec)
  apply BitVec.eq_of_getLsbD_eq
  intro i hi
  simp only [BitVec.getLsbD_or, BitVec.getLsbD_and, BitVec.getLsbD_xor]
  cases a.toBitVec.getLsbD i <;> cases b.toBitVec.getLsbD i <;> cases c.toBitVec.getLsbD i <;> rfl
/-- The document's round. -/
theorem rnd_ref (v : Nat → UInt32) (k w : UInt32) :
    (W8.mk (v 7 + (rot (v 4) 6 ^^^ rot (v 4) 11 ^^^ rot (v 4) 25) + (v 4 &&& v 5 ||| (4294967295 - v 4) &&& v 6) + k + w + ((rot (v 0) 2 ^^^ rot (v 0) 13 ^^^ rot (v 0) 22) + (v 0 &&& v 1 ||| v 0 &&& v 2 ||| v 1 &&& v 2))) (v 0) (v 1) (v 2)
      (v 3 + (v 7 + (rot (v 4) 6 ^^^ rot (v 4) 11 ^^^ rot (v 4) 25) + (v 4 &&& v 5 ||| (4294967295 - v 4) &&& v 6) + k + w)) (v 4) (v 5) (v 6)).get = rndF v (k + w) := by
  unfold rndF rndS rndX rndY w8F
  rw [choose_eq, most_eq]
  simp only [UInt32.add_assoc]
theorem mixS_congr {s : Nat → UInt32} {f g : Nat → UInt8} (h : ∀ k, k < 64 → f k = g k) : mixS s f = mixS s g := by
  have h1 : sp1 f 64 = sp1 g 64 := by
    have : ∀ n, n ≤ 64 → sp1 f n = sp1 g n := fun n => by
      induction n with
      | zero => intro _; rfl
      | succ n ih => intro hn; rw [sp1, sp1, ih (by omega), h n (by omega)]
    exact this 64 (Nat.le_refl _)
  have h2 : ∀ n, sp2 f n = sp2 g n := fun n => by
    induction n with
    | zero => exact h1
    | succ n ih => rw [sp2, sp2, ih]
  unfold mixS sprS
  rw [h2]
/-! ### what was written, at once -/
def foldS (f : Nat → UInt8) : Nat → (Nat → UInt32)
  | 0 => begW
  | j + 1 => mixS (foldS f j) (fun k => f (64 * j + k))
def begH : HS := ⟨begW, fun _ => 0, 0⟩
theorem wake_new : wakeH newH = begH := by unfold wakeH newH; rw [if_pos (by rfl)]; rfl
theorem puts_n (H : HS) (f : Nat → UInt8) : ∀ n, (puts H f n).n = H.n + UInt64.ofNat n
  | 0 => by show H.n = H.n + 0; rw [UInt64.add_zero]
  | n + 1 => by
    rw [puts, put, ← n_succ, ← puts_n H f n]
    split <;> rfl
theorem puts_fold (f : Nat → UInt8) : ∀ j, (puts begH f (64 * j)).s = foldS f j
  | 0 => rfl
  | j + 1 => by
    have hn : ((puts begH f (64 * j)).n % 64).toNat = 0 := by
      rw [puts_n]
      have h1 : (64 : UInt64).toNat = 64 := rfl
      show ((0 + UInt64.ofNat (64 * j)) % 64).toNat = 0
      rw [UInt64.zero_add, UInt64.toNat_mod, UInt64.toNat_ofNat', h1]
      omega
    rw [show 64 * (j + 1) = 64 * j + 64 by omega, puts_add, puts_end _ _ (k := 64) (by omega), foldS, ← puts_fold f j]
    exact mixS_congr fun k hk => by
      unfold cpyL
      rw [hn, if_pos (by omega), Nat.sub_zero]
/-- The hash stands behind n bytes. -/
structure Stands (H : HS) (f : Nat → UInt8) (n : Nat) : Prop where
  wake : wakeH H = puts begH f n
  num : H.n = UInt64.ofNat n
theorem stands_new (f : Nat → UInt8) : Stands newH f 0 := ⟨wake_new, rfl⟩
theorem wake_puts (f : Nat → UInt8) {n : Nat} (h : n < 18446744073709551616) : wakeH (puts begH f n) = puts begH f n := by
  rcases Nat.eq_zero_or_pos n with h0 | h0
  · subst h0; rfl
  · unfold wakeH
    have : (puts begH f n).n ≠ 0 := fun e => by
      rw [puts_n] at e
      have h2 := congrArg UInt64.toNat e
      rw [show begH.n = 0 from rfl, UInt64.zero_add, UInt64.toNat_ofNat', Nat.mod_eq_of_lt h] at h2
      have h3 : (0 : UInt64).toNat = 0 := rfl
      omega
    rw [if_neg (by simpa using this)]
theorem Stands.wr {H : HS} {f : Nat → UInt8} {n : Nat} (h : Stands H f n) (g : Nat → UInt8) (m : Nat) : wrH H g m = puts begH (catU f n g) (n + m) := by
  unfold wrH
  rw [h.wake, puts_add begH (catU f n g) n m, puts_congr begH (f := f) (g := catU f n g) (fun k hk => by unfold catU; rw [if_pos hk])]
  exact puts_congr _ fun k hk => by unfold catU; rw [if_neg (by omega), Nat.add_sub_cancel_left]
theorem Stands.write {H : HS} {f g : Nat → UInt8} {n m : Nat} (h : Stands H f n) (hm : n + m < 18446744073709551616) : Stands (wrH H g m) (catU f n g) (n + m) := by
  have e := h.wr g m
  refine ⟨?_, ?_⟩
  · rw [e, wake_puts _ hm]
  · rw [e, puts_n]; show 0 + _ = _; rw [UInt64.zero_add]
theorem Stands.congr {H : HS} {f g : Nat → UInt8} {n : Nat} (h : Stands H f n) (hfg : ∀ k, k < n → f k = g k) : Stands H g n :=
  ⟨by rw [h.wake]; exact puts_congr _ hfg, h.num⟩
/-- The digest of n bytes. -/
def padF (f : Nat → UInt8) (n : Nat) : Nat → UInt8 := catU f n (tailF (UInt64.ofNat n))
def digOf (f : Nat → UInt8) (n : Nat) : Nat → UInt8 := digB (foldS (padF f n) ((n + (tailZ (UInt64.ofNat n) + 8)) / 64))
theorem Stands.sum {H : HS} {f : Nat → UInt8} {n : Nat} (h : Stands H f n) (hn : n < 18446744073709551616 - 128) : sumD H = digOf f n := by
  have hz := tailZ_le (UInt64.ofNat n)
  have hz2 : tailZ (UInt64.ofNat n) ≤ 64 := hz.2
  have hm := tail_mod (UInt64.ofNat n)
  rw [UInt64.toNat_ofNat', Nat.mod_eq_of_lt (show n < 2 ^ 64 by omega)] at hm
  unfold sumD digOf endH
  rw [h.num]
  refine congrArg digB ?_
  have e := h.wr (tailF (UInt64.ofNat n)) (tailZ (UInt64.ofNat n) + 8)
  have hq : 64 * ((n + (tailZ (UInt64.ofNat n) + 8)) / 64) = n + (tailZ (UInt64.ofNat n) + 8) := by omega
  rw [e]
  show _ = foldS (padF f n) _
  rw [← puts_fold, hq]; rfl
theorem foldS_congr {f g : Nat → UInt8} : ∀ {j : Nat}, (∀ k, k < 64 * j → f k = g k) → foldS f j = foldS g j
  | 0, _ => rfl
  | j + 1, h => by
    rw [foldS, foldS, foldS_congr (fun k hk => h k (by omega))]
    exact mixS_congr fun k hk => h _ (by omega)
theorem digOf_congr {f g : Nat → UInt8} {n : Nat} (h : ∀ k, k < n → f k = g k) : digOf f n = digOf g n := by
  unfold digOf padF
  refine congrArg digB ?_
  exact foldS_congr fun k _ => by
    unfold catU
    by_cases hk : k < n
    · rw [if_pos hk, if_pos hk, h k hk]
    · rw [if_neg hk, if_neg hk]
end Go.Eng
namespace Go.Eng
/-- A part of a slice of one's own. -/
def bytP (nm at_ n c : Nat) (f : Nat → UInt8) : BytL := ⟨some ⟨nm, at_, none⟩, n, c, nm, at_, fun k => f (at_ + k)⟩
theorem okb_part {nm at_ n c : Nat} {f : Nat → UInt8} (h1 : n ≤ c) (h2 : n ≤ 9223372036854775807) : OkB (bytP nm at_ n c f) := ⟨h1, fun _ => rfl, h2⟩
theorem holdb_part {nm at_ n r k c : Nat} {f : Nat → UInt8} (hk : at_ + k ≤ n) : ∀ w : World, (∀ b ∈ [(⟨nm, false, 0, spr (n + r) n (fun k => u8 (f k)) (u8 0)⟩ : Blk)], Holds b w) → ∀ b, famB (bytP nm at_ k c f) b → Holds b w ∧ b.own = false := fun w hw b hb => by
  obtain ⟨_, rfl⟩ := hb
  have h := holds_sprB (hw _ (List.Mem.head _))
  refine ⟨⟨h.lt, fun j v hj => ?_, (fun h => by cases h), obj_not rfl⟩, rfl⟩
  have hj' : (tabF k fun j => u8 (f (at_ + j))).get j = some v := hj
  by_cases hl : j < k
  · rw [tabF_in hl] at hj'
    have := h.cell (at_ + j) v (by show (tabF n _).get _ = _; rw [tabF_in (by omega)]; exact hj')
    show w.cell? ⟨nm, at_ + j, none⟩ = some v
    simpa using this
  · rw [tabF_out hl] at hj'; cases hj'
theorem is_slPartN {P : Program} {t e : TypeId} {x y z : Operand} (ht : P.underlying t = some (.slice e)) (hs : sizeB P e = some 1) (n len cap i j l : Nat) (hi : i + l = j ∧ j ≤ cap ∧ i < cap) :
    IsOp P (.slice t x (some y) (some z) none) [.slice (some ⟨n, 0, none⟩) len cap, nat i, nat j] (.slice (some ⟨n, i, none⟩) l (cap - i)) := by
  intro ρ o' ho hv
  rw [ho] at hv
  have hv' : [ρ x, ρ y, ρ z] = [Value.slice (some ⟨n, 0, none⟩) len cap, nat i, nat j] := hv
  injection hv' with h1 hv'
  injection hv' with h2 hv'
  injection hv' with h3 _
  unfold execOp
  rw [ho]
  simp only [Option.map]
  show pureRun P (Sem.bind (Instr.sliceAt t (ρ x) (some (ρ y)) (some (ρ z)) none) fun v => Sem.pure (Next.value v)) = _
  rw [pureRun_bind, h1, h2, h3]
  have hi' : 0 ≤ (i : Int) ∧ (i : Int) ≤ (j : Int) := by omega
  have hj' : 0 ≤ (j : Int) ∧ (j : Int) ≤ (cap : Int) := by omega
  have hne : ¬ cap = i := by omega
  have hl : j - i = l := by omega
  have e : pureRun P (Instr.sliceAt t (.slice (some ⟨n, 0, none⟩) len cap) (some (nat i)) (some (nat j)) none) = some (.slice (some ⟨n, i, none⟩) l (cap - i)) := by
    simp only [Instr.sliceAt, Instr.slice, Instr.sliceBounds, Instr.sliceBound, nat, pureRun_bind', asIntOf, pureRun, pure, pureRun_underlying ht, hi', hj', and_self, if_true, pureRun_sizeOf hs, Int.toNat_natCast]
    simp [hne, hl, add_none, Nat.mul_one]
  rw [e]
  rfl
/-! ### the document's digest: what it does with bytes -/
def rpadL (n : Nat) : Nat := n + tailZ (UInt64.ofNat n)
/-- The bytes, with 128 and noughts behind. -/
def rpad (f : Nat → UInt8) (n : Nat) : Nat → UInt8 := fun k => if k < n then f k else if k = n then 128 else 0
theorem rpad_mod {n : Nat} (h : n < 9223372036854775808) : rpadL n % 64 = 56 ∧ n + 1 ≤ rpadL n ∧ rpadL n ≤ n + 64 := by
  have h1 := tail_mod (UInt64.ofNat n)
  have h2 := tailZ_le (UInt64.ofNat n)
  rw [UInt64.toNat_ofNat', Nat.mod_eq_of_lt (show n < 2 ^ 64 by omega)] at h1
  unfold rpadL
  have h3 : 0 < tailZ (UInt64.ofNat n) ∧ tailZ (UInt64.ofNat n) ≤ 64 := h2
  omega
theorem rpad_tail {f : Nat → UInt8} {n k : Nat} (hk : k < rpadL n) : padF f n k = rpad f n k := by
  unfold padF catU rpad tailF
  by_cases h : k < n
  · rw [if_pos h, if_pos h]
  · rw [if_neg h, if_neg h]
    unfold rpadL at hk
    by_cases h2 : k = n
    · subst h2; rw [if_pos (by omega), if_pos rfl]
    · rw [if_neg (by omega), if_neg h2, if_pos (by omega)]
theorem rpad_len {f : Nat → UInt8} {n j : Nat} (hj : j < 8) : padF f n (rpadL n + j) = lenB (UInt64.ofNat n) j := by
  have hz := tailZ_le (UInt64.ofNat n)
  have h3 : 0 < tailZ (UInt64.ofNat n) := hz.1
  unfold padF catU rpadL tailF
  rw [if_neg (by omega), if_neg (by omega), if_neg (by omega)]
  congr 1
  omega
end Go.Eng
