/-
  The hash's block: eight words, sixty-four bytes, a number; what writing makes of it.
-/
import Derived.Test.YtkbiahdnfhokgaaDoorShaOps
import Derived.Test.YtkbiahdnfhokgaaDoorByt
namespace Go.Eng
set_option linter.unusedSimpArgs false
set_option linter.unusedVariables false
set_option maxRecDepth 100000

structure HS where
  s : Nat → UInt32
  l : Nat → UInt8
  n : UInt64
def hashL (H : HS) : List Value := (List.range 8).map (fun k => u32 (H.s k)) ++ ((List.range 64).map (fun k => u8 (H.l k)) ++ [u64 H.n])
def hashC (H : HS) : Cont := .lit (hashL H)
theorem hashL_length (H : HS) : (hashL H).length = 73 := by simp [hashL]
theorem hash_get (H : HS) (k : Nat) : (hashL H)[k]? = if k < 8 then some (u32 (H.s k)) else if k < 72 then some (u8 (H.l (k - 8))) else if k = 72 then some (u64 H.n) else none := by
  unfold hashL
  by_cases h1 : k < 8
  · rw [if_pos h1, List.getElem?_append_left (by simpa using h1), List.getElem?_map, List.getElem?_range h1]; rfl
  rw [if_neg h1, List.getElem?_append_right (by simp; omega)]
  simp only [List.length_map, List.length_range]
  by_cases h2 : k < 72
  · rw [if_pos h2, List.getElem?_append_left (by simp; omega), List.getElem?_map, List.getElem?_range (by omega)]; rfl
  rw [if_neg h2, List.getElem?_append_right (by simp; omega)]
  simp only [List.length_map, List.length_range]
  by_cases h3 : k = 72
  · subst h3; rfl
  · rw [if_neg h3]
    rw [List.getElem?_eq_none (by simp; omega)]
def cpyL {α : Type} (l : Nat → α) (i n : Nat) (g : Nat → α) : Nat → α := fun k => if i ≤ k ∧ k < i + n then g (k - i) else l k
theorem cpyL_zero {α : Type} (l : Nat → α) (i : Nat) (g : Nat → α) : cpyL l i 0 g = l := by
  funext k; unfold cpyL; rw [if_neg (by omega)]
theorem cpyL_succ {α : Type} (l : Nat → α) (i n : Nat) (g : Nat → α) : upd (cpyL l i n g) (i + n) (g n) = cpyL l i (n + 1) g := by
  funext k; unfold upd cpyL
  by_cases h : k = i + n
  · subst h; rw [if_pos rfl, if_pos (by omega), Nat.add_sub_cancel_left]
  · rw [if_neg h]
    by_cases h2 : i ≤ k ∧ k < i + n
    · rw [if_pos h2, if_pos (by omega)]
    · rw [if_neg h2, if_neg (by omega)]
theorem map_get {α : Type} (K : α → Value) (g : Nat → α) (n k : Nat) (h : k < n) : ((List.range n).map fun j => K (g j))[k]? = some (K (g k)) := by
  rw [List.getElem?_map, List.getElem?_range h]; rfl
theorem splice_last (H : HS) (i n : Nat) (g : Nat → UInt8) (h : i + n ≤ 64) : splice (hashL H) (8 + i) ((List.range n).map fun j => u8 (g j)) = hashL ⟨H.s, cpyL H.l i n g, H.n⟩ := by
  apply List.ext_getElem?
  intro k
  rw [splice_get _ _ _ (by rw [hashL_length]; simp; omega), hash_get, hash_get]
  simp only [List.length_map, List.length_range]
  by_cases h1 : 8 + i ≤ k ∧ k < 8 + i + n
  · rw [if_pos h1, map_get u8 g n _ (by omega), if_neg (by omega), if_pos (by omega)]
    simp only [cpyL]
    rw [if_pos (by omega), show k - 8 - i = k - (8 + i) by omega]
  · rw [if_neg h1]
    by_cases h2 : k < 8
    · rw [if_pos h2, if_pos h2]
    · rw [if_neg h2, if_neg h2]
      by_cases h3 : k < 72
      · rw [if_pos h3, if_pos h3]
        simp only [cpyL]
        rw [if_neg (by omega)]
      · rw [if_neg h3, if_neg h3]
theorem splice_words (H : HS) (g : Nat → UInt32) : splice (hashL H) 0 ((List.range 8).map fun j => u32 (g j)) = hashL ⟨g, H.l, H.n⟩ := by
  apply List.ext_getElem?
  intro k
  rw [splice_get _ _ _ (by rw [hashL_length]; simp), hash_get, hash_get]
  simp only [List.length_map, List.length_range, Nat.zero_add, Nat.zero_le, true_and, Nat.sub_zero]
  by_cases h1 : k < 8
  · rw [if_pos h1, map_get u32 g 8 _ h1, if_pos h1]
  · rw [if_neg h1, if_neg h1, if_neg h1]
theorem splice_num (H : HS) (m : UInt64) : splice (hashL H) 72 [u64 m] = hashL ⟨H.s, H.l, m⟩ := by
  apply List.ext_getElem?
  intro k
  rw [splice_get _ _ _ (by rw [hashL_length]; simp), hash_get, hash_get]
  simp only [List.length_singleton]
  by_cases h1 : 72 ≤ k ∧ k < 72 + 1
  · obtain rfl : k = 72 := by omega
    rfl
  · rw [if_neg h1]
    by_cases h2 : k < 8
    · rw [if_pos h2, if_pos h2]
    · rw [if_neg h2, if_neg h2]
      by_cases h3 : k < 72
      · rw [if_pos h3, if_pos h3]
      · rw [if_neg h3, if_neg h3, if_neg (by omega), if_neg (by omega)]
theorem all_one {α : Type} (K : α → Value) (hK : ∀ a, Value.oneCell' (K a) = true) (g : Nat → α) (n : Nat) : ((List.range n).map fun j => K (g j)).all Value.oneCell' = true := by
  rw [List.all_eq_true]; intro x hx; obtain ⟨j, _, rfl⟩ := List.mem_map.1 hx; exact hK _
theorem store_lit {D cs D' : List Value} {o : Nat} (h : o + cs.length ≤ D.length) (he : splice D o cs = D') : (Cont.lit D).store (.lit o) cs = some (.lit D') := by
  show (match Nat.ble (o + cs.length) D.length with
    | true => some (Cont.lit (splice D o cs))
    | false => none) = _
  rw [Nat.ble_eq_true_of_le h, he]
theorem st_words (H : HS) (g : Nat → UInt32) : (hashC H).store (.lit 0) (vecV 8 fun k => u32 (g k)).cells.toList = some (hashC ⟨g, H.l, H.n⟩) :=
  store_lit (by rw [hashL_length]; exact Nat.le_of_ble_eq_true rfl) (splice_words H g)
theorem st_num (H : HS) (m : UInt64) : (hashC H).store (.lit 72) (u64 m).cells.toList = some (hashC ⟨H.s, H.l, m⟩) :=
  store_lit (by rw [hashL_length]; exact Nat.le_of_ble_eq_true rfl) (splice_num H m)
section
variable {P : Program} {dT sT ty e : TypeId}
theorem srun_cpLast (hu : P.underlying dT = some (.slice e)) (hs : sizeB P e = some 1) (H : HS) (g : Nat → UInt8) (b k bs os i sl sc dc : Nat) (N : Nat) (hi : i < 64) (hN : os + sl ≤ N) :
    SRuns P (copySem dT sT ty (.slice (some ⟨b, 8 + i, none⟩) (64 - i) dc) (.slice (some ⟨k, bs + os, none⟩) sl sc)) [⟨b, true, 0, hashC H⟩, ⟨k, false, bs, tabF N fun j => u8 (g j)⟩] 0 (fun _ => nat (min sl (64 - i)))
      (fun _ => [some ⟨b, true, 0, hashC ⟨H.s, cpyL H.l i (min sl (64 - i)) (fun j => g (os + j)), H.n⟩⟩, none]) := by
  have h := srun_copyG (P := P) (dT := dT) (sT := sT) (ty := ty) (e := e) (n := b) (k := k) (od := 8 + i) (dl := 64 - i) (dc := dc) (bs := bs) (os := os) (sl := sl) (sc := sc)
    (D := hashL H) (cs := (List.range (min sl (64 - i))).map fun j => u8 (g (os + j))) (S := tabF N fun j => u8 (g j)) hu hs (fun j hj => by
      have hj' : j < min sl (64 - i) := by simpa using hj
      rw [tabF_in (by omega), map_get u8 (fun j => g (os + j)) _ _ hj']) (by simp) (all_one u8 (fun _ => rfl) _ _)
    (store_lit (by rw [hashL_length]; simp; omega) (splice_last H i (min sl (64 - i)) (fun j => g (os + j)) (by omega)))
  rw [show ((List.range (min sl (64 - i))).map fun j => u8 (g (os + j))).length = min sl (64 - i) by simp] at h
  exact h
theorem srun_cpWords (hu : P.underlying dT = some (.slice e)) (hs : sizeB P e = some 1) (H G : HS) (b k : Nat) :
    SRuns P (copySem dT sT ty (.slice (some ⟨b, 0, none⟩) 8 8) (.slice (some ⟨k, 0, none⟩) 8 8)) [⟨b, true, 0, hashC H⟩, ⟨k, false, 0, hashC G⟩] 0 (fun _ => nat 8)
      (fun _ => [some ⟨b, true, 0, hashC ⟨G.s, H.l, H.n⟩⟩, none]) :=
  srun_copyG (P := P) (dT := dT) (sT := sT) (ty := ty) (e := e) (n := b) (k := k) (od := 0) (dl := 8) (dc := 8) (bs := 0) (os := 0) (sl := 8) (sc := 8)
    (D := hashL H) (cs := (List.range 8).map fun j => u32 (G.s j)) (S := hashC G) hu hs (fun j hj => by
      have hj' : j < 8 := by simpa using hj
      rw [map_get u32 G.s _ _ hj']; show (hashL G)[0 + j]? = _; rw [hash_get, if_pos (by omega), Nat.zero_add]) (by simp) (all_one u32 (fun _ => rfl) _ _)
    (store_lit (by rw [hashL_length]; simp) (splice_words H G.s))
theorem srun_cpBytes (hu : P.underlying dT = some (.slice e)) (hs : sizeB P e = some 1) (H G : HS) (b k : Nat) :
    SRuns P (copySem dT sT ty (.slice (some ⟨b, 8, none⟩) 64 64) (.slice (some ⟨k, 8, none⟩) 64 64)) [⟨b, true, 0, hashC H⟩, ⟨k, false, 0, hashC G⟩] 0 (fun _ => nat 64)
      (fun _ => [some ⟨b, true, 0, hashC ⟨H.s, cpyL H.l 0 64 G.l, H.n⟩⟩, none]) :=
  srun_copyG (P := P) (dT := dT) (sT := sT) (ty := ty) (e := e) (n := b) (k := k) (od := 8) (dl := 64) (dc := 64) (bs := 0) (os := 8) (sl := 64) (sc := 64)
    (D := hashL H) (cs := (List.range 64).map fun j => u8 (G.l j)) (S := hashC G) hu hs (fun j hj => by
      have hj' : j < 64 := by simpa using hj
      rw [map_get u8 G.l _ _ hj']; show (hashL G)[8 + j]? = _; rw [hash_get, if_neg (by omega), if_pos (by omega), Nat.add_sub_cancel_left]) (by simp) (all_one u8 (fun _ => rfl) _ _)
    (store_lit (by rw [hashL_length]; simp) (splice_last H 0 64 G.l (by omega)))
theorem is_slArrN {t : TypeId} {x y : Operand} {n : Nat} (ht : P.underlying t = some (.array n e)) (hs : sizeB P e = some 1) (b o i : Nat) (k : IntKind) (hi : i < n) :
    IsOp P (.slice t x (some y) none none) [ptr b o, .int k (i : Int)] (.slice (some ⟨b, o + i, none⟩) (n - i) (n - i)) := by
  have h := is_slArr (x := x) (y := y) ht hs b o i k (by omega)
  rwa [if_neg (by omega)] at h
end
/-- One byte is written. -/
def put (H : HS) (x : UInt8) : HS :=
  if (H.n + 1) % 64 = 0 then ⟨mixS H.s (upd H.l (H.n % 64).toNat x), upd H.l (H.n % 64).toNat x, H.n + 1⟩ else ⟨H.s, upd H.l (H.n % 64).toNat x, H.n + 1⟩
def puts (H : HS) (f : Nat → UInt8) : Nat → HS
  | 0 => H
  | k + 1 => put (puts H f k) (f k)
theorem puts_add (H : HS) (f : Nat → UInt8) (a : Nat) : ∀ b, puts H f (a + b) = puts (puts H f a) (fun k => f (a + k)) b
  | 0 => rfl
  | b + 1 => by show put (puts H f (a + b)) (f (a + b)) = put _ (f (a + b)); rw [puts_add H f a b]
theorem puts_congr (H : HS) {f g : Nat → UInt8} : ∀ {n : Nat}, (∀ k, k < n → f k = g k) → puts H f n = puts H g n
  | 0, _ => rfl
  | n + 1, h => by rw [puts, puts, puts_congr H (fun k hk => h k (by omega)), h n (by omega)]
theorem n64_lt (n : UInt64) : (n % 64).toNat < 64 := by
  rw [UInt64.toNat_mod]; exact Nat.mod_lt _ (by decide)
theorem n64_add (n : UInt64) (k : Nat) (h : (n % 64).toNat + k < 64) : ((n + UInt64.ofNat k) % 64).toNat = (n % 64).toNat + k := by
  have h1 : (64 : UInt64).toNat = 64 := rfl
  rw [UInt64.toNat_mod, h1] at h
  rw [UInt64.toNat_mod, UInt64.toNat_mod, h1]
  rw [UInt64.toNat_add, UInt64.toNat_ofNat']
  have := n.toNat_lt
  omega
theorem n64_end (n : UInt64) (k : Nat) (h : (n % 64).toNat + k = 64) : (n + UInt64.ofNat k) % 64 = 0 := by
  apply UInt64.toNat_inj.1
  have h1 : (64 : UInt64).toNat = 64 := rfl
  rw [UInt64.toNat_mod, h1] at h ⊢
  rw [UInt64.toNat_add, UInt64.toNat_ofNat']
  have := n.toNat_lt
  show _ = 0
  omega
theorem n_succ (n : UInt64) (k : Nat) : n + UInt64.ofNat k + 1 = n + UInt64.ofNat (k + 1) := by
  apply UInt64.toNat_inj.1
  simp only [UInt64.toNat_add, UInt64.toNat_ofNat']
  have h1 : (1 : UInt64).toNat = 1 := rfl
  rw [h1]
  omega
theorem puts_mid (H : HS) (g : Nat → UInt8) : ∀ {k : Nat}, (H.n % 64).toNat + k < 64 → puts H g k = ⟨H.s, cpyL H.l (H.n % 64).toNat k g, H.n + UInt64.ofNat k⟩
  | 0, _ => by
    rw [puts, cpyL_zero]
    show H = ⟨H.s, H.l, H.n + 0⟩
    rw [UInt64.add_zero]
  | k + 1, h => by
    have hz : ¬ (H.n + UInt64.ofNat (k + 1)) % 64 = 0 := fun e => by
      have h1 := n64_add H.n (k + 1) (by omega)
      rw [e] at h1
      have h2 : (0 : UInt64).toNat = 0 := rfl
      omega
    rw [puts, puts_mid H g (by omega), put]
    simp only [n_succ]
    rw [if_neg hz, n64_add H.n k (by omega), cpyL_succ]
theorem puts_end (H : HS) (g : Nat → UInt8) {k : Nat} (h : (H.n % 64).toNat + k = 64) : puts H g k = ⟨mixS H.s (cpyL H.l (H.n % 64).toNat k g), cpyL H.l (H.n % 64).toNat k g, H.n + UInt64.ofNat k⟩ := by
  have := n64_lt H.n
  obtain ⟨k, rfl⟩ : ∃ j, k = j + 1 := ⟨k - 1, by omega⟩
  rw [puts, puts_mid H g (by omega), put]
  simp only [n_succ]
  rw [if_pos (n64_end H.n (k + 1) h), n64_add H.n k (by omega), cpyL_succ]
theorem wr_no {H : HS} {g : Nat → UInt8} {k m : Nat} (hk : k = min m (64 - (H.n % 64).toNat)) (h : ((H.n + UInt64.ofNat k) % 64 == 0) = false) : (HS.mk H.s (cpyL H.l (H.n % 64).toNat k g) (H.n + UInt64.ofNat k)) = puts H g k := by
  have := n64_lt H.n
  rw [puts_mid]
  rcases Nat.lt_or_ge ((H.n % 64).toNat + k) 64 with h1 | h1
  · exact h1
  · rw [n64_end H.n k (by omega)] at h
    cases h
theorem wr_yes {H : HS} {g : Nat → UInt8} {k m : Nat} (hm : 0 < m) (hk : k = min m (64 - (H.n % 64).toNat)) (h : ((H.n + UInt64.ofNat k) % 64 == 0) = true) : (HS.mk (mixS H.s (cpyL H.l (H.n % 64).toNat k g)) (cpyL H.l (H.n % 64).toNat k g) (H.n + UInt64.ofNat k)) = puts H g k := by
  have := n64_lt H.n
  rw [puts_end]
  rcases Nat.lt_or_ge ((H.n % 64).toNat + k) 64 with h1 | h1
  · exfalso
    have h2 := n64_add H.n k h1
    rw [beq_iff_eq.1 h] at h2
    have h3 : (0 : UInt64).toNat = 0 := rfl
    omega
  · omega
/-- Writing bytes. -/
def wakeH (H : HS) : HS := if (H.n == 0) = true then ⟨begW, H.l, H.n⟩ else H
def wrH (H : HS) (f : Nat → UInt8) (n : Nat) : HS := puts (wakeH H) f n
def famTB (b : BytL) (x : Blk) : Prop := famT x ∨ famB b x
end Go.Eng
