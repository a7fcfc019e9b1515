/-
  Many in one: Jou, JouFn, Jou2, Jou3, JouRp, JouRf, Jou4, JouMt, Jou5, Jou6, JouLw, JouAw, Jou7, Jou8, Jou9, JouLx.
-/
import Derived.Test.YtagbdahcopkpjaaDoorZJournalSpoilt13
import Derived.Laws.BytesString
section
namespace Go.Eng
open Go.RowKit Go.WideShapes Go.ChangeShapes Go.ChangeAt Go.Deep
set_option linter.unusedSimpArgs false
set_option linter.unusedVariables false
set_option maxRecDepth 100000
def strOf (f : Nat → UInt8) (n : Nat) : ByteArray := ⟨((List.range n).map f).toArray⟩
theorem push_fold (f : Nat → UInt8) : ∀ (l : List Nat) (s : ByteArray), (l.map fun k => ((f k).toNat : Int)).foldl (fun r n => r.push (UInt8.ofNat n.toNat)) s = ⟨s.data ++ (l.map f).toArray⟩
  | [], s => by simp
  | k :: l, s => by
    simp only [List.map_cons, List.foldl_cons]
    rw [push_fold f l]
    simp [ByteArray.push]
theorem srunF_toStr {P : Program} {src dst e : TypeId} (hs : P.underlying src = some (.slice e)) (he : P.underlying e = some (.int .u8)) (hd : P.underlying dst = some .string) (q : BytL) (hq : OkB q) :
    SRunsF (famB q) P (convSem src dst (slqV q)) [] 0 (fun _ => .string (strOf q.wf q.wn)) (fun _ => []) := by
  intro w hall ha hF
  refine ⟨[], w, rfl, .inl ?_, Post.refl (fun p b h => by simp [listMem] at h) ha⟩
  have key : (Conv.bytesToString (slqV q)).run P w = .ok (.string (strOf q.wf q.wn)) w := by
    rcases Nat.eq_zero_or_pos q.wn with h0 | h0
    · unfold slqV
      rw [h0]
      cases q.wa with
      | none => rfl
      | some a =>
        have := run_bytesToString (P := P) w a 0 q.wc [] (by
          have := run_loadCells (P := P) (w := w) a 0 (fun _ => undef) (fun j hj => by omega)
          simpa using this)
        rw [this]; rfl
    · have h1 := (hF (bytB q) ⟨h0, rfl⟩).1
      unfold slqV
      rw [hq.ad h0]
      have h2 := run_loadCells (P := P) (w := w) ⟨q.wb, q.wo, none⟩ q.wn (fun k => u8 (q.wf k)) (fun j hj => by
        have := h1.cell j (u8 (q.wf j)) (tabF_in hj)
        rw [add_none]; exact this)
      have h3 := run_bytesToString (P := P) w ⟨q.wb, q.wo, none⟩ q.wn q.wc ((List.range q.wn).map fun k => ((q.wf k).toNat : Int)) (by
        rw [h2]; congr 2; rw [List.map_map]; rfl)
      rw [h3]
      congr 2
      rw [push_fold]
      unfold strOf
      congr 1
      exact Array.empty_append
  show ((convert src dst (slqV q)).bind fun v => Sem.pure (Next.value v)).run P w = _
  have e1 := run_convert_bytes_string (P := P) w src dst e q.wa q.wn q.wc hs he hd
  show (convert src dst (slqV q) >>= fun v => Sem.pure (Next.value v)).run P w = _
  rw [Sem.run_bind, show (convert src dst (slqV q)).run P w = _ from e1, show (Conv.bytesToString (.slice q.wa q.wn q.wc)).run P w = _ from key]
  rfl
theorem SRunsF.mono {F F' : Blk → Prop} {P : Program} {s : Sem Next} {bs : List Blk} {k : Nat} {v : List Nat → Value} {out : List Nat → List (Option Blk)} (hs : ∀ b, F b → F' b) (h : SRunsF F P s bs k v out) : SRunsF F' P s bs k v out :=
  fun w hb ha hF => h w hb ha fun b hb' => hF b (hs b hb')
def NmF (F F' : Blk → Prop) : Prop := ∀ z, F z → ∃ y, F' y ∧ ∀ j, z.has j → y.has j
theorem nm_sub {F F' : Blk → Prop} (h : ∀ z, F z → F' z) : NmF F F' := fun z hz => ⟨z, h z hz, fun _ h => h⟩
theorem nm_part {F' : Blk → Prop} {b c : BytL} (h : 0 < c.wn → 0 < b.wn) (H : NmF (famB b) F') (hb : c.wb = b.wb := by rfl) : NmF (famB c) F' := fun z hz => by
  obtain ⟨y, h1, h2⟩ := famB_part h hz hb
  obtain ⟨x, h3, h4⟩ := H y h1
  exact ⟨x, h3, fun j hj => h4 j (h2 j hj)⟩
theorem nm_or {F G F' : Blk → Prop} (h1 : NmF F F') (h2 : NmF G F') : NmF (fun b => F b ∨ G b) F' := fun z hz => hz.elim (h1 z) (h2 z)
def SubH (F F' : Blk → Prop) : Prop := ∀ w : World, FamH F' w → FamH F w
theorem sh_sub {F F' : Blk → Prop} (h : ∀ z, F z → F' z) : SubH F F' := fun w hF z hz => hF z (h z hz)
theorem sh_to {F' : Blk → Prop} {b : BytL} {k : Nat} (hk : k ≤ b.wn) (H : SubH (famB b) F') : SubH (famB (bytT b k)) F' := fun w hF => holdb_to hk (H w hF)
theorem sh_from {F' : Blk → Prop} {b : BytL} {k : Nat} (hk : k ≤ b.wn) (H : SubH (famB b) F') : SubH (famB (bytF b k)) F' := fun w hF => holdb_from hk (H w hF)
theorem sh_or {F G F' : Blk → Prop} (h1 : SubH F F') (h2 : SubH G F') : SubH (fun b => F b ∨ G b) F' := fun w hF => hold_or (h1 w hF) (h2 w hF)
theorem famB_none {q : BytL} {F : Blk → Prop} (h : q.wn = 0) : ∀ z, famB q z → F z := fun z hz => by have := hz.1; omega
theorem RunsO.pad1 {F : Blk → Prop} {P : Program} {f : FuncId} {args : List Value} {bs : List (Option Blk)} {v v2 : List Nat → Value} {out out2 : List Nat → List (Option Blk)} (h : RunsO F P f args bs 1 v out) (hv : ∀ a, v2 [a, 0] = v [a]) (ho : ∀ a, out2 [a, 0] = out [a]) :
    RunsO F P f args bs 2 v2 out2 := fun w hm ha hF => (h w hm ha hF).mono fun e w' ⟨ns, hns, he, hp⟩ => by
  match ns, hns with
  | [a], _ => exact ⟨[a, 0], rfl, by rw [hv]; exact he, by rw [ho]; exact hp⟩
theorem RunsO.pad0 {F : Blk → Prop} {P : Program} {f : FuncId} {args : List Value} {bs : List (Option Blk)} {k : Nat} {v v2 : List Nat → Value} {out out2 : List Nat → List (Option Blk)} (h : RunsO F P f args bs 0 v out) (ns0 : List Nat) (hk : ns0.length = k) (hv : v2 ns0 = v []) (ho : ∀ p b, listMem (out2 ns0) p = some b → listMem (out []) p = some b) :
    RunsO F P f args bs k v2 out2 := fun w hm ha hF => (h w hm ha hF).mono fun e w' ⟨ns, hns, he, hp⟩ => by
  match ns, hns with
  | [], _ => exact ⟨ns0, hk, by rw [hv]; exact he, hp.sub ho⟩
def clG (q : BytL) (a r : Nat) : Grw UInt8 := ⟨q.wa.isNone, a, q.wn, r, q.wf⟩
theorem catU_zero (f g : Nat → UInt8) : catU f 0 g = g := by funext k; unfold catU; rw [if_neg (by omega)]; rfl
def strE (s u : ByteArray) : Bool := s.toList == u.toList
theorem is_eqlStr {P : Program} {t t' : TypeId} {x y : Operand} (s u : ByteArray) : IsOp P (.binOp .eql t x y t') [.string s, .string u] (.bool (strE s u)) := isOp_bin rfl rfl
theorem strOf_list (f : Nat → UInt8) (n : Nat) : (strOf f n).toList = (List.range n).map f := by
  rw [ByteArray.toList_eq]; simp [strOf]
theorem strE_of (f g : Nat → UInt8) (n m : Nat) : strE (strOf f n) (strOf g m) = sameS f n g m := by
  unfold strE
  rw [strOf_list, strOf_list, Bool.eq_iff_iff, beq_iff_eq]
  constructor
  · intro h
    have hl : n = m := by have := congrArg List.length h; simpa using this
    subst hl
    refine decide_eq_true ⟨rfl, fun k hk => ?_⟩
    have h1 := congrArg (fun l => l[k]?) h
    simp only [List.getElem?_map, List.getElem?_range hk, Option.map_some] at h1
    exact Option.some.inj h1
  · intro h
    obtain ⟨rfl, hk⟩ := of_decide_eq_true h
    exact List.map_congr_left fun k hk' => hk k (List.mem_range.1 hk')
theorem is_shln {P : Program} {t t' : TypeId} {x y : Operand} {k : IntKind} (a n : Nat) (ha : a * 2 ^ n ≤ 9223372036854775807 ∧ n ≤ 64) : IsOp P (.binOp .shl t x y t') [nat a, .int k (n : Int)] (nat (a * 2 ^ n)) := isOp_bin guard_int (by
  show pureRun P (Op.shift .shl .i64 (a : Int) k (n : Int)) = _
  unfold Op.shift
  rw [if_neg (by omega)]
  show some (Value.int .i64 (IntKind.i64.wrap ((a : Int) * 2 ^ min (n : Int).toNat 64))) = _
  rw [Int.toNat_natCast, Nat.min_eq_left ha.2, show ((a : Int) * 2 ^ n) = ((a * 2 ^ n : Nat) : Int) by push_cast; rfl, wrap_i64 _ (by omega)]
  rfl)
theorem or_byte_nat (a b : Nat) (hb : b < 256) : a * 256 ||| b = a * 256 + b := by
  have h := Nat.shiftLeft_add_eq_or_of_lt (i := 8) (b := b) (by simpa using hb) a
  rw [Nat.shiftLeft_eq] at h
  exact h.symm
theorem is_orn {P : Program} {t t' : TypeId} {x y : Operand} (a b c : Nat) (h : a = c * 256 ∧ b < 256 ∧ a + b ≤ 9223372036854775807) : IsOp P (.binOp .or t x y t') [nat a, nat b] (nat (a + b)) := isOp_bin guard_int (by
  show some (Value.int .i64 (IntKind.i64.wrap (((BitVec.ofInt 64 (a : Int)) ||| (BitVec.ofInt 64 (b : Int))).toNat))) = _
  have h1 : ∀ m : Nat, m ≤ 9223372036854775807 → (BitVec.ofInt 64 (m : Int)).toNat = m := fun m hm => by
    rw [BitVec.toNat_ofInt]; norm_cast; omega
  rw [BitVec.toNat_or, h1 a (by omega), h1 b (by omega), h.1, or_byte_nat c b h.2.1, wrap_i64 _ (by omega)]
  rfl)
def be4 (f : Nat → UInt8) : Nat := (((f 0).toNat * 256 + (f 1).toNat) * 256 + (f 2).toNat) * 256 + (f 3).toNat
theorem be4_lt (f : Nat → UInt8) : be4 f < 4294967296 := by
  unfold be4
  have := (f 0).toNat_lt; have := (f 1).toNat_lt; have := (f 2).toNat_lt; have := (f 3).toNat_lt
  omega
def siz4 (n : Nat) : Nat → UInt8
  | 0 => UInt8.ofNat (n / 16777216)
  | 1 => UInt8.ofNat (n / 65536)
  | 2 => UInt8.ofNat (n / 256)
  | _ => UInt8.ofNat n
def dig4 (n : Nat) (f : Nat → UInt8) : Nat → UInt8 := digOf (catU (siz4 n) 4 f) (4 + n)
def frF (n : Nat) (f : Nat → UInt8) : Nat → UInt8 := catU (catU (siz4 n) 4 (dig4 n f)) 8 f
theorem of_two_sum {g : Nat → UInt8} {q : BytL} {a c r : Nat} (hq : q.wn ≤ 1000000) : ofD (bysO a 2 2 (brow [bytO c 4 (4 + r) g, q])) = digOf (catU g 4 q.wf) (4 + q.wn) := by
  have h1 : Stands (wrH newH g 4) g 4 := stands_first (by decide)
  exact (h1.write (g := q.wf) (m := q.wn) (by omega)).sum (by omega)
theorem of_frame_holds {F : Blk → Prop} {q : BytL} (hF : ∀ x, famTB q x → F x) {a c r : Nat} {g : Nat → UInt8} : ∀ w : World, FamH F w →
    (∀ b ∈ [(⟨a, false, 0, .lit [slqV (bytO c 4 (4 + r) g), slqV q]⟩ : Blk), ⟨c, false, 0, spr (4 + r) 4 (fun k => u8 (g k)) (u8 0)⟩], Holds b w) → FamH (famTS (bysO a 2 2 (brow [bytO c 4 (4 + r) g, q]))) w := fun w hw hb =>
  have h2 := hb ⟨c, false, 0, spr (4 + r) 4 (fun k => u8 (g k)) (u8 0)⟩ (by simp)
  holds_own (F := fun x => F x ∨ famB (bytO c 4 (4 + r) g) x) (fun x hx => .inl (hF x (.inl hx))) (l := [slqV (bytO c 4 (4 + r) g), slqV q]) rfl (fun k hk w' hw' => by
    rcases k with _ | _ | k
    · exact fun z hz => hw' z (.inr hz)
    · exact fun z hz => hw' z (.inl (hF z (.inr hz)))
    · omega) w (hold_or hw (holdb_own (holds_sprB h2))) (fun b hb' => hb b (by simp at hb'; simp [hb']))
theorem frame_row {n : Nat} {f A : Nat → UInt8} (hA : ∀ k, k < 4 → A k = siz4 n k) : ∀ k, k < 8 + n → catU (catU A 4 (digOf (catU A 4 f) (4 + n))) 8 f k = frF n f k := fun k hk => by
  have e : digOf (catU A 4 f) (4 + n) = dig4 n f := digOf_congr fun j hj => by
    unfold catU; by_cases h : j < 4
    · rw [if_pos h, if_pos h, hA j h]
    · rw [if_neg h, if_neg h]
  rw [e]
  unfold frF
  simp only [catU]
  by_cases h : k < 8
  · rw [if_pos h, if_pos h]
    by_cases h2 : k < 4
    · rw [if_pos h2, if_pos h2, hA k h2]
    · rw [if_neg h2, if_neg h2]
  · rw [if_neg h, if_neg h]
theorem siz_row (n : Nat) : ∀ k, k < 4 → catU (catU (catU (fun _ => (UInt8.ofNat (n / 2 ^ 24))) 1 (fun _ => (UInt8.ofNat (n / 2 ^ 16)))) 2 (fun _ => (UInt8.ofNat (n / 2 ^ 8)))) 3 (fun _ => (UInt8.ofNat (n / 2 ^ 0))) k = siz4 n k := fun k hk => by
  rcases k with _ | _ | _ | _ | k
  · rfl
  · rfl
  · rfl
  · show UInt8.ofNat (n / 2 ^ 0) = UInt8.ofNat n
    rw [Nat.pow_zero, Nat.div_one]
  · omega
theorem RunsF.lendBO {F' : Blk → Prop} {P : Program} {f : FuncId} {args : List Value} {v : Value} {x : BytL} {nm n r c : Nat} {g : Nat → UInt8} (h : RunsF (famBB x (bytO nm n c g)) P f args [] 0 (fun _ => v) (fun _ => [])) (h1 : SubH (famB x) F') (h2 : NmF (famB x) F') :
    RunsF F' P f args [⟨nm, false, 0, spr (n + r) n (fun k => u8 (g k)) (u8 0)⟩] 0 (fun _ => v) (fun _ => [none]) :=
  RunsF.lendG (bs := []) (cs := [⟨nm, false, 0, spr (n + r) n (fun k => u8 (g k)) (u8 0)⟩]) (o := fun _ => []) (nw := fun _ => []) h (fun _ => rfl) (fun w hF hb => hold_or (h1 w hF) (holdb_own (holds_sprB (hb _ (List.Mem.head _)))))
    (fun z hz j hj => hz.elim (fun hz => by obtain ⟨y, a, b⟩ := h2 z hz; exact .inl ⟨y, a, b j hj⟩) (fun hz => famB_name (F' := F') (q := bytO nm n c g) (B := ⟨nm, false, 0, spr (n + r) n (fun k => u8 (g k)) (u8 0)⟩) rfl z hz j hj)) (by simp)
theorem sh_TB {F' : Blk → Prop} {q : BytL} (hT : ∀ z, famT z → F' z) (H : SubH (famB q) F') : SubH (famTB q) F' := fun w hF => hold_or (fun z hz => hF z (hT z hz)) (H w hF)
theorem nm_TB {F' : Blk → Prop} {q : BytL} (hT : ∀ z, famT z → F' z) (H : NmF (famB q) F') : NmF (famTB q) F' := nm_or (nm_sub hT) H
def beP (f : Nat → UInt8) : Nat → Nat
  | 0 => 0
  | k + 1 => beP f k * 256 + (f k).toNat
theorem beP_lt (f : Nat → UInt8) : ∀ k, k ≤ 4 → beP f k < 4294967296 := by
  have h : ∀ k, beP f k < 256 ^ k := by
    intro k
    induction k with
    | zero => simp [beP]
    | succ k ih => have := (f k).toNat_lt; simp only [beP]; rw [Nat.pow_succ]; omega
  intro k hk
  have h1 := h k
  have h2 : (256 : Nat) ^ k ≤ 256 ^ 4 := Nat.pow_le_pow_right (by omega) hk
  have h3 : (256 : Nat) ^ 4 = 4294967296 := by decide
  omega
theorem beP4 (f : Nat → UInt8) : beP f 4 = be4 f := by simp [beP, be4]
def fsOk (f : Nat → UInt8) (n : Nat) : Bool := decide (8 ≤ n ∧ be4 f ≤ n - 8 ∧ be4 f ≤ 4000) && sameS f (8 + be4 f) (frF (be4 f) fun i => f (i + 8)) (8 + be4 f)
def fsV (q : BytL) : Value := if 8 ≤ q.wn ∧ be4 q.wf ≤ q.wn - 8 then slqV (bytF (bytT q (8 + be4 q.wf)) 8) else .slice none 0 0
theorem be_step {N i : Nat} {f : Nat → UInt8} (h : N = beP f i) : N * 2 ^ 8 + (f i).toNat = beP f (i + 1) := by subst h; simp [beP]
section
variable {q : BytL}
theorem fs_short (h : q.wn < 8) : Value.tuple #[fsV q, Value.bool (fsOk q.wf q.wn)] = .tuple #[.slice none 0 0, .bool false] := by
  have h1 : fsV q = .slice none 0 0 := if_neg (by omega)
  have h2 : fsOk q.wf q.wn = false := by unfold fsOk; rw [decide_eq_false (by omega)]; rfl
  rw [h1, h2]
theorem fs_out (h : q.wn - 8 < be4 q.wf) : Value.tuple #[fsV q, Value.bool (fsOk q.wf q.wn)] = .tuple #[.slice none 0 0, .bool false] := by
  have h1 : fsV q = .slice none 0 0 := if_neg (by omega)
  have h2 : fsOk q.wf q.wn = false := by unfold fsOk; rw [decide_eq_false (by omega)]; rfl
  rw [h1, h2]
theorem fs_long (h : 8 ≤ q.wn ∧ be4 q.wf ≤ q.wn - 8) (h3 : 4000 < be4 q.wf) : Value.tuple #[fsV q, Value.bool (fsOk q.wf q.wn)] = .tuple #[slqV (bytF (bytT q (8 + be4 q.wf)) 8), .bool false] := by
  have h1 : fsV q = slqV (bytF (bytT q (8 + be4 q.wf)) 8) := if_pos h
  have h2 : fsOk q.wf q.wn = false := by unfold fsOk; rw [decide_eq_false (by omega)]; rfl
  rw [h1, h2]
theorem fs_in (h : 8 ≤ q.wn ∧ be4 q.wf ≤ q.wn - 8) (h3 : be4 q.wf ≤ 4000) : Value.tuple #[fsV q, Value.bool (fsOk q.wf q.wn)] = .tuple #[slqV (bytF (bytT q (8 + be4 q.wf)) 8), .bool (sameS q.wf (8 + be4 q.wf) (frF (be4 q.wf) fun i => q.wf (i + 8)) (8 + be4 q.wf))] := by
  have h1 : fsV q = slqV (bytF (bytT q (8 + be4 q.wf)) 8) := if_pos h
  have h2 : fsOk q.wf q.wn = sameS q.wf (8 + be4 q.wf) (frF (be4 q.wf) fun i => q.wf (i + 8)) (8 + be4 q.wf) := by unfold fsOk; rw [decide_eq_true ⟨h.1, h.2, h3⟩]; rfl
  rw [h1, h2]
end
theorem be_end {N i : Nat} {f : Nat → UInt8} (h0 : i ≤ 4) (h1 : N = beP f i) (h2 : decide (i < 4) = false) : N = be4 f := by
  have := of_decide_eq_false h2
  rw [h1, show i = 4 by omega]; exact beP4 f
end Go.Eng
end
section
namespace Go.Proofs.YtagbdahcopkpjaaDoor
open Go Go.Eng
set_option linter.unusedVariables false
set_option linter.unusedSimpArgs false
set_option maxRecDepth 100000
set_option maxHeartbeats 1000000
theorem equal_fam (x y : BytL) (hx : OkB x) (hy : OkB y) : RunsF (famBB x y) Tryd.prog 36 [(Value.slice x.wa x.wn x.wc), (Value.slice y.wa y.wn y.wc)] [] 0 (fun (_ : List Nat) => Value.bool (sameS x.wf x.wn y.wf y.wn)) (fun (_ : List Nat) => []) :=
  runsF_of_ev (F := (famBB x y)) mix Tryd.func36 rfl rfl 400 (.reg [(0, .g)] (.reg [(0, .g), (1, (.othF [] 0 0 (fun _ => (Value.string (strOf x.wf x.wn))) (fun _ => []))), (2, .g), (3, (.othF [] 0 0 (fun _ => (Value.string (strOf y.wf y.wn))) (fun _ => []))), (4, (.as (Value.bool (strE (strOf x.wf x.wn) (strOf y.wf y.wn))))), (5, .g)] .done)) [] [] rfl
    (Eq.mp (by kernel_rfl) (And.intro (sk trivial) (And.intro (sk (And.intro (And.intro trivial (SRunsF.mono (fun z hz => (Or.inl hz : famBB x y z)) (srunF_toStr (P := Tryd.prog) (src := 22) (dst := 9) (e := 5) (by kernel_rfl) (by kernel_rfl) (by kernel_rfl) x hx))) (sk (And.intro (And.intro trivial (SRunsF.mono (fun z hz => (Or.inr hz : famBB x y z)) (srunF_toStr (P := Tryd.prog) (src := 22) (dst := 9) (e := 5) (by kernel_rfl) (by kernel_rfl) (by kernel_rfl) y hy))) (And.intro (And.intro trivial (@is_eqlStr Tryd.prog 9 9 (.tmp 6) (.tmp 8) (strOf x.wf x.wn) (strOf y.wf y.wn))) (sk trivial)))))) (And.intro trivial (@Exists.intro (List Nat) (fun (ns : List Nat) => ns.length = 0 ∧ ((Value.bool (strE (strOf x.wf x.wn) (strOf y.wf y.wn))) : Value) = (fun (_ : List Nat) => Value.bool (sameS x.wf x.wn y.wf y.wn)) ns ∧ ([] : List (Option Blk)) = (fun (_ : List Nat) => []) ns) [] (And.intro (@rfl Nat 0) (And.intro ((show (Value.bool (strE (strOf x.wf x.wn) (strOf y.wf y.wn))) = Value.bool (sameS x.wf x.wn y.wf y.wn) from congrArg Value.bool (strE_of _ _ _ _))) (@rfl (List (Option Blk)) []))))))))
theorem prefix_fam (x y : BytL) (hx : OkB x) (hy : OkB y) : RunsF (famBB x y) Tryd.prog 31 [(Value.slice x.wa x.wn x.wc), (Value.slice y.wa y.wn y.wc)] [] 0 (fun (_ : List Nat) => Value.bool (decide (y.wn ≤ x.wn) && sameS x.wf y.wn y.wf y.wn)) (fun (_ : List Nat) => []) :=
  runsF_of_ev (F := (famBB x y)) mix Tryd.func31 rfl rfl 400 (.reg [(0, .g)] (.reg [(0, .g), (1, (.as (nat x.wn))), (2, .g), (3, (.as (nat y.wn))), (4, (.as (Value.bool (decide (y.wn ≤ x.wn))))), (5, .g), (6, .opt .g), (7, .opt .g), (8, .opt (.as (nat y.wn))), (9, .opt (.as (Value.slice x.wa y.wn x.wc))), (10, .opt .g), (11, .opt (.callF [] 0 0 (fun _ => (Value.bool (sameS x.wf y.wn y.wf y.wn))) (fun _ => []))), (12, .pk), (13, .g)] .done)) [] [] rfl
    (have f0 : x.wn ≤ x.wc ∧ x.wn ≤ 9223372036854775807 := ⟨hx.cap, hx.len⟩; have f1 : y.wn ≤ y.wc ∧ y.wn ≤ 9223372036854775807 := ⟨hy.cap, hy.len⟩; Eq.mp (by kernel_rfl) (And.intro (sk trivial) (And.intro (sk (And.intro (And.intro trivial (@is_len Tryd.prog 22 5 (.tmp 5) (by kernel_rfl) x.wa x.wn x.wc)) (sk (And.intro (And.intro trivial (@is_len Tryd.prog 22 5 (.tmp 7) (by kernel_rfl) y.wa y.wn y.wc)) (And.intro (And.intro trivial (@is_geqn Tryd.prog 3 3 (.tmp 6) (.tmp 8)  x.wn y.wn)) (sk (And.intro (fun (hg : (sameB (decide (y.wn ≤ x.wn)) true) = true) => t2) (And.intro (fun (hg : (sameB (decide (y.wn ≤ x.wn)) true) = true) => t2) (And.intro (fun (hg : (sameB (decide (y.wn ≤ x.wn)) true) = true) => have f2 : (y.wn ≤ x.wn) := (of_decide_eq_true (sameB_t hg)); (And.intro (And.intro hg trivial) (@is_len Tryd.prog 22 5 (.tmp 12) (by kernel_rfl) y.wa y.wn y.wc))) (And.intro (fun (hg : (sameB (decide (y.wn ≤ x.wn)) true) = true) => have f2 : (y.wn ≤ x.wn) := (of_decide_eq_true (sameB_t hg)); (And.intro (And.intro hg (And.intro hg trivial)) (@is_slqTo Tryd.prog 22 5 (.tmp 11) (.tmp 13) (by kernel_rfl) 1 (by kernel_rfl) x.wa x.wn x.wc y.wn (show y.wn ≤ x.wc from by omega)))) (And.intro (fun (hg : (sameB (decide (y.wn ≤ x.wn)) true) = true) => t2) (And.intro (fun (hg : (sameB (decide (y.wn ≤ x.wn)) true) = true) => have f2 : (y.wn ≤ x.wn) := (of_decide_eq_true (sameB_t hg)); (And.intro (And.intro hg (And.intro hg trivial)) (RunsF.lendP (F' := (famBB x y)) (sh_or (sh_to (show y.wn ≤ x.wn from by omega) (sh_sub (fun z hz => (Or.inl hz : famBB x y z)))) (sh_sub (fun z hz => (Or.inr hz : famBB x y z)))) (nm_or (nm_part (b := x) (c := (bytT x y.wn)) (show 0 < y.wn → 0 < x.wn from by omega) (nm_sub (fun z hz => (Or.inl hz : famBB x y z)))) (nm_sub (fun z hz => (Or.inr hz : famBB x y z)))) (equal_fam (bytT x y.wn) y (okb_to hx (show y.wn ≤ x.wn from by omega)) hy)))) (And.intro (And.intro trivial (And.intro (fun (hp : (decide (y.wn ≤ x.wn)) = true) => (sameB_mk hp)) (fun (_ : (decide (y.wn ≤ x.wn)) = false) => trivial))) (sk trivial)))))))))))))) (And.intro trivial (@Exists.intro (List Nat) (fun (ns : List Nat) => ns.length = 0 ∧ ((Value.bool (selB (decide (y.wn ≤ x.wn)) (sameS x.wf y.wn y.wf y.wn) false)) : Value) = (fun (_ : List Nat) => Value.bool (decide (y.wn ≤ x.wn) && sameS x.wf y.wn y.wf y.wn)) ns ∧ ([] : List (Option Blk)) = (fun (_ : List Nat) => []) ns) [] (And.intro (@rfl Nat 0) (And.intro ((show (Value.bool (selB (decide (y.wn ≤ x.wn)) (sameS x.wf y.wn y.wf y.wn) false)) = Value.bool (decide (y.wn ≤ x.wn) && sameS x.wf y.wn y.wf y.wn) from congrArg Value.bool (by simp [selB_and]))) (@rfl (List (Option Blk)) []))))))))
theorem clone_runs0 (b o n c : Nat) (f : Nat → UInt8) (h0 : 0 < n) (hl : n ≤ 140737488355328) : Runs Tryd.prog 22 [(Value.slice (some ⟨b, o, none⟩) n c)] [⟨b, false, o, (tabF n (fun k => u8 (f k)))⟩] 2 (fun (ns : List Nat) => (Value.slice (some ⟨(ns.getD 0 0), 0, none⟩) (0 + n) (0 + n + (ns.getD 1 0)))) (fun (ns : List Nat) => [some ⟨b, false, o, (tabF n (fun k => u8 (f k)))⟩, some ⟨(ns.getD 0 0), true, 0, (spr (0 + n + (ns.getD 1 0)) (0 + n) (fun k => u8 (catU (fun _ => 0) 0 f k)) (u8 0))⟩]) :=
  runs_of_ev mix Tryd.func22 rfl rfl 400 (.reg [(0, .g)] (.reg [(0, .g), (1, .g)] (.no (.regn [(0, (.oth [] 1 1 (fun ns => Value.slice (some ⟨ns.getD 0 0, 0, none⟩) 0 0) (fun ns => [some ⟨ns.getD 0 0, true, 0, (spr (0 + 0) 0 (fun k => u8 ((fun _ => 0) k)) (u8 0))⟩]))), (1, .g), (2, (.oth [(1, false), (0, true)] 2 0 (fun ns => Value.slice (some ⟨(ns.getD 0 0), 0, none⟩) (0 + n) (0 + n + (ns.getD 1 0))) (fun ns => [some ⟨(ns.getD 0 0), true, 0, (spr (0 + n + (ns.getD 1 0)) (0 + n) (fun k => u8 (catU (fun _ => 0) 0 f k)) (u8 0))⟩, none]))), (3, .g)] (more (fun n1 => more (fun n2 => more (fun n3 => fun _ => .done)))))))) [] [1] rfl
    (have f0 : 0 < n := h0; have f1 : n ≤ 140737488355328 := hl; Eq.mp (by kernel_rfl) (And.intro (sk trivial) (And.intro (sk (sk trivial)) (And.intro trivial (And.intro (@rfl Bool false) (fun (n1 n2 n3 : Nat) => And.intro (And.intro (And.intro trivial (mk_build0 (P := Tryd.prog) (t := 22) (e := 5) (by kernel_rfl) one5 u8 (fun _ => 0))) (sk (And.intro (And.intro trivial (SRuns.dark [false, true] (mk_append (P := Tryd.prog) (t := 22) (ty := 22) (e := 5) (by kernel_rfl) one5 n1 0 0 b o 0 n c u8 (fun _ => 0) f (tabF n (fun k => u8 (f k))) (fun j hj => by rw [Nat.zero_add]; exact tabF_in hj) (fun _ => rfl) (show (0 + n) * 1 ≤ 140737488355328 ∧ 0 + n ≤ 9223372036854775807 from by omega)))) (sk trivial)))) (And.intro trivial (@Exists.intro (List Nat) (fun (ns : List Nat) => ns.length = 2 ∧ ((Value.slice (some ⟨n2, 0, none⟩) (0 + n) (0 + n + n3)) : Value) = (fun (ns : List Nat) => (Value.slice (some ⟨(ns.getD 0 0), 0, none⟩) (0 + n) (0 + n + (ns.getD 1 0)))) ns ∧ ([some ⟨b, false, o, (tabF n (fun k => u8 (f k)))⟩, some ⟨n2, true, 0, (spr (0 + n + n3) (0 + n) (fun k => u8 (catU (fun _ => 0) 0 f k)) (u8 0))⟩] : List (Option Blk)) = (fun (ns : List Nat) => [some ⟨b, false, o, (tabF n (fun k => u8 (f k)))⟩, some ⟨(ns.getD 0 0), true, 0, (spr (0 + n + (ns.getD 1 0)) (0 + n) (fun k => u8 (catU (fun _ => 0) 0 f k)) (u8 0))⟩]) ns) [n2, n3] (And.intro (@rfl Nat 2) (And.intro (@rfl Value (Value.slice (some ⟨n2, 0, none⟩) (0 + n) (0 + n + n3))) (@rfl (List (Option Blk)) [some ⟨b, false, o, (tabF n (fun k => u8 (f k)))⟩, some ⟨n2, true, 0, (spr (0 + n + n3) (0 + n) (fun k => u8 (catU (fun _ => 0) 0 f k)) (u8 0))⟩])))))))))))
theorem clone_nilc (c : Nat) : Pure Tryd.prog 22 [(Value.slice none 0 c)] (Value.slice none 0 0) :=
  pure_of_ev mix Tryd.func22 rfl rfl 400 (.reg [(0, .g)] (.reg [(0, .g), (1, .g)] (.yes (.reg [(0, .g)] .done)))) []
    (Eq.mp (by kernel_rfl) (And.intro (sk trivial) (And.intro (sk (sk trivial)) (And.intro trivial (And.intro (@rfl Bool true) (And.intro (sk trivial) (And.intro trivial (@rfl Value (Value.slice none 0 0)))))))))
theorem clone_zero (A : Addr) (c : Nat) : Runs Tryd.prog 22 [(Value.slice (some A) 0 c)] [] 1 (fun (ns : List Nat) => (Value.slice (some ⟨(ns.getD 0 0), 0, none⟩) 0 (0 + 0))) (fun (ns : List Nat) => [some ⟨(ns.getD 0 0), true, 0, (spr (0 + 0) 0 (fun k => u8 ((fun _ => 0) k)) (u8 0))⟩]) :=
  runs_of_ev mix Tryd.func22 rfl rfl 400 (.reg [(0, .g)] (.reg [(0, .g), (1, .g)] (.no (.regn [(0, (.oth [] 1 1 (fun ns => Value.slice (some ⟨ns.getD 0 0, 0, none⟩) 0 0) (fun ns => [some ⟨ns.getD 0 0, true, 0, (spr (0 + 0) 0 (fun k => u8 ((fun _ => 0) k)) (u8 0))⟩]))), (1, .g), (2, (.oth [(0, false)] 1 0 (fun ns => Value.slice (some ⟨(ns.getD 0 0), 0, none⟩) 0 (0 + 0)) (fun ns => [some ⟨(ns.getD 0 0), true, 0, (spr (0 + 0) 0 (fun k => u8 ((fun _ => 0) k)) (u8 0))⟩]))), (3, .g)] (more (fun n1 => more (fun n2 => fun _ => .done))))))) [] [0] rfl
    (Eq.mp (by kernel_rfl) (And.intro (sk trivial) (And.intro (sk (sk trivial)) (And.intro trivial (And.intro (@rfl Bool false) (fun (n1 n2 : Nat) => And.intro (And.intro (And.intro trivial (mk_build0 (P := Tryd.prog) (t := 22) (e := 5) (by kernel_rfl) one5 u8 (fun _ => 0))) (sk (And.intro (And.intro trivial (SRuns.dark [false] (mk_append0 (P := Tryd.prog) (t := 22) (ty := 22) (e := 5) (by kernel_rfl) one5 n1 (spr (0 + 0) 0 (fun k => u8 ((fun _ => 0) k)) (u8 0)) (some A) c))) (sk trivial)))) (And.intro trivial (@Exists.intro (List Nat) (fun (ns : List Nat) => ns.length = 1 ∧ ((Value.slice (some ⟨n2, 0, none⟩) 0 (0 + 0)) : Value) = (fun (ns : List Nat) => (Value.slice (some ⟨(ns.getD 0 0), 0, none⟩) 0 (0 + 0))) ns ∧ ([some ⟨n2, true, 0, (spr (0 + 0) 0 (fun k => u8 ((fun _ => 0) k)) (u8 0))⟩] : List (Option Blk)) = (fun (ns : List Nat) => [some ⟨(ns.getD 0 0), true, 0, (spr (0 + 0) 0 (fun k => u8 ((fun _ => 0) k)) (u8 0))⟩]) ns) [n2] (And.intro (@rfl Nat 1) (And.intro (@rfl Value (Value.slice (some ⟨n2, 0, none⟩) 0 (0 + 0))) (@rfl (List (Option Blk)) [some ⟨n2, true, 0, (spr (0 + 0) 0 (fun k => u8 ((fun _ => 0) k)) (u8 0))⟩])))))))))))
theorem clone_gen (q : BytL) (hq : OkB q) (hl : q.wn ≤ 140737488355328) : RunsO (famB q) Tryd.prog 22 [slqV q] [] 2 (fun ns => gsV (clG q (ns.getD 0 0) (ns.getD 1 0))) (fun ns => [grO u8 (u8 0) (clG q (ns.getD 0 0) (ns.getD 1 0))]) := by
  rcases Nat.eq_zero_or_pos q.wn with h0 | h0
  · cases ha : q.wa with
    | none =>
      have e : slqV q = .slice none 0 q.wc := by unfold slqV; rw [ha, h0]
      rw [e]
      refine (clone_nilc q.wc).toF.toO.pad0 [0, 0] rfl ?_ ?_
      · show gsV (clG q 0 0) = _
        unfold clG; rw [ha, h0] <;> rfl
      · intro p b hb
        rw [show grO u8 (u8 0) (clG q _ _) = none from by unfold clG; rw [ha] <;> rfl] at hb
        rcases p with _ | p <;> simp [listMem] at hb
    | some A =>
      have e : slqV q = .slice (some A) 0 q.wc := by unfold slqV; rw [ha, h0]
      rw [e]
      refine (clone_zero A q.wc).toF.toO.pad1 (fun a => ?_) (fun a => ?_)
      · show gsV (clG q a 0) = _
        unfold clG; rw [ha, h0] <;> rfl
      · show [grO u8 (u8 0) (clG q a 0)] = _
        unfold clG; rw [ha, h0]
        show [some (⟨a, true, 0, spr (0 + 0) 0 (fun k => u8 (q.wf k)) (u8 0)⟩ : Blk)] = [some ⟨a, true, 0, spr (0 + 0) 0 (fun k => u8 ((fun _ => 0) k)) (u8 0)⟩]
        rw [spr_as (fun k hk => absurd hk (by omega))]
  · have ha := hq.ad h0
    have e : slqV q = .slice (some ⟨q.wb, q.wo, none⟩) q.wn q.wc := by unfold slqV; rw [ha]
    have h := clone_runs0 q.wb q.wo q.wn q.wc q.wf h0 hl
    simp only [Nat.zero_add, catU_zero] at h
    rw [e]
    have h2 := (h.famN (F := famB q) ⟨h0, rfl⟩).toO
    have e2 : ∀ a r, clG q a r = ⟨false, a, q.wn, r, q.wf⟩ := fun a r => by unfold clG; rw [ha] <;> rfl
    simp only [e2]
    exact h2
theorem one22 : OneC Tryd.prog 22 (.slice none 0 0) 24 := oneC_of (by kernel_rfl) rfl
theorem of_frame {F : Blk → Prop} (q : BytL) (hq : OkB q) (hl : q.wn ≤ 1000000) (hF : ∀ x, famTB q x → F x) (a c r : Nat) (g : Nat → UInt8) :
    RunsF F Tryd.prog 24 [.slice (some ⟨a, 0, none⟩) 2 2] [⟨a, false, 0, .lit [slqV (bytO c 4 (4 + r) g), slqV q]⟩, ⟨c, false, 0, spr (4 + r) 4 (fun k => u8 (g k)) (u8 0)⟩] 0 (fun _ => vecV 32 fun k => u8 (digOf (catU g 4 q.wf) (4 + q.wn) k)) (fun _ => [none, none]) := by
  have h := RunsF.lendS (F' := F) (cs := [(⟨a, false, 0, .lit [slqV (bytO c 4 (4 + r) g), slqV q]⟩ : Blk), ⟨c, false, 0, spr (4 + r) 4 (fun k => u8 (g k)) (u8 0)⟩]) (of_fam (bysO a 2 2 (brow [bytO c 4 (4 + r) g, q])) (oks_own (by decide) (by decide) (fun k hk => by
    rcases k with _ | _ | k
    · exact okb_own (by omega) (by decide)
    · exact hq
    · omega))) (of_frame_holds hF) (by simp)
  rw [of_two_sum hl] at h
  exact h
theorem frame_ok (q : BytL) (hq : OkB q) (hl : q.wn ≤ 4000) : RunsF (famTB q) Tryd.prog 18 [(Value.slice q.wa q.wn q.wc)] [] 2 (fun (ns : List Nat) => (Value.tuple #[(Value.slice (some ⟨(ns.getD 0 0), 0, none⟩) (8 + q.wn) (8 + q.wn + (ns.getD 1 0))), (int 0)])) (fun (ns : List Nat) => [some ⟨(ns.getD 0 0), true, 0, (spr (8 + q.wn + (ns.getD 1 0)) (8 + q.wn) (fun k => u8 (frF q.wn q.wf k)) (u8 0))⟩]) :=
  runsF_of_ev (F := (famTB q)) mix Tryd.func18 rfl rfl 400 (.reg [(0, .g), (1, .g)] (.reg [(0, .g), (1, (.as (nat q.wn))), (2, (.as (Value.bool (decide (4000 < q.wn)))))] (.no (.reg [(0, .g)] (.reg [(0, .g)] (.unroll (.reg [(0, .g)] (.yes (.reg [(0, .g), (1, .g)] (.regn [(0, .g), (1, .g), (2, (.as (nat q.wn))), (3, .g), (4, .g), (5, .g), (6, (.as (nat (q.wn / 2 ^ 24)))), (7, (.as (u8 (UInt8.ofNat (q.wn / 2 ^ 24))))), (8, (.oth [] 1 1 (fun ns => Value.slice (some ⟨ns.getD 0 0, 0, none⟩) 1 1) (fun ns => [some ⟨ns.getD 0 0, true, 0, .lit [(u8 (UInt8.ofNat (q.wn / 2 ^ 24)))]⟩]))), (9, (.oth [(0, true)] 2 1 (fun ns => Value.slice (some ⟨(ns.getD 0 0), 0, none⟩) 1 (1 + (ns.getD 1 0))) (fun ns => [none, some ⟨(ns.getD 0 0), true, 0, (spr (1 + (ns.getD 1 0)) 1 (fun k => u8 ((fun _ => (UInt8.ofNat (q.wn / 2 ^ 24))) k)) (u8 0))⟩]))), (10, .g)] (more (fun n1 => more (fun n2 => more (fun n3 => fun _ => (.reg [(0, .g), (1, .g)] (.unroll (.reg [(0, .g)] (.yes (.reg [(0, .g), (1, .g)] (.regn [(0, .g), (1, .g), (2, (.as (nat q.wn))), (3, .g), (4, .g), (5, .g), (6, (.as (nat (q.wn / 2 ^ 16)))), (7, (.as (u8 (UInt8.ofNat (q.wn / 2 ^ 16))))), (8, (.oth [] 1 1 (fun ns => Value.slice (some ⟨ns.getD 0 0, 0, none⟩) 1 1) (fun ns => [some ⟨ns.getD 0 0, true, 0, .lit [(u8 (UInt8.ofNat (q.wn / 2 ^ 16)))]⟩]))), (9, (.oth [(1, false), (2, true)] 2 0 (fun ns => Value.slice (some ⟨(ns.getD 0 0), 0, none⟩) (2) (2 + (ns.getD 1 0))) (fun ns => [some ⟨(ns.getD 0 0), true, 0, (spr (2 + (ns.getD 1 0)) 2 (fun k => u8 (catU (fun _ => (UInt8.ofNat (q.wn / 2 ^ 24))) 1 (fun _ => (UInt8.ofNat (q.wn / 2 ^ 16))) k)) (u8 0))⟩, none]))), (10, .g)] (more (fun n4 => more (fun n5 => more (fun n6 => fun _ => (.reg [(0, .g), (1, .g)] (.unroll (.reg [(0, .g)] (.yes (.reg [(0, .g), (1, .g)] (.regn [(0, .g), (1, .g), (2, (.as (nat q.wn))), (3, .g), (4, .g), (5, .g), (6, (.as (nat (q.wn / 2 ^ 8)))), (7, (.as (u8 (UInt8.ofNat (q.wn / 2 ^ 8))))), (8, (.oth [] 1 1 (fun ns => Value.slice (some ⟨ns.getD 0 0, 0, none⟩) 1 1) (fun ns => [some ⟨ns.getD 0 0, true, 0, .lit [(u8 (UInt8.ofNat (q.wn / 2 ^ 8)))]⟩]))), (9, (.oth [(1, false), (3, true)] 2 0 (fun ns => Value.slice (some ⟨(ns.getD 0 0), 0, none⟩) (3) (3 + (ns.getD 1 0))) (fun ns => [some ⟨(ns.getD 0 0), true, 0, (spr (3 + (ns.getD 1 0)) 3 (fun k => u8 (catU (catU (fun _ => (UInt8.ofNat (q.wn / 2 ^ 24))) 1 (fun _ => (UInt8.ofNat (q.wn / 2 ^ 16)))) 2 (fun _ => (UInt8.ofNat (q.wn / 2 ^ 8))) k)) (u8 0))⟩, none]))), (10, .g)] (more (fun n7 => more (fun n8 => more (fun n9 => fun _ => (.reg [(0, .g), (1, .g)] (.unroll (.reg [(0, .g)] (.yes (.reg [(0, .g), (1, .g)] (.regn [(0, .g), (1, .g), (2, (.as (nat q.wn))), (3, .g), (4, .g), (5, .g), (6, (.as (nat (q.wn / 2 ^ 0)))), (7, (.as (u8 (UInt8.ofNat (q.wn / 2 ^ 0))))), (8, (.oth [] 1 1 (fun ns => Value.slice (some ⟨ns.getD 0 0, 0, none⟩) 1 1) (fun ns => [some ⟨ns.getD 0 0, true, 0, .lit [(u8 (UInt8.ofNat (q.wn / 2 ^ 0)))]⟩]))), (9, (.oth [(1, false), (4, true)] 2 0 (fun ns => Value.slice (some ⟨(ns.getD 0 0), 0, none⟩) (4) (4 + (ns.getD 1 0))) (fun ns => [some ⟨(ns.getD 0 0), true, 0, (spr (4 + (ns.getD 1 0)) 4 (fun k => u8 (catU (catU (catU (fun _ => (UInt8.ofNat (q.wn / 2 ^ 24))) 1 (fun _ => (UInt8.ofNat (q.wn / 2 ^ 16)))) 2 (fun _ => (UInt8.ofNat (q.wn / 2 ^ 8)))) 3 (fun _ => (UInt8.ofNat (q.wn / 2 ^ 0))) k)) (u8 0))⟩, none]))), (10, .g)] (more (fun n10 => more (fun n11 => more (fun n12 => fun _ => (.reg [(0, .g), (1, .g)] (.unroll (.reg [(0, .g)] (.no (.regn [(0, .g), (1, .g), (2, .bsl), (3, (.callF [(5, true), (1, true)] 0 0 (fun _ => (vecV 32 (fun k => u8 (digOf (catU (catU (catU (catU (fun _ => (UInt8.ofNat (q.wn / 2 ^ 24))) 1 (fun _ => (UInt8.ofNat (q.wn / 2 ^ 16)))) 2 (fun _ => (UInt8.ofNat (q.wn / 2 ^ 8)))) 3 (fun _ => (UInt8.ofNat (q.wn / 2 ^ 0)))) 4 q.wf) (4 + q.wn) k)))) (fun _ => [none, none]))), (4, .new), (5, (.st 6 (.lit 0)))] (more (fun n13 => more (fun n14 => fun _ => (.regn [(0, .g), (1, .g), (2, (.oth [(1, false), (6, true)] 2 0 (fun ns => Value.slice (some ⟨(ns.getD 0 0), 0, none⟩) (8) (8 + (ns.getD 1 0))) (fun ns => [some ⟨(ns.getD 0 0), true, 0, (spr (8 + (ns.getD 1 0)) 8 (fun k => u8 (catU (catU (catU (catU (fun _ => (UInt8.ofNat (q.wn / 2 ^ 24))) 1 (fun _ => (UInt8.ofNat (q.wn / 2 ^ 16)))) 2 (fun _ => (UInt8.ofNat (q.wn / 2 ^ 8)))) 3 (fun _ => (UInt8.ofNat (q.wn / 2 ^ 0)))) 4 (digOf (catU (catU (catU (catU (fun _ => (UInt8.ofNat (q.wn / 2 ^ 24))) 1 (fun _ => (UInt8.ofNat (q.wn / 2 ^ 16)))) 2 (fun _ => (UInt8.ofNat (q.wn / 2 ^ 8)))) 3 (fun _ => (UInt8.ofNat (q.wn / 2 ^ 0)))) 4 q.wf) (4 + q.wn)) k)) (u8 0))⟩, none]))), (3, .g)] (more (fun n15 => more (fun n16 => fun _ => (.regn [(0, .g), (1, .g), (2, (.othF [(1, false)] 2 0 (fun ns => Value.slice (some ⟨(ns.getD 0 0), 0, none⟩) (8 + q.wn) (8 + q.wn + (ns.getD 1 0))) (fun ns => [some ⟨(ns.getD 0 0), true, 0, (spr (8 + q.wn + (ns.getD 1 0)) (8 + q.wn) (fun k => u8 (catU (catU (catU (catU (catU (fun _ => (UInt8.ofNat (q.wn / 2 ^ 24))) 1 (fun _ => (UInt8.ofNat (q.wn / 2 ^ 16)))) 2 (fun _ => (UInt8.ofNat (q.wn / 2 ^ 8)))) 3 (fun _ => (UInt8.ofNat (q.wn / 2 ^ 0)))) 4 (digOf (catU (catU (catU (catU (fun _ => (UInt8.ofNat (q.wn / 2 ^ 24))) 1 (fun _ => (UInt8.ofNat (q.wn / 2 ^ 16)))) 2 (fun _ => (UInt8.ofNat (q.wn / 2 ^ 8)))) 3 (fun _ => (UInt8.ofNat (q.wn / 2 ^ 0)))) 4 q.wf) (4 + q.wn))) 8 q.wf k)) (u8 0))⟩]))), (3, .g), (4, .g)] (more (fun n17 => more (fun n18 => fun _ => .done)))))))))))))))))))))))))))))))))))))))))))))))))))))))))))) [] [1] rfl
    (have f0 : q.wn ≤ q.wc ∧ q.wn ≤ 9223372036854775807 := ⟨hq.cap, hq.len⟩; have f1 : q.wn ≤ 4000 := hl; Eq.mp (by kernel_rfl) (And.intro (sk (sk trivial)) (And.intro (sk (And.intro (And.intro trivial (@is_len Tryd.prog 22 5 (.tmp 7) (by kernel_rfl) q.wa q.wn q.wc)) (And.intro (And.intro trivial (@is_gtrn Tryd.prog 3 3 (.tmp 8) (.const (.int .i64 4000))  q.wn 4000)) trivial))) ((fun (hp1 : (decide (4000 < q.wn)) = false) => have f2 : ¬ (4000 < q.wn) := (of_decide_eq_false hp1); And.intro trivial (And.intro hp1 (And.intro (sk trivial) (And.intro (sk trivial) (And.intro (sk trivial) (And.intro trivial (And.intro (@rfl Bool true) (And.intro (sk (sk trivial)) (fun (n1 n2 n3 : Nat) => And.intro (sk (sk (And.intro (And.intro trivial (@is_len Tryd.prog 22 5 (.tmp 14) (by kernel_rfl) q.wa q.wn q.wc)) (sk (sk (sk (And.intro (And.intro trivial (@is_shrn Tryd.prog 3 3 (.tmp 15) (.tmp 18)  q.wn 24 (show q.wn ≤ 9223372036854775807 from by omega))) (And.intro (And.intro trivial (@conv_int_u8 Tryd.prog 3 5 (.tmp 19) (by kernel_rfl) (by kernel_rfl) (q.wn / 2 ^ 24))) (And.intro (And.intro trivial (mk_build (P := Tryd.prog) (t := 22) (e := 5) one5 1 #[(0, (u8 (UInt8.ofNat (q.wn / 2 ^ 24))))] #[(u8 (UInt8.ofNat (q.wn / 2 ^ 24)))] (by kernel_rfl) (by decide) (by kernel_rfl))) (And.intro (And.intro trivial (SRuns.dark [true] (mk_append_nil (P := Tryd.prog) (t := 22) (ty := 22) (e := 5) (by kernel_rfl) one5 n1 0 0 1 1 u8 (fun _ => (UInt8.ofNat (q.wn / 2 ^ 24))) (.lit [(u8 (UInt8.ofNat (q.wn / 2 ^ 24)))]) (lit1_get (u8 (UInt8.ofNat (q.wn / 2 ^ 24)))) (show 0 < 1 ∧ 1 * 1 ≤ 140737488355328 ∧ 1 ≤ 9223372036854775807 from by omega)))) (sk trivial))))))))))) (And.intro (sk (sk trivial)) (And.intro (sk trivial) (And.intro trivial (And.intro (@rfl Bool true) (And.intro (sk (sk trivial)) (fun (n4 n5 n6 : Nat) => And.intro (sk (sk (And.intro (And.intro trivial (@is_len Tryd.prog 22 5 (.tmp 14) (by kernel_rfl) q.wa q.wn q.wc)) (sk (sk (sk (And.intro (And.intro trivial (@is_shrn Tryd.prog 3 3 (.tmp 15) (.tmp 18)  q.wn 16 (show q.wn ≤ 9223372036854775807 from by omega))) (And.intro (And.intro trivial (@conv_int_u8 Tryd.prog 3 5 (.tmp 19) (by kernel_rfl) (by kernel_rfl) (q.wn / 2 ^ 16))) (And.intro (And.intro trivial (mk_build (P := Tryd.prog) (t := 22) (e := 5) one5 1 #[(0, (u8 (UInt8.ofNat (q.wn / 2 ^ 16))))] #[(u8 (UInt8.ofNat (q.wn / 2 ^ 16)))] (by kernel_rfl) (by decide) (by kernel_rfl))) (And.intro (And.intro trivial (SRuns.dark [false, true] (mk_append (P := Tryd.prog) (t := 22) (ty := 22) (e := 5) (by kernel_rfl) one5 n2 1 n3 n4 0 0 1 1 u8 (fun _ => (UInt8.ofNat (q.wn / 2 ^ 24))) (fun _ => (UInt8.ofNat (q.wn / 2 ^ 16))) (.lit [(u8 (UInt8.ofNat (q.wn / 2 ^ 16)))]) (lit1_get (u8 (UInt8.ofNat (q.wn / 2 ^ 16)))) (fun _ => rfl) (show (1 + 1) * 1 ≤ 140737488355328 ∧ 1 + 1 ≤ 9223372036854775807 from by omega)))) (sk trivial))))))))))) (And.intro (sk (sk trivial)) (And.intro (sk trivial) (And.intro trivial (And.intro (@rfl Bool true) (And.intro (sk (sk trivial)) (fun (n7 n8 n9 : Nat) => And.intro (sk (sk (And.intro (And.intro trivial (@is_len Tryd.prog 22 5 (.tmp 14) (by kernel_rfl) q.wa q.wn q.wc)) (sk (sk (sk (And.intro (And.intro trivial (@is_shrn Tryd.prog 3 3 (.tmp 15) (.tmp 18)  q.wn 8 (show q.wn ≤ 9223372036854775807 from by omega))) (And.intro (And.intro trivial (@conv_int_u8 Tryd.prog 3 5 (.tmp 19) (by kernel_rfl) (by kernel_rfl) (q.wn / 2 ^ 8))) (And.intro (And.intro trivial (mk_build (P := Tryd.prog) (t := 22) (e := 5) one5 1 #[(0, (u8 (UInt8.ofNat (q.wn / 2 ^ 8))))] #[(u8 (UInt8.ofNat (q.wn / 2 ^ 8)))] (by kernel_rfl) (by decide) (by kernel_rfl))) (And.intro (And.intro trivial (SRuns.dark [false, true] (mk_append (P := Tryd.prog) (t := 22) (ty := 22) (e := 5) (by kernel_rfl) one5 n5 2 n6 n7 0 0 1 1 u8 (catU (fun _ => (UInt8.ofNat (q.wn / 2 ^ 24))) 1 (fun _ => (UInt8.ofNat (q.wn / 2 ^ 16)))) (fun _ => (UInt8.ofNat (q.wn / 2 ^ 8))) (.lit [(u8 (UInt8.ofNat (q.wn / 2 ^ 8)))]) (lit1_get (u8 (UInt8.ofNat (q.wn / 2 ^ 8)))) (fun _ => rfl) (show (2 + 1) * 1 ≤ 140737488355328 ∧ 2 + 1 ≤ 9223372036854775807 from by omega)))) (sk trivial))))))))))) (And.intro (sk (sk trivial)) (And.intro (sk trivial) (And.intro trivial (And.intro (@rfl Bool true) (And.intro (sk (sk trivial)) (fun (n10 n11 n12 : Nat) => And.intro (sk (sk (And.intro (And.intro trivial (@is_len Tryd.prog 22 5 (.tmp 14) (by kernel_rfl) q.wa q.wn q.wc)) (sk (sk (sk (And.intro (And.intro trivial (@is_shrn Tryd.prog 3 3 (.tmp 15) (.tmp 18)  q.wn 0 (show q.wn ≤ 9223372036854775807 from by omega))) (And.intro (And.intro trivial (@conv_int_u8 Tryd.prog 3 5 (.tmp 19) (by kernel_rfl) (by kernel_rfl) (q.wn / 2 ^ 0))) (And.intro (And.intro trivial (mk_build (P := Tryd.prog) (t := 22) (e := 5) one5 1 #[(0, (u8 (UInt8.ofNat (q.wn / 2 ^ 0))))] #[(u8 (UInt8.ofNat (q.wn / 2 ^ 0)))] (by kernel_rfl) (by decide) (by kernel_rfl))) (And.intro (And.intro trivial (SRuns.dark [false, true] (mk_append (P := Tryd.prog) (t := 22) (ty := 22) (e := 5) (by kernel_rfl) one5 n8 3 n9 n10 0 0 1 1 u8 (catU (catU (fun _ => (UInt8.ofNat (q.wn / 2 ^ 24))) 1 (fun _ => (UInt8.ofNat (q.wn / 2 ^ 16)))) 2 (fun _ => (UInt8.ofNat (q.wn / 2 ^ 8)))) (fun _ => (UInt8.ofNat (q.wn / 2 ^ 0))) (.lit [(u8 (UInt8.ofNat (q.wn / 2 ^ 0)))]) (lit1_get (u8 (UInt8.ofNat (q.wn / 2 ^ 0)))) (fun _ => rfl) (show (3 + 1) * 1 ≤ 140737488355328 ∧ 3 + 1 ≤ 9223372036854775807 from by omega)))) (sk trivial))))))))))) (And.intro (sk (sk trivial)) (And.intro (sk trivial) (And.intro trivial (And.intro (@rfl Bool false) (fun (n13 n14 : Nat) => And.intro (sk (sk (And.intro (And.intro trivial (mk_build (P := Tryd.prog) (t := 24) (e := 22) one22 2 #[(0, (Value.slice (some ⟨n11, 0, none⟩) 4 (4 + n12))), (1, (Value.slice q.wa q.wn q.wc))] #[(Value.slice (some ⟨n11, 0, none⟩) 4 (4 + n12)), (Value.slice q.wa q.wn q.wc)] (by kernel_rfl) (by decide) (by kernel_rfl))) (And.intro (And.intro trivial (of_frame q hq (show q.wn ≤ 1000000 from by omega) (fun x hx => hx) n13 n11 n12 (catU (catU (catU (fun _ => (UInt8.ofNat (q.wn / 2 ^ 24))) 1 (fun _ => (UInt8.ofNat (q.wn / 2 ^ 16)))) 2 (fun _ => (UInt8.ofNat (q.wn / 2 ^ 8)))) 3 (fun _ => (UInt8.ofNat (q.wn / 2 ^ 0)))))) (sk (And.intro (And.intro trivial (ad n14 0)) trivial)))))) (fun (n15 n16 : Nat) => And.intro (sk (sk (And.intro (And.intro trivial (SRuns.dark [false, true] (mk_append (P := Tryd.prog) (t := 22) (ty := 22) (e := 5) (by kernel_rfl) one5 n11 4 n12 n14 0 0 4 32 u8 (catU (catU (catU (fun _ => (UInt8.ofNat (q.wn / 2 ^ 24))) 1 (fun _ => (UInt8.ofNat (q.wn / 2 ^ 16)))) 2 (fun _ => (UInt8.ofNat (q.wn / 2 ^ 8)))) 3 (fun _ => (UInt8.ofNat (q.wn / 2 ^ 0)))) (digOf (catU (catU (catU (catU (fun _ => (UInt8.ofNat (q.wn / 2 ^ 24))) 1 (fun _ => (UInt8.ofNat (q.wn / 2 ^ 16)))) 2 (fun _ => (UInt8.ofNat (q.wn / 2 ^ 8)))) 3 (fun _ => (UInt8.ofNat (q.wn / 2 ^ 0)))) 4 q.wf) (4 + q.wn)) (litF 32 (fun k => u8 (digOf (catU (catU (catU (catU (fun _ => (UInt8.ofNat (q.wn / 2 ^ 24))) 1 (fun _ => (UInt8.ofNat (q.wn / 2 ^ 16)))) 2 (fun _ => (UInt8.ofNat (q.wn / 2 ^ 8)))) 3 (fun _ => (UInt8.ofNat (q.wn / 2 ^ 0)))) 4 q.wf) (4 + q.wn) k))) (fun j hj => to_tabF _ _ _ _ (by rw [Nat.zero_add]; exact tabF_in (show j < 32 from by omega))) (fun _ => rfl) (show (4 + 4) * 1 ≤ 140737488355328 ∧ 4 + 4 ≤ 9223372036854775807 from by omega)))) (sk trivial)))) (fun (n17 n18 : Nat) => And.intro (sk (sk (And.intro (And.intro trivial (srunF_append_rec (P := Tryd.prog) (t := 22) (ty := 22) (e := 5) (by kernel_rfl) one5 n15 8 n16 (catU (catU (catU (catU (fun _ => (UInt8.ofNat (q.wn / 2 ^ 24))) 1 (fun _ => (UInt8.ofNat (q.wn / 2 ^ 16)))) 2 (fun _ => (UInt8.ofNat (q.wn / 2 ^ 8)))) 3 (fun _ => (UInt8.ofNat (q.wn / 2 ^ 0)))) 4 (digOf (catU (catU (catU (catU (fun _ => (UInt8.ofNat (q.wn / 2 ^ 24))) 1 (fun _ => (UInt8.ofNat (q.wn / 2 ^ 16)))) 2 (fun _ => (UInt8.ofNat (q.wn / 2 ^ 8)))) 3 (fun _ => (UInt8.ofNat (q.wn / 2 ^ 0)))) 4 q.wf) (4 + q.wn))) q hq (fun z hz => (Or.inr hz : famTB q z)) (show (8 + q.wn) * 1 ≤ 140737488355328 ∧ 8 + q.wn ≤ 9223372036854775807 from by omega))) (sk (sk trivial))))) (And.intro trivial (@Exists.intro (List Nat) (fun (ns : List Nat) => ns.length = 2 ∧ ((Value.tuple #[(Value.slice (some ⟨n17, 0, none⟩) (8 + q.wn) (8 + q.wn + n18)), (int 0)]) : Value) = (fun (ns : List Nat) => (Value.tuple #[(Value.slice (some ⟨(ns.getD 0 0), 0, none⟩) (8 + q.wn) (8 + q.wn + (ns.getD 1 0))), (int 0)])) ns ∧ ([some ⟨n17, true, 0, (spr (8 + q.wn + n18) (8 + q.wn) (fun k => u8 (catU (catU (catU (catU (catU (fun _ => (UInt8.ofNat (q.wn / 2 ^ 24))) 1 (fun _ => (UInt8.ofNat (q.wn / 2 ^ 16)))) 2 (fun _ => (UInt8.ofNat (q.wn / 2 ^ 8)))) 3 (fun _ => (UInt8.ofNat (q.wn / 2 ^ 0)))) 4 (digOf (catU (catU (catU (catU (fun _ => (UInt8.ofNat (q.wn / 2 ^ 24))) 1 (fun _ => (UInt8.ofNat (q.wn / 2 ^ 16)))) 2 (fun _ => (UInt8.ofNat (q.wn / 2 ^ 8)))) 3 (fun _ => (UInt8.ofNat (q.wn / 2 ^ 0)))) 4 q.wf) (4 + q.wn))) 8 q.wf k)) (u8 0))⟩] : List (Option Blk)) = (fun (ns : List Nat) => [some ⟨(ns.getD 0 0), true, 0, (spr (8 + q.wn + (ns.getD 1 0)) (8 + q.wn) (fun k => u8 (frF q.wn q.wf k)) (u8 0))⟩]) ns) [n17, n18] (And.intro (@rfl Nat 2) (And.intro (@rfl Value (Value.tuple #[(Value.slice (some ⟨n17, 0, none⟩) (8 + q.wn) (8 + q.wn + n18)), (int 0)])) ((show ([some ⟨n17, true, 0, (spr (8 + q.wn + n18) (8 + q.wn) (fun k => u8 (catU (catU (catU (catU (catU (fun _ => (UInt8.ofNat (q.wn / 2 ^ 24))) 1 (fun _ => (UInt8.ofNat (q.wn / 2 ^ 16)))) 2 (fun _ => (UInt8.ofNat (q.wn / 2 ^ 8)))) 3 (fun _ => (UInt8.ofNat (q.wn / 2 ^ 0)))) 4 (digOf (catU (catU (catU (catU (fun _ => (UInt8.ofNat (q.wn / 2 ^ 24))) 1 (fun _ => (UInt8.ofNat (q.wn / 2 ^ 16)))) 2 (fun _ => (UInt8.ofNat (q.wn / 2 ^ 8)))) 3 (fun _ => (UInt8.ofNat (q.wn / 2 ^ 0)))) 4 q.wf) (4 + q.wn))) 8 q.wf k)) (u8 0))⟩] : List (Option Blk)) = [some ⟨n17, true, 0, (spr (8 + q.wn + n18) (8 + q.wn) (fun k => u8 (frF q.wn q.wf k)) (u8 0))⟩] from by rw [spr_as (fun k hk => congrArg u8 (frame_row (siz_row q.wn) k hk))])))))))))))))))))))))))))))))))))))))))) (show (decide (4000 < q.wn)) = false from by simp; omega)))))
theorem frame_long (q : BytL) (hq : OkB q) (hl : 4000 < q.wn) : RunsF (famTB q) Tryd.prog 18 [(Value.slice q.wa q.wn q.wc)] [] 0 (fun (_ : List Nat) => (Value.tuple #[(Value.slice none 0 0), (int 2)])) (fun (_ : List Nat) => []) :=
  runsF_of_ev (F := (famTB q)) mix Tryd.func18 rfl rfl 400 (.reg [(0, .g), (1, .g)] (.reg [(0, .g), (1, (.as (nat q.wn))), (2, (.as (Value.bool (decide (4000 < q.wn)))))] (.yes (.reg [(0, .g), (1, .g)] .done)))) [] [] rfl
    (have f0 : q.wn ≤ q.wc ∧ q.wn ≤ 9223372036854775807 := ⟨hq.cap, hq.len⟩; have f1 : 4000 < q.wn := hl; Eq.mp (by kernel_rfl) (And.intro (sk (sk trivial)) (And.intro (sk (And.intro (And.intro trivial (@is_len Tryd.prog 22 5 (.tmp 7) (by kernel_rfl) q.wa q.wn q.wc)) (And.intro (And.intro trivial (@is_gtrn Tryd.prog 3 3 (.tmp 8) (.const (.int .i64 4000))  q.wn 4000)) trivial))) ((fun (hp1 : (decide (4000 < q.wn)) = true) => have f2 : (4000 < q.wn) := (of_decide_eq_true hp1); And.intro trivial (And.intro hp1 (And.intro (sk (sk trivial)) (And.intro trivial (@Exists.intro (List Nat) (fun (ns : List Nat) => ns.length = 0 ∧ ((Value.tuple #[(Value.slice none 0 0), (int 2)]) : Value) = (fun (_ : List Nat) => (Value.tuple #[(Value.slice none 0 0), (int 2)])) ns ∧ ([] : List (Option Blk)) = (fun (_ : List Nat) => []) ns) [] (And.intro (@rfl Nat 0) (And.intro (@rfl Value (Value.tuple #[(Value.slice none 0 0), (int 2)])) (@rfl (List (Option Blk)) [])))))))) (show (decide (4000 < q.wn)) = true from by simp; omega)))))
theorem first_A (q : BytL) (hq : OkB q) (hc : q.wn < 8) : RunsF (famTB q) Tryd.prog 26 [(Value.slice q.wa q.wn q.wc)] [] 0 (fun (_ : List Nat) => Value.tuple #[fsV q, Value.bool (fsOk q.wf q.wn)]) (fun (_ : List Nat) => []) :=
  runsF_of_ev (F := (famTB q)) mix Tryd.func26 rfl rfl 400 (.reg [(0, .g), (1, .g)] (.reg [(0, .g), (1, (.as (nat q.wn))), (2, (.as (Value.bool (decide (q.wn < 8)))))] (.yes (.reg [(0, .g), (1, .g)] .done)))) [] [] rfl
    (have f0 : q.wn ≤ q.wc ∧ q.wn ≤ 9223372036854775807 := ⟨hq.cap, hq.len⟩; have f1 : q.wn < 8 := hc; Eq.mp (by kernel_rfl) (And.intro (sk (sk trivial)) (And.intro (sk (And.intro (And.intro trivial (@is_len Tryd.prog 22 5 (.tmp 10) (by kernel_rfl) q.wa q.wn q.wc)) (And.intro (And.intro trivial (@is_lssn Tryd.prog 3 3 (.tmp 11) (.const (.int .i64 8))  q.wn 8)) trivial))) ((fun (hp1 : (decide (q.wn < 8)) = true) => have f2 : (q.wn < 8) := (of_decide_eq_true hp1); And.intro trivial (And.intro hp1 (And.intro (sk (sk trivial)) (And.intro trivial (@Exists.intro (List Nat) (fun (ns : List Nat) => ns.length = 0 ∧ ((Value.tuple #[(Value.slice none 0 0), (Value.bool false)]) : Value) = (fun (_ : List Nat) => Value.tuple #[fsV q, Value.bool (fsOk q.wf q.wn)]) ns ∧ ([] : List (Option Blk)) = (fun (_ : List Nat) => []) ns) [] (And.intro (@rfl Nat 0) (And.intro ((show (Value.tuple #[(Value.slice none 0 0), (Value.bool false)]) = Value.tuple #[fsV q, Value.bool (fsOk q.wf q.wn)] from by rw [fs_short (by omega)] <;> rfl)) (@rfl (List (Option Blk)) [])))))))) (show (decide (q.wn < 8)) = true from by simp; omega)))))
def first_B_S1 (q : BytL) (x1 : Nat × Nat) : St := ⟨[(0, .v (Value.slice q.wa q.wn q.wc)), (4, .v (nat x1.2)), (14, .v (Value.slice q.wa 4 q.wc)), (15, .v (nat 4)), (16, .v (nat x1.1))], [], 0⟩
def first_B_R1 (q : BytL) (x1 : Nat × Nat) : Prop := (x1.1 ≤ 4) ∧ (x1.2 = beP q.wf x1.1) ∧ (x1.2 < 4294967296)
def first_B_mu1 (q : BytL) (x1 : Nat × Nat) : Nat := 4 - x1.1
theorem first_B (q : BytL) (hq : OkB q) (hc : 8 ≤ q.wn ∧ q.wn - 8 < be4 q.wf) : RunsF (famTB q) Tryd.prog 26 [(Value.slice q.wa q.wn q.wc)] [] 0 (fun (_ : List Nat) => Value.tuple #[fsV q, Value.bool (fsOk q.wf q.wn)]) (fun (_ : List Nat) => []) :=
  runsF_of_ev (F := (famTB q)) mix Tryd.func26 rfl rfl 400 (.reg [(0, .g), (1, .g)] (.reg [(0, .g), (1, (.as (nat q.wn))), (2, (.as (Value.bool (decide (q.wn < 8)))))] (.no (.reg [(0, .g)] (.reg [(0, .g), (1, (.as (Value.slice q.wa 4 q.wc))), (2, (.as (nat 4))), (3, .g)] (.inv [0, 4, 14, 15, 16] [] 0 (first_B_R1 q) (first_B_S1 q) (first_B_mu1 q) ((0, 0) : Nat × Nat) (fun (x1 : Nat × Nat) => (.reg [(0, (.as (Value.bool (decide (x1.1 < 4)))))] (.br (.openr (bytB q) (.reg [(0, (.as (ptr q.wb (q.wo + x1.1 * 1)))), (1, (.ld 0 (.tab x1.1 0))), (2, .g)] (.reg [(0, .g), (1, (.as (nat (x1.2 * 2 ^ 8)))), (2, .g), (3, (.as (nat ((q.wf x1.1).toNat)))), (4, (.as (nat ((x1.2 * 2 ^ 8) + ((q.wf x1.1).toNat))))), (5, .g)] (.reg [(0, (.as (nat (x1.1 + 1)))), (1, .g)] .done)))) (.reg [(0, .g), (1, .g), (2, (.as (nat q.wn))), (3, (.as (nat (q.wn - 8)))), (4, (.as (Value.bool (decide ((q.wn - 8) < x1.2)))))] (.yes (.reg [(0, .g), (1, .g)] .done)))))))))))) [] [] rfl
    (have f0 : q.wn ≤ q.wc ∧ q.wn ≤ 9223372036854775807 := ⟨hq.cap, hq.len⟩; have f1 : 8 ≤ q.wn ∧ q.wn - 8 < be4 q.wf := hc; Eq.mp (by kernel_rfl) (And.intro (sk (sk trivial)) (And.intro (sk (And.intro (And.intro trivial (@is_len Tryd.prog 22 5 (.tmp 10) (by kernel_rfl) q.wa q.wn q.wc)) (And.intro (And.intro trivial (@is_lssn Tryd.prog 3 3 (.tmp 11) (.const (.int .i64 8))  q.wn 8)) trivial))) ((fun (hp1 : (decide (q.wn < 8)) = false) => have f2 : ¬ (q.wn < 8) := (of_decide_eq_false hp1); And.intro trivial (And.intro hp1 (And.intro (sk trivial) (And.intro (sk (And.intro (And.intro trivial (@is_slqTo Tryd.prog 22 5 (.tmp 13) (.const (.int .i64 4)) (by kernel_rfl) 1 (by kernel_rfl) q.wa q.wn q.wc 4 (show 4 ≤ q.wc from by omega))) (And.intro (And.intro trivial (@is_len Tryd.prog 22 5 (.tmp 14) (by kernel_rfl) q.wa 4 q.wc)) (sk trivial)))) (And.intro (show (first_B_R1 q) ((0, 0) : Nat × Nat) from (show (0 ≤ 4) ∧ (0 = beP q.wf 0) ∧ (0 < 4294967296) from by exact ⟨by omega, rfl, by omega⟩)) (And.intro (@rfl St ((first_B_S1 q) ((0, 0) : Nat × Nat))) (fun (x1 : Nat × Nat) (hx1 : (first_B_R1 q) x1) => have B0 : x1.1 ≤ 4 := hx1.1; have B1 : x1.2 = beP q.wf x1.1 := hx1.2.1; have B2 : x1.2 < 4294967296 := hx1.2.2; And.intro (And.intro (And.intro trivial (@is_lssn Tryd.prog 3 3 (.tmp 16) (.tmp 15)  x1.1 4)) trivial) (And.intro trivial (And.intro (fun (h2 : (decide (x1.1 < 4)) = true) => have f6 : (x1.1 < 4) := (of_decide_eq_true h2); And.intro (Or.inr ⟨(show 0 < q.wn from by omega), rfl⟩ : famTB q (bytB q)) (And.intro (And.intro (And.intro trivial (@is_ixSq Tryd.prog 22 5 (.tmp 14) (.tmp 16) 1 (by kernel_rfl) (by kernel_rfl) q.wb q.wo 4 q.wc x1.1 q.wa (hq.ad (show 0 < q.wn from by omega)) (show x1.1 < 4 from by omega))) (And.intro (And.intro trivial (And.intro (show x1.1 < q.wn from by omega) (@rfl Value (ptr q.wb (q.wo + x1.1 * 1))))) (sk trivial))) (And.intro (sk (And.intro (And.intro trivial (@is_shln Tryd.prog 3 67 (.tmp 20) (.const (.int .u64 8)) .u64 x1.2 8 (show x1.2 * 2 ^ 8 ≤ 9223372036854775807 ∧ 8 ≤ 64 from by omega))) (sk (And.intro (And.intro trivial (@conv_u8_int Tryd.prog 5 3 (.tmp 22) (by kernel_rfl) (by kernel_rfl) (q.wf x1.1))) (And.intro (And.intro trivial (@is_orn Tryd.prog 3 3 (.tmp 21) (.tmp 23)  (x1.2 * 2 ^ 8) ((q.wf x1.1).toNat) x1.2 (show (x1.2 * 2 ^ 8) = x1.2 * 256 ∧ ((q.wf x1.1).toNat) < 256 ∧ (x1.2 * 2 ^ 8) + ((q.wf x1.1).toNat) ≤ 9223372036854775807 from by have h8 := UInt8.toNat_lt (q.wf x1.1); omega))) (sk trivial)))))) (And.intro (And.intro (And.intro trivial (@is_addn Tryd.prog 3 3 (.tmp 16) (.const (.int .i64 1))  x1.1 1 (show x1.1 + 1 ≤ 9223372036854775807 from by omega))) (sk trivial)) ((rnd (first_B_R1 q) (first_B_S1 q) (first_B_mu1 q) x1 ((x1.1 + 1, (x1.2 * 2 ^ 8) + ((q.wf x1.1).toNat)) : Nat × Nat) (show (first_B_R1 q) ((x1.1 + 1, (x1.2 * 2 ^ 8) + ((q.wf x1.1).toNat)) : Nat × Nat) ∧ (first_B_mu1 q) ((x1.1 + 1, (x1.2 * 2 ^ 8) + ((q.wf x1.1).toNat)) : Nat × Nat) < (first_B_mu1 q) x1 from (show (((x1.1 + 1) ≤ 4) ∧ (((x1.2 * 2 ^ 8) + ((q.wf x1.1).toNat)) = beP q.wf (x1.1 + 1)) ∧ (((x1.2 * 2 ^ 8) + ((q.wf x1.1).toNat)) < 4294967296)) ∧ (4 - (x1.1 + 1)) < (4 - x1.1) from by exact ⟨⟨by omega, be_step B1, by rw [be_step B1]; exact beP_lt _ _ (by omega)⟩, by omega⟩)))))))) (fun (h2 : (decide (x1.1 < 4)) = false) => have f6 : ¬ (x1.1 < 4) := (of_decide_eq_false h2); And.intro (sk (sk (And.intro (And.intro trivial (@is_len Tryd.prog 22 5 (.tmp 27) (by kernel_rfl) q.wa q.wn q.wc)) (And.intro (And.intro trivial (@is_subn Tryd.prog 3 3 (.tmp 28) (.const (.int .i64 8))  q.wn 8 (show 8 ≤ q.wn ∧ q.wn - 8 ≤ 9223372036854775807 from by have e5 := (be_end B0 B1 h2); omega))) (And.intro (And.intro trivial (@is_gtrn Tryd.prog 3 3 (.tmp 26) (.tmp 29)  x1.2 (q.wn - 8))) trivial))))) ((fun (hp3 : (decide ((q.wn - 8) < x1.2)) = true) => have f8 : ((q.wn - 8) < x1.2) := (of_decide_eq_true hp3); And.intro trivial (And.intro hp3 (And.intro (sk (sk trivial)) (And.intro trivial (@Exists.intro (List Nat) (fun (ns : List Nat) => ns.length = 0 ∧ ((Value.tuple #[(Value.slice none 0 0), (Value.bool false)]) : Value) = (fun (_ : List Nat) => Value.tuple #[fsV q, Value.bool (fsOk q.wf q.wn)]) ns ∧ ([] : List (Option Blk)) = (fun (_ : List Nat) => []) ns) [] (And.intro (@rfl Nat 0) (And.intro ((show (Value.tuple #[(Value.slice none 0 0), (Value.bool false)]) = Value.tuple #[fsV q, Value.bool (fsOk q.wf q.wn)] from by have e5 := (be_end B0 B1 h2); rw [fs_out (by omega)] <;> rfl)) (@rfl (List (Option Blk)) [])))))))) (show (decide ((q.wn - 8) < x1.2)) = true from by have e5 := (be_end B0 B1 h2); simp; omega)))))))))))) (show (decide (q.wn < 8)) = false from by simp; omega)))))
def first_C_S1 (q : BytL) (x1 : Nat × Nat) : St := ⟨[(0, .v (Value.slice q.wa q.wn q.wc)), (4, .v (nat x1.2)), (14, .v (Value.slice q.wa 4 q.wc)), (15, .v (nat 4)), (16, .v (nat x1.1))], [], 0⟩
def first_C_R1 (q : BytL) (x1 : Nat × Nat) : Prop := (x1.1 ≤ 4) ∧ (x1.2 = beP q.wf x1.1) ∧ (x1.2 < 4294967296)
def first_C_mu1 (q : BytL) (x1 : Nat × Nat) : Nat := 4 - x1.1
theorem first_C (q : BytL) (hq : OkB q) (hc : 8 ≤ q.wn ∧ be4 q.wf ≤ q.wn - 8 ∧ 4000 < be4 q.wf) : RunsF (famTB q) Tryd.prog 26 [(Value.slice q.wa q.wn q.wc)] [] 0 (fun (_ : List Nat) => Value.tuple #[fsV q, Value.bool (fsOk q.wf q.wn)]) (fun (_ : List Nat) => []) :=
  runsF_of_ev (F := (famTB q)) mix Tryd.func26 rfl rfl 400 (.reg [(0, .g), (1, .g)] (.reg [(0, .g), (1, (.as (nat q.wn))), (2, (.as (Value.bool (decide (q.wn < 8)))))] (.no (.reg [(0, .g)] (.reg [(0, .g), (1, (.as (Value.slice q.wa 4 q.wc))), (2, (.as (nat 4))), (3, .g)] (.inv [0, 4, 14, 15, 16] [] 0 (first_C_R1 q) (first_C_S1 q) (first_C_mu1 q) ((0, 0) : Nat × Nat) (fun (x1 : Nat × Nat) => (.reg [(0, (.as (Value.bool (decide (x1.1 < 4)))))] (.br (.openr (bytB q) (.reg [(0, (.as (ptr q.wb (q.wo + x1.1 * 1)))), (1, (.ld 0 (.tab x1.1 0))), (2, .g)] (.reg [(0, .g), (1, (.as (nat (x1.2 * 2 ^ 8)))), (2, .g), (3, (.as (nat ((q.wf x1.1).toNat)))), (4, (.as (nat ((x1.2 * 2 ^ 8) + ((q.wf x1.1).toNat))))), (5, .g)] (.reg [(0, (.as (nat (x1.1 + 1)))), (1, .g)] .done)))) (.reg [(0, .g), (1, .g), (2, (.as (nat q.wn))), (3, (.as (nat (q.wn - 8)))), (4, (.as (Value.bool (decide ((q.wn - 8) < x1.2)))))] (.no (.reg [(0, .g), (1, .g), (2, (.as (nat (8 + x1.2)))), (3, (.as (Value.slice (fromA q.wa q.wc 8 1) ((8 + x1.2) - 8) (q.wc - 8)))), (4, .g)] (.reg [(0, .g), (1, (.callF [] 0 0 (fun _ => (Value.tuple #[(Value.slice none 0 0), (int 2)])) (fun _ => []))), (2, .g), (3, .g), (4, .g), (5, .g), (6, .g)] (.reg [(0, .g), (1, .g), (2, .g), (3, .g), (4, .skip), (5, .skip), (6, .skip), (7, .pk), (8, .g), (9, .g)] .done)))))))))))))) [] [] rfl
    (have f0 : q.wn ≤ q.wc ∧ q.wn ≤ 9223372036854775807 := ⟨hq.cap, hq.len⟩; have f1 : 8 ≤ q.wn ∧ be4 q.wf ≤ q.wn - 8 ∧ 4000 < be4 q.wf := hc; Eq.mp (by kernel_rfl) (And.intro (sk (sk trivial)) (And.intro (sk (And.intro (And.intro trivial (@is_len Tryd.prog 22 5 (.tmp 10) (by kernel_rfl) q.wa q.wn q.wc)) (And.intro (And.intro trivial (@is_lssn Tryd.prog 3 3 (.tmp 11) (.const (.int .i64 8))  q.wn 8)) trivial))) ((fun (hp1 : (decide (q.wn < 8)) = false) => have f2 : ¬ (q.wn < 8) := (of_decide_eq_false hp1); And.intro trivial (And.intro hp1 (And.intro (sk trivial) (And.intro (sk (And.intro (And.intro trivial (@is_slqTo Tryd.prog 22 5 (.tmp 13) (.const (.int .i64 4)) (by kernel_rfl) 1 (by kernel_rfl) q.wa q.wn q.wc 4 (show 4 ≤ q.wc from by omega))) (And.intro (And.intro trivial (@is_len Tryd.prog 22 5 (.tmp 14) (by kernel_rfl) q.wa 4 q.wc)) (sk trivial)))) (And.intro (show (first_C_R1 q) ((0, 0) : Nat × Nat) from (show (0 ≤ 4) ∧ (0 = beP q.wf 0) ∧ (0 < 4294967296) from by exact ⟨by omega, rfl, by omega⟩)) (And.intro (@rfl St ((first_C_S1 q) ((0, 0) : Nat × Nat))) (fun (x1 : Nat × Nat) (hx1 : (first_C_R1 q) x1) => have B0 : x1.1 ≤ 4 := hx1.1; have B1 : x1.2 = beP q.wf x1.1 := hx1.2.1; have B2 : x1.2 < 4294967296 := hx1.2.2; And.intro (And.intro (And.intro trivial (@is_lssn Tryd.prog 3 3 (.tmp 16) (.tmp 15)  x1.1 4)) trivial) (And.intro trivial (And.intro (fun (h2 : (decide (x1.1 < 4)) = true) => have f6 : (x1.1 < 4) := (of_decide_eq_true h2); And.intro (Or.inr ⟨(show 0 < q.wn from by omega), rfl⟩ : famTB q (bytB q)) (And.intro (And.intro (And.intro trivial (@is_ixSq Tryd.prog 22 5 (.tmp 14) (.tmp 16) 1 (by kernel_rfl) (by kernel_rfl) q.wb q.wo 4 q.wc x1.1 q.wa (hq.ad (show 0 < q.wn from by omega)) (show x1.1 < 4 from by omega))) (And.intro (And.intro trivial (And.intro (show x1.1 < q.wn from by omega) (@rfl Value (ptr q.wb (q.wo + x1.1 * 1))))) (sk trivial))) (And.intro (sk (And.intro (And.intro trivial (@is_shln Tryd.prog 3 67 (.tmp 20) (.const (.int .u64 8)) .u64 x1.2 8 (show x1.2 * 2 ^ 8 ≤ 9223372036854775807 ∧ 8 ≤ 64 from by omega))) (sk (And.intro (And.intro trivial (@conv_u8_int Tryd.prog 5 3 (.tmp 22) (by kernel_rfl) (by kernel_rfl) (q.wf x1.1))) (And.intro (And.intro trivial (@is_orn Tryd.prog 3 3 (.tmp 21) (.tmp 23)  (x1.2 * 2 ^ 8) ((q.wf x1.1).toNat) x1.2 (show (x1.2 * 2 ^ 8) = x1.2 * 256 ∧ ((q.wf x1.1).toNat) < 256 ∧ (x1.2 * 2 ^ 8) + ((q.wf x1.1).toNat) ≤ 9223372036854775807 from by have h8 := UInt8.toNat_lt (q.wf x1.1); omega))) (sk trivial)))))) (And.intro (And.intro (And.intro trivial (@is_addn Tryd.prog 3 3 (.tmp 16) (.const (.int .i64 1))  x1.1 1 (show x1.1 + 1 ≤ 9223372036854775807 from by omega))) (sk trivial)) ((rnd (first_C_R1 q) (first_C_S1 q) (first_C_mu1 q) x1 ((x1.1 + 1, (x1.2 * 2 ^ 8) + ((q.wf x1.1).toNat)) : Nat × Nat) (show (first_C_R1 q) ((x1.1 + 1, (x1.2 * 2 ^ 8) + ((q.wf x1.1).toNat)) : Nat × Nat) ∧ (first_C_mu1 q) ((x1.1 + 1, (x1.2 * 2 ^ 8) + ((q.wf x1.1).toNat)) : Nat × Nat) < (first_C_mu1 q) x1 from (show (((x1.1 + 1) ≤ 4) ∧ (((x1.2 * 2 ^ 8) + ((q.wf x1.1).toNat)) = beP q.wf (x1.1 + 1)) ∧ (((x1.2 * 2 ^ 8) + ((q.wf x1.1).toNat)) < 4294967296)) ∧ (4 - (x1.1 + 1)) < (4 - x1.1) from by exact ⟨⟨by omega, be_step B1, by rw [be_step B1]; exact beP_lt _ _ (by omega)⟩, by omega⟩)))))))) (fun (h2 : (decide (x1.1 < 4)) = false) => have f6 : ¬ (x1.1 < 4) := (of_decide_eq_false h2); And.intro (sk (sk (And.intro (And.intro trivial (@is_len Tryd.prog 22 5 (.tmp 27) (by kernel_rfl) q.wa q.wn q.wc)) (And.intro (And.intro trivial (@is_subn Tryd.prog 3 3 (.tmp 28) (.const (.int .i64 8))  q.wn 8 (show 8 ≤ q.wn ∧ q.wn - 8 ≤ 9223372036854775807 from by have e5 := (be_end B0 B1 h2); omega))) (And.intro (And.intro trivial (@is_gtrn Tryd.prog 3 3 (.tmp 26) (.tmp 29)  x1.2 (q.wn - 8))) trivial))))) ((fun (hp3 : (decide ((q.wn - 8) < x1.2)) = false) => have f8 : ¬ ((q.wn - 8) < x1.2) := (of_decide_eq_false hp3); And.intro trivial (And.intro hp3 (And.intro (sk (sk (And.intro (And.intro trivial (@is_addn Tryd.prog 3 3 (.const (.int .i64 8)) (.tmp 32)  8 x1.2 (show 8 + x1.2 ≤ 9223372036854775807 from by have e5 := (be_end B0 B1 h2); omega))) (And.intro (And.intro trivial (is_slqPart (P := Tryd.prog) (t := 22) (e := 5) (x := (.tmp 31)) (y := (.const (.int .i64 8))) (z := (.tmp 33)) (by kernel_rfl) (sz := 1) (by kernel_rfl) q.wa q.wn q.wc 8 (8 + x1.2) (show 8 ≤ 8 + x1.2 ∧ 8 + x1.2 ≤ q.wc from by have e5 := (be_end B0 B1 h2); omega))) (sk trivial))))) (And.intro (sk (And.intro (And.intro trivial (RunsF.lendP (F' := (famTB q)) (sh_TB (fun (x : Blk) (h : famT x) => (Or.inl h : famTB q x)) (sh_from (show 8 ≤ 8 + x1.2 from by have e5 := (be_end B0 B1 h2); omega) (sh_to (show (8 + x1.2) ≤ q.wn from by have e5 := (be_end B0 B1 h2); omega) (sh_sub (fun z hz => (Or.inr hz : famTB q z)))))) (nm_TB (fun (x : Blk) (h : famT x) => (Or.inl h : famTB q x)) (nm_part (b := (bytT q (8 + x1.2))) (c := (bytF (bytT q (8 + x1.2)) 8)) (show 0 < (8 + x1.2) - 8 → 0 < 8 + x1.2 from by have e5 := (be_end B0 B1 h2); omega) (nm_part (b := q) (c := (bytT q (8 + x1.2))) (show 0 < (8 + x1.2) → 0 < q.wn from by have e5 := (be_end B0 B1 h2); omega) (nm_sub (fun z hz => (Or.inr hz : famTB q z)))))) (frame_long (bytF (bytT q (8 + x1.2)) 8) (okb_from (okb_to hq (show (8 + x1.2) ≤ q.wn from by have e5 := (be_end B0 B1 h2); omega)) (show 8 ≤ 8 + x1.2 from by have e5 := (be_end B0 B1 h2); omega)) (show 4000 < (8 + x1.2) - 8 from by have e5 := (be_end B0 B1 h2); omega)))) (sk (sk (sk (sk (sk trivial))))))) (And.intro (sk (sk (sk (sk (And.intro (@rfl Bool false) (And.intro (@rfl Bool false) (And.intro (@rfl Bool false) (And.intro (And.intro trivial (And.intro (fun (_ : false = true) => trivial) (fun (_ : false = false) => trivial))) (sk (sk trivial)))))))))) (And.intro trivial (@Exists.intro (List Nat) (fun (ns : List Nat) => ns.length = 0 ∧ ((Value.tuple #[(Value.slice (fromA q.wa q.wc 8 1) ((8 + x1.2) - 8) (q.wc - 8)), (Value.bool false)]) : Value) = (fun (_ : List Nat) => Value.tuple #[fsV q, Value.bool (fsOk q.wf q.wn)]) ns ∧ ([] : List (Option Blk)) = (fun (_ : List Nat) => []) ns) [] (And.intro (@rfl Nat 0) (And.intro ((show (Value.tuple #[(Value.slice (fromA q.wa q.wc 8 1) ((8 + x1.2) - 8) (q.wc - 8)), (Value.bool false)]) = Value.tuple #[fsV q, Value.bool (fsOk q.wf q.wn)] from by have e5 := (be_end B0 B1 h2); rw [fs_long (by omega) (by omega), e5] <;> rfl)) (@rfl (List (Option Blk)) [])))))))))) (show (decide ((q.wn - 8) < x1.2)) = false from by have e5 := (be_end B0 B1 h2); simp; omega)))))))))))) (show (decide (q.wn < 8)) = false from by simp; omega)))))
def first_D_S1 (q : BytL) (x1 : Nat × Nat) : St := ⟨[(0, .v (Value.slice q.wa q.wn q.wc)), (4, .v (nat x1.2)), (14, .v (Value.slice q.wa 4 q.wc)), (15, .v (nat 4)), (16, .v (nat x1.1))], [], 0⟩
def first_D_R1 (q : BytL) (x1 : Nat × Nat) : Prop := (x1.1 ≤ 4) ∧ (x1.2 = beP q.wf x1.1) ∧ (x1.2 < 4294967296)
def first_D_mu1 (q : BytL) (x1 : Nat × Nat) : Nat := 4 - x1.1
theorem first_D (q : BytL) (hq : OkB q) (hc : 8 ≤ q.wn ∧ be4 q.wf ≤ q.wn - 8 ∧ be4 q.wf ≤ 4000) : RunsF (famTB q) Tryd.prog 26 [(Value.slice q.wa q.wn q.wc)] [] 0 (fun (_ : List Nat) => Value.tuple #[fsV q, Value.bool (fsOk q.wf q.wn)]) (fun (_ : List Nat) => []) :=
  runsF_of_ev (F := (famTB q)) mix Tryd.func26 rfl rfl 400 (.reg [(0, .g), (1, .g)] (.reg [(0, .g), (1, (.as (nat q.wn))), (2, (.as (Value.bool (decide (q.wn < 8)))))] (.no (.reg [(0, .g)] (.reg [(0, .g), (1, (.as (Value.slice q.wa 4 q.wc))), (2, (.as (nat 4))), (3, .g)] (.inv [0, 4, 14, 15, 16] [] 0 (first_D_R1 q) (first_D_S1 q) (first_D_mu1 q) ((0, 0) : Nat × Nat) (fun (x1 : Nat × Nat) => (.reg [(0, (.as (Value.bool (decide (x1.1 < 4)))))] (.br (.openr (bytB q) (.reg [(0, (.as (ptr q.wb (q.wo + x1.1 * 1)))), (1, (.ld 0 (.tab x1.1 0))), (2, .g)] (.reg [(0, .g), (1, (.as (nat (x1.2 * 2 ^ 8)))), (2, .g), (3, (.as (nat ((q.wf x1.1).toNat)))), (4, (.as (nat ((x1.2 * 2 ^ 8) + ((q.wf x1.1).toNat))))), (5, .g)] (.reg [(0, (.as (nat (x1.1 + 1)))), (1, .g)] .done)))) (.reg [(0, .g), (1, .g), (2, (.as (nat q.wn))), (3, (.as (nat (q.wn - 8)))), (4, (.as (Value.bool (decide ((q.wn - 8) < x1.2)))))] (.no (.reg [(0, .g), (1, .g), (2, (.as (nat (8 + x1.2)))), (3, (.as (Value.slice (fromA q.wa q.wc 8 1) ((8 + x1.2) - 8) (q.wc - 8)))), (4, .g)] (.regn [(0, .g), (1, (.callF [] 2 1 (fun ns => (Value.tuple #[Value.slice (some ⟨(ns.getD 0 0), 0, none⟩) (8 + ((8 + x1.2) - 8)) (8 + ((8 + x1.2) - 8) + (ns.getD 1 0)), int 0])) (fun ns => [some ⟨(ns.getD 0 0), true, 0, (spr (8 + ((8 + x1.2) - 8) + (ns.getD 1 0)) (8 + ((8 + x1.2) - 8)) (fun k => u8 (frF ((8 + x1.2) - 8) (fun i => q.wf (i + 8)) k)) (u8 0))⟩]))), (2, .g), (3, .g), (4, .g), (5, .g), (6, .g)] (more (fun n1 => more (fun n2 => fun _ => (.reg [(0, .g), (1, .g), (2, .g), (3, .g), (4, .run .g), (5, .run .g), (6, .run (.callF [(0, true)] 0 0 (fun _ => (Value.bool (selB (decide (8 + ((8 + x1.2) - 8) ≤ q.wn)) (sameS q.wf (8 + ((8 + x1.2) - 8)) (frF ((8 + x1.2) - 8) (fun i => q.wf (i + 8))) (8 + ((8 + x1.2) - 8))) false))) (fun _ => [none]))), (7, .pk), (8, .g), (9, .g)] .done))))))))))))))))) [] [] rfl
    (have f0 : q.wn ≤ q.wc ∧ q.wn ≤ 9223372036854775807 := ⟨hq.cap, hq.len⟩; have f1 : 8 ≤ q.wn ∧ be4 q.wf ≤ q.wn - 8 ∧ be4 q.wf ≤ 4000 := hc; Eq.mp (by kernel_rfl) (And.intro (sk (sk trivial)) (And.intro (sk (And.intro (And.intro trivial (@is_len Tryd.prog 22 5 (.tmp 10) (by kernel_rfl) q.wa q.wn q.wc)) (And.intro (And.intro trivial (@is_lssn Tryd.prog 3 3 (.tmp 11) (.const (.int .i64 8))  q.wn 8)) trivial))) ((fun (hp1 : (decide (q.wn < 8)) = false) => have f2 : ¬ (q.wn < 8) := (of_decide_eq_false hp1); And.intro trivial (And.intro hp1 (And.intro (sk trivial) (And.intro (sk (And.intro (And.intro trivial (@is_slqTo Tryd.prog 22 5 (.tmp 13) (.const (.int .i64 4)) (by kernel_rfl) 1 (by kernel_rfl) q.wa q.wn q.wc 4 (show 4 ≤ q.wc from by omega))) (And.intro (And.intro trivial (@is_len Tryd.prog 22 5 (.tmp 14) (by kernel_rfl) q.wa 4 q.wc)) (sk trivial)))) (And.intro (show (first_D_R1 q) ((0, 0) : Nat × Nat) from (show (0 ≤ 4) ∧ (0 = beP q.wf 0) ∧ (0 < 4294967296) from by exact ⟨by omega, rfl, by omega⟩)) (And.intro (@rfl St ((first_D_S1 q) ((0, 0) : Nat × Nat))) (fun (x1 : Nat × Nat) (hx1 : (first_D_R1 q) x1) => have B0 : x1.1 ≤ 4 := hx1.1; have B1 : x1.2 = beP q.wf x1.1 := hx1.2.1; have B2 : x1.2 < 4294967296 := hx1.2.2; And.intro (And.intro (And.intro trivial (@is_lssn Tryd.prog 3 3 (.tmp 16) (.tmp 15)  x1.1 4)) trivial) (And.intro trivial (And.intro (fun (h2 : (decide (x1.1 < 4)) = true) => have f6 : (x1.1 < 4) := (of_decide_eq_true h2); And.intro (Or.inr ⟨(show 0 < q.wn from by omega), rfl⟩ : famTB q (bytB q)) (And.intro (And.intro (And.intro trivial (@is_ixSq Tryd.prog 22 5 (.tmp 14) (.tmp 16) 1 (by kernel_rfl) (by kernel_rfl) q.wb q.wo 4 q.wc x1.1 q.wa (hq.ad (show 0 < q.wn from by omega)) (show x1.1 < 4 from by omega))) (And.intro (And.intro trivial (And.intro (show x1.1 < q.wn from by omega) (@rfl Value (ptr q.wb (q.wo + x1.1 * 1))))) (sk trivial))) (And.intro (sk (And.intro (And.intro trivial (@is_shln Tryd.prog 3 67 (.tmp 20) (.const (.int .u64 8)) .u64 x1.2 8 (show x1.2 * 2 ^ 8 ≤ 9223372036854775807 ∧ 8 ≤ 64 from by omega))) (sk (And.intro (And.intro trivial (@conv_u8_int Tryd.prog 5 3 (.tmp 22) (by kernel_rfl) (by kernel_rfl) (q.wf x1.1))) (And.intro (And.intro trivial (@is_orn Tryd.prog 3 3 (.tmp 21) (.tmp 23)  (x1.2 * 2 ^ 8) ((q.wf x1.1).toNat) x1.2 (show (x1.2 * 2 ^ 8) = x1.2 * 256 ∧ ((q.wf x1.1).toNat) < 256 ∧ (x1.2 * 2 ^ 8) + ((q.wf x1.1).toNat) ≤ 9223372036854775807 from by have h8 := UInt8.toNat_lt (q.wf x1.1); omega))) (sk trivial)))))) (And.intro (And.intro (And.intro trivial (@is_addn Tryd.prog 3 3 (.tmp 16) (.const (.int .i64 1))  x1.1 1 (show x1.1 + 1 ≤ 9223372036854775807 from by omega))) (sk trivial)) ((rnd (first_D_R1 q) (first_D_S1 q) (first_D_mu1 q) x1 ((x1.1 + 1, (x1.2 * 2 ^ 8) + ((q.wf x1.1).toNat)) : Nat × Nat) (show (first_D_R1 q) ((x1.1 + 1, (x1.2 * 2 ^ 8) + ((q.wf x1.1).toNat)) : Nat × Nat) ∧ (first_D_mu1 q) ((x1.1 + 1, (x1.2 * 2 ^ 8) + ((q.wf x1.1).toNat)) : Nat × Nat) < (first_D_mu1 q) x1 from (show (((x1.1 + 1) ≤ 4) ∧ (((x1.2 * 2 ^ 8) + ((q.wf x1.1).toNat)) = beP q.wf (x1.1 + 1)) ∧ (((x1.2 * 2 ^ 8) + ((q.wf x1.1).toNat)) < 4294967296)) ∧ (4 - (x1.1 + 1)) < (4 - x1.1) from by exact ⟨⟨by omega, be_step B1, by rw [be_step B1]; exact beP_lt _ _ (by omega)⟩, by omega⟩)))))))) (fun (h2 : (decide (x1.1 < 4)) = false) => have f6 : ¬ (x1.1 < 4) := (of_decide_eq_false h2); And.intro (sk (sk (And.intro (And.intro trivial (@is_len Tryd.prog 22 5 (.tmp 27) (by kernel_rfl) q.wa q.wn q.wc)) (And.intro (And.intro trivial (@is_subn Tryd.prog 3 3 (.tmp 28) (.const (.int .i64 8))  q.wn 8 (show 8 ≤ q.wn ∧ q.wn - 8 ≤ 9223372036854775807 from by have e5 := (be_end B0 B1 h2); omega))) (And.intro (And.intro trivial (@is_gtrn Tryd.prog 3 3 (.tmp 26) (.tmp 29)  x1.2 (q.wn - 8))) trivial))))) ((fun (hp3 : (decide ((q.wn - 8) < x1.2)) = false) => have f8 : ¬ ((q.wn - 8) < x1.2) := (of_decide_eq_false hp3); And.intro trivial (And.intro hp3 (And.intro (sk (sk (And.intro (And.intro trivial (@is_addn Tryd.prog 3 3 (.const (.int .i64 8)) (.tmp 32)  8 x1.2 (show 8 + x1.2 ≤ 9223372036854775807 from by have e5 := (be_end B0 B1 h2); omega))) (And.intro (And.intro trivial (is_slqPart (P := Tryd.prog) (t := 22) (e := 5) (x := (.tmp 31)) (y := (.const (.int .i64 8))) (z := (.tmp 33)) (by kernel_rfl) (sz := 1) (by kernel_rfl) q.wa q.wn q.wc 8 (8 + x1.2) (show 8 ≤ 8 + x1.2 ∧ 8 + x1.2 ≤ q.wc from by have e5 := (be_end B0 B1 h2); omega))) (sk trivial))))) (fun (n1 n2 : Nat) => And.intro (sk (And.intro (And.intro trivial (RunsF.lendP (F' := (famTB q)) (sh_TB (fun (x : Blk) (h : famT x) => (Or.inl h : famTB q x)) (sh_from (show 8 ≤ 8 + x1.2 from by have e5 := (be_end B0 B1 h2); omega) (sh_to (show (8 + x1.2) ≤ q.wn from by have e5 := (be_end B0 B1 h2); omega) (sh_sub (fun z hz => (Or.inr hz : famTB q z)))))) (nm_TB (fun (x : Blk) (h : famT x) => (Or.inl h : famTB q x)) (nm_part (b := (bytT q (8 + x1.2))) (c := (bytF (bytT q (8 + x1.2)) 8)) (show 0 < (8 + x1.2) - 8 → 0 < 8 + x1.2 from by have e5 := (be_end B0 B1 h2); omega) (nm_part (b := q) (c := (bytT q (8 + x1.2))) (show 0 < (8 + x1.2) → 0 < q.wn from by have e5 := (be_end B0 B1 h2); omega) (nm_sub (fun z hz => (Or.inr hz : famTB q z)))))) (frame_ok (bytF (bytT q (8 + x1.2)) 8) (okb_from (okb_to hq (show (8 + x1.2) ≤ q.wn from by have e5 := (be_end B0 B1 h2); omega)) (show 8 ≤ 8 + x1.2 from by have e5 := (be_end B0 B1 h2); omega)) (show (8 + x1.2) - 8 ≤ 4000 from by have e5 := (be_end B0 B1 h2); omega)))) (sk (sk (sk (sk (sk trivial))))))) (And.intro (sk (sk (sk (sk (And.intro (And.intro (@rfl Bool true) t2) (And.intro (And.intro (@rfl Bool true) t2) (And.intro (And.intro (@rfl Bool true) (And.intro trivial (RunsF.lendBO (F' := (famTB q)) (x := q) (nm := n1) (n := 8 + ((8 + x1.2) - 8)) (r := n2) (c := 8 + ((8 + x1.2) - 8) + n2) (g := frF ((8 + x1.2) - 8) (fun i => q.wf (i + 8))) (prefix_fam q (bytO n1 (8 + ((8 + x1.2) - 8)) (8 + ((8 + x1.2) - 8) + n2) (frF ((8 + x1.2) - 8) (fun i => q.wf (i + 8)))) hq (okb_own (by omega) (show 8 + ((8 + x1.2) - 8) ≤ 9223372036854775807 from by have e5 := (be_end B0 B1 h2); omega))) (sh_sub (fun z hz => (Or.inr hz : famTB q z))) (nm_sub (fun z hz => (Or.inr hz : famTB q z)))))) (And.intro (And.intro trivial (And.intro (fun (_ : true = true) => trivial) (fun (_ : true = false) => trivial))) (sk (sk trivial)))))))))) (And.intro trivial (@Exists.intro (List Nat) (fun (ns : List Nat) => ns.length = 0 ∧ ((Value.tuple #[(Value.slice (fromA q.wa q.wc 8 1) ((8 + x1.2) - 8) (q.wc - 8)), (Value.bool (selB true (selB (decide (8 + ((8 + x1.2) - 8) ≤ q.wn)) (sameS q.wf (8 + ((8 + x1.2) - 8)) (frF ((8 + x1.2) - 8) (fun i => q.wf (i + 8))) (8 + ((8 + x1.2) - 8))) false) false))]) : Value) = (fun (_ : List Nat) => Value.tuple #[fsV q, Value.bool (fsOk q.wf q.wn)]) ns ∧ ([] : List (Option Blk)) = (fun (_ : List Nat) => []) ns) [] (And.intro (@rfl Nat 0) (And.intro ((show (Value.tuple #[(Value.slice (fromA q.wa q.wc 8 1) ((8 + x1.2) - 8) (q.wc - 8)), (Value.bool (selB true (selB (decide (8 + ((8 + x1.2) - 8) ≤ q.wn)) (sameS q.wf (8 + ((8 + x1.2) - 8)) (frF ((8 + x1.2) - 8) (fun i => q.wf (i + 8))) (8 + ((8 + x1.2) - 8))) false) false))]) = Value.tuple #[fsV q, Value.bool (fsOk q.wf q.wn)] from by have e5 := (be_end B0 B1 h2); rw [fs_in (by omega) (by omega), ← e5]; simp only [slqV, bytF, bytT, selB_and, Nat.add_sub_cancel_left, Bool.true_and]; rw [decide_eq_true (by omega)]; simp)) (@rfl (List (Option Blk)) [])))))))))) (show (decide ((q.wn - 8) < x1.2)) = false from by have e5 := (be_end B0 B1 h2); simp; omega)))))))))))) (show (decide (q.wn < 8)) = false from by simp; omega)))))
theorem first_fam (q : BytL) (hq : OkB q) : RunsF (famTB q) Tryd.prog 26 [slqV q] [] 0 (fun _ => .tuple #[fsV q, .bool (fsOk q.wf q.wn)]) (fun _ => []) := by
  by_cases h1 : q.wn < 8
  · exact first_A q hq h1
  · by_cases h2 : be4 q.wf ≤ q.wn - 8
    · by_cases h3 : be4 q.wf ≤ 4000
      · exact first_D q hq ⟨by omega, h2, h3⟩
      · exact first_C q hq ⟨by omega, h2, by omega⟩
    · exact first_B q hq ⟨by omega, by omega⟩
theorem clone_nn (q : BytL) (hq : OkB q) (ha : q.wa.isNone = false) (hl : q.wn ≤ 140737488355328) : RunsF (famB q) Tryd.prog 22 [slqV q] [] 2 (fun ns => .slice (some ⟨ns.getD 0 0, 0, none⟩) q.wn (q.wn + ns.getD 1 0)) (fun ns => [some ⟨ns.getD 0 0, true, 0, spr (q.wn + ns.getD 1 0) q.wn (fun k => u8 (q.wf k)) (u8 0)⟩]) := by
  have h := (clone_gen q hq hl).toF (bs := [])
  have e2 : ∀ a r, clG q a r = ⟨false, a, q.wn, r, q.wf⟩ := fun a r => by unfold clG; rw [ha] <;> rfl
  simp only [e2] at h
  exact h
theorem agg22 : AggC Tryd.prog 22 [Value.slice none 0 0] 1 24 := aggC_of (z := .slice none 0 0) (by kernel_rfl) rfl rfl (by decide)
end Go.Proofs.YtagbdahcopkpjaaDoor
end
section
namespace Go.Eng
open Go.RowKit Go.WideShapes Go.ChangeShapes Go.ChangeAt Go.Deep
set_option linter.unusedSimpArgs false
set_option linter.unusedVariables false
set_option maxRecDepth 100000
def tzP : Nat → Nat → Nat
  | 0, _ => 0
  | k + 1, n => if n % 2 = 0 then tzP k (n / 2) + 1 else 0
theorem tzP_pair (y : Nat) : ∀ (x fuel : Nat), x < fuel → tzP fuel (2 ^ x * (2 * y + 1)) = x
  | 0, fuel + 1, _ => by
    unfold tzP; rw [if_neg (by omega)]
  | x + 1, fuel + 1, h => by
    have e : 2 ^ (x + 1) * (2 * y + 1) = 2 * (2 ^ x * (2 * y + 1)) := by rw [Nat.pow_succ, Nat.mul_comm (2 ^ x) 2, Nat.mul_assoc]
    unfold tzP
    rw [e, if_pos (by omega), Nat.mul_div_cancel_left _ (by omega), tzP_pair y x fuel (by omega)]
def un1 (n : Nat) : Nat := tzP n n
def un2 (n : Nat) : Nat := n / 2 ^ un1 n / 2
theorem un1_pair (x y : Nat) : un1 (2 ^ x * (2 * y + 1)) = x := by
  refine tzP_pair y x _ ?_
  have h1 := Nat.lt_two_pow_self (n := x)
  have h2 : 2 ^ x * 1 ≤ 2 ^ x * (2 * y + 1) := Nat.mul_le_mul_left _ (by omega)
  omega
theorem un2_pair (x y : Nat) : un2 (2 ^ x * (2 * y + 1)) = y := by
  unfold un2
  rw [un1_pair, Nat.mul_div_cancel_left _ (Nat.two_pow_pos x)]
  omega
def decL : Nat → Nat → Nat
  | c, 0 => un1 c
  | c, i + 1 => decL (un2 c) i
def codL : Nat → (Nat → Nat) → Nat
  | 0, _ => 0
  | n + 1, f => 2 ^ f 0 * (2 * codL n (fun i => f (i + 1)) + 1)
theorem decL_codL : ∀ (n : Nat) (f : Nat → Nat) (i : Nat), i < n → decL (codL n f) i = f i
  | n + 1, f, 0, _ => un1_pair _ _
  | n + 1, f, i + 1, h => by
    show decL (un2 (2 ^ f 0 * (2 * codL n (fun i => f (i + 1)) + 1))) i = _
    rw [un2_pair, decL_codL n _ i (by omega)]
def pcod (c k x : Nat) : Nat := codL (k + 1) fun i => if i < k then decL c i else x
theorem pcod_old {c k x i : Nat} (h : i < k) : decL (pcod c k x) i = decL c i := by
  unfold pcod; rw [decL_codL _ _ _ (by omega), if_pos h]
theorem pcod_new (c k x : Nat) : decL (pcod c k x) k = x := by
  unfold pcod; rw [decL_codL _ _ _ (by omega), if_neg (by omega)]
def slqC (q : BytL) : List Value := [slqV q]
theorem slqC_ok (q : BytL) : (slqC q).length = 1 ∧ (slqC q).all Value.oneCell' = true := ⟨rfl, rfl⟩
section
variable {L : Nat → Nat} {f : Nat → Nat → UInt8}
def elF (c d : Nat) (L : Nat → Nat) (f : Nat → Nat → UInt8) (k : Nat) : BytL := bytO (decL c k) (L k) (L k + decL d k) (f k)
def sprP (n r : Nat) (g : Nat → UInt8) : Piece := .row (n + r) 1 fun k => [if k < n then u8 (g k) else u8 0]
def plG (c d : Nat) (L : Nat → Nat) (f : Nat → Nat → UInt8) (k : Nat) : Option (Nat × Piece) := some (decL c k, sprP (L k) (decL d k) (f k))
def plO (n c d : Nat) (L : Nat → Nat) (f : Nat → Nat → UInt8) : Option Blk := match n with
  | 0 => none
  | m + 1 => some ⟨decL c m, true, 0, .pile (m + 1) (plG c d L f)⟩
theorem plO_succ (n c d : Nat) : plO (n + 1) c d L f = some ⟨decL c n, true, 0, .pile (n + 1) (plG c d L f)⟩ := rfl
theorem pack_push {k c d n1 n2 : Nat} {x : BytL} (hL : x.wn = L k) (hf : x.wf = f k) :
    PackOk (plO k c d L f) ⟨n1, true, 0, spr (x.wn + n2) x.wn (fun j => u8 (x.wf j)) (u8 0)⟩ (k + 1) (plG (pcod c k n1) (pcod d k n2) L f) := by
  intro i j pc hi hg
  injection hg with hg
  injection hg with h1 h2
  by_cases hik : i < k
  · left
    cases k with
    | zero => omega
    | succ m =>
      refine ⟨_, _, _, i, plO_succ m c d, rfl, rfl, hik, ?_⟩
      rw [← h1, ← h2, pcod_old hik, pcod_old hik]; rfl
  · right
    have : i = k := by omega
    subst this
    refine ⟨by rw [← h1, pcod_new], .inl ?_⟩
    rw [← h2, pcod_new, hL, hf]
    rfl
theorem gs_tellC {α : Type} {C : α → List Value} {zc : List Value} {sz : Nat} {A : Grw α} {S : Nat} {F : Nat → α} (h1 : A.n = S) (h2 : A.z = decide (S = 0)) (h3 : ∀ j, j < S → C (A.f j) = C (F j)) :
    gsV A = gsV (gsOf S F A.nm A.r) ∧ gsE C zc sz A = gsE C zc sz (gsOf S F A.nm A.r) := by
  subst h1
  refine ⟨?_, ?_⟩
  · unfold gsV gsA gsC gsOf
    simp only [h2]
  · unfold gsE gsOf
    rw [h2]
    cases hd : decide (A.n = 0) with
    | true => rfl
    | false =>
      simp only
      congr 2
      unfold sprE
      congr 1
      funext k
      by_cases h : k < A.n
      · rw [if_pos h, if_pos h]; exact h3 k h
      · rw [if_neg h, if_neg h]
def qOf : Value → BytL
  | .slice a n c => ⟨a, n, c, 0, 0, fun _ => 0⟩
  | _ => bytZ none 0
theorem list_push {k c d n1 n2 : Nat} {x : BytL} (hL : x.wn = L k) (hf : x.wf = f k) {A : Grw BytL} (hz : A.z = false) (hn : A.n = k + 1) (hA : A.f = catU (elF c d L f) k fun _ => qOf (.slice (some ⟨n1, 0, none⟩) x.wn (x.wn + n2))) :
    gsV A = gsV (gsOf (k + 1) (elF (pcod c k n1) (pcod d k n2) L f) A.nm A.r) ∧ gsE slqC [Value.slice none 0 0] 1 A = gsE slqC [Value.slice none 0 0] 1 (gsOf (k + 1) (elF (pcod c k n1) (pcod d k n2) L f) A.nm A.r) :=
  gs_tellC hn (by rw [hz, decide_eq_false (by omega)]) fun j hj => by
    rw [hA]
    unfold catU
    by_cases h : j < k
    · rw [if_pos h]; unfold elF; rw [pcod_old h, pcod_old h]
    · have : j = k := by omega
      subst this
      rw [if_neg h]; unfold elF; rw [pcod_new, pcod_new, ← hL]
      rfl
end
theorem lm_nones (l : List (Option Blk)) : listMem (l ++ [none, none]) = listMem l := by
  funext p
  unfold listMem
  rcases Nat.lt_or_ge p l.length with h | h
  · rw [List.getElem?_append_left h]
  · rw [List.getElem?_append_right h, List.getElem?_eq_none h]
    rcases h2 : p - l.length with _ | _ | k <;> rfl
theorem RunsO.nones {F : Blk → Prop} {P : Program} {f : FuncId} {args : List Value} {a b c d : Option Blk} {k : Nat} {v : List Nat → Value} {out : List Nat → List (Option Blk)} (h : RunsO F P f args [a, b, c, d, none, none] k v out) : RunsO F P f args [a, b, c, d] k v out := by
  intro w hm ha hF
  have e := lm_nones [a, b, c, d]
  have := h w (by rw [show ([a, b, c, d, none, none] : List (Option Blk)) = [a, b, c, d] ++ [none, none] from rfl, e]; exact hm) (by rw [show ([a, b, c, d, none, none] : List (Option Blk)) = [a, b, c, d] ++ [none, none] from rfl, e]; exact ha) (by rw [show ([a, b, c, d, none, none] : List (Option Blk)) = [a, b, c, d] ++ [none, none] from rfl, e]; exact hF)
  rw [show ([a, b, c, d, none, none] : List (Option Blk)) = [a, b, c, d] ++ [none, none] from rfl, e] at this
  exact this
end Go.Eng
end
section
namespace Go.Eng
open Go.RowKit Go.WideShapes Go.ChangeShapes Go.ChangeAt Go.Deep
set_option linter.unusedSimpArgs false
set_option linter.unusedVariables false
set_option maxRecDepth 100000
def atK (f : Nat → UInt8) : Nat → Nat
  | 0 => 0
  | k + 1 => atK f k + (8 + be4 fun i => f (i + atK f k))
def jL (f : Nat → UInt8) (k : Nat) : Nat := be4 fun i => f (i + atK f k)
def jf (f : Nat → UInt8) (k : Nat) : Nat → UInt8 := fun i => f (i + 8 + atK f k)
def okK (f : Nat → UInt8) (n k : Nat) : Bool := fsOk (fun i => f (i + atK f k)) (n - atK f k)
def nRk (f : Nat → UInt8) (n : Nat) : Nat → Nat → Nat
  | 0, k => k
  | u + 1, k => if okK f n k then nRk f n u (k + 1) else k
def nR (f : Nat → UInt8) (n : Nat) : Nat := nRk f n (n + 1) 0
theorem nRk_eq {f : Nat → UInt8} {n k : Nat} (h1 : ∀ j, j < k → okK f n j = true) (h2 : okK f n k = false) : ∀ (d u : Nat), d ≤ k → k - d < u → nRk f n u d = k
  | d, u + 1, hd, hu => by
    unfold nRk
    by_cases h : d < k
    · rw [if_pos (h1 d h)]
      exact nRk_eq h1 h2 (d + 1) u (by omega) (by omega)
    · have : d = k := by omega
      subst this
      rw [h2]; rfl
  termination_by d _ _ _ => k - d
theorem nR_eq {f : Nat → UInt8} {n k : Nat} (h1 : ∀ j, j < k → okK f n j = true) (h2 : okK f n k = false) (hk : k ≤ n) : k = nR f n := (nRk_eq h1 h2 0 (n + 1) (Nat.zero_le _) (by omega)).symm
theorem okK_len {f : Nat → UInt8} {n k : Nat} (h : okK f n k = true) : 8 ≤ n - atK f k ∧ jL f k ≤ n - atK f k - 8 ∧ jL f k ≤ 4000 := by
  unfold okK fsOk at h
  exact of_decide_eq_true (Bool.and_eq_true_iff.1 h).1
theorem okK_next {f : Nat → UInt8} {n k : Nat} (h : okK f n k = true) : atK f (k + 1) ≤ n ∧ atK f (k + 1) = atK f k + (8 + jL f k) := by
  have := okK_len h
  refine ⟨?_, rfl⟩
  show atK f k + (8 + jL f k) ≤ n
  omega
theorem okK_all {f : Nat → UInt8} {n k : Nat} (h : ∀ j, j < k → okK f n j = true) : atK f k ≤ n ∧ 8 * k ≤ atK f k := by
  induction k with
  | zero => exact ⟨Nat.zero_le _, Nat.zero_le _⟩
  | succ k ih =>
    obtain ⟨h1, h2⟩ := ih fun j hj => h j (by omega)
    obtain ⟨h3, h4⟩ := okK_next (h k (by omega))
    refine ⟨h3, ?_⟩
    omega
theorem nR_spec (f : Nat → UInt8) (n : Nat) : (∀ j, j < nR f n → okK f n j = true) ∧ okK f n (nR f n) = false := by
  have key : ∀ u k, (∀ j, j < k → okK f n j = true) → n + 1 ≤ u + k → (∀ j, j < nRk f n u k → okK f n j = true) ∧ okK f n (nRk f n u k) = false := by
    intro u
    induction u with
    | zero =>
      intro k h hu
      exfalso
      have := okK_all h
      omega
    | succ u ih =>
      intro k h hu
      unfold nRk
      by_cases hk : okK f n k = true
      · rw [if_pos hk]
        exact ih (k + 1) (fun j hj => by
          by_cases hjk : j < k
          · exact h j hjk
          · have : j = k := by omega
            subst this; exact hk) (by omega)
      · rw [if_neg hk]
        exact ⟨h, by simpa using hk⟩
  exact key (n + 1) 0 (fun j hj => absurd hj (by omega)) (by omega)
theorem nR_good (f : Nat → UInt8) (n : Nat) : atK f (nR f n) ≤ n ∧ 8 * nR f n ≤ atK f (nR f n) := okK_all (nR_spec f n).1
def sfx (q : BytL) (A : Option Addr) (m C a : Nat) : BytL := ⟨A, m, C, q.wb, q.wo + a, fun i => q.wf (i + a)⟩
section
variable {q : BytL} {A : Option Addr} {m C a : Nat}
theorem sfx_ok (h1 : m ≤ C) (h2 : 0 < m → A = some ⟨q.wb, q.wo + a, none⟩) (h3 : m ≤ 9223372036854775807) : OkB (sfx q A m C a) := ⟨h1, h2, h3⟩
theorem sfx_sh {F : Blk → Prop} (hm : m = q.wn - a) (ha : a ≤ q.wn) (H : SubH (famB q) F) : SubH (famB (sfx q A m C a)) F := fun w hF x hx => by
  obtain ⟨h0, rfl⟩ := hx
  have h0' : 0 < m := h0
  have h1 := (H w hF (bytB q) ⟨by omega, rfl⟩).1
  have h2 := tabU_tail h1 ha
  subst hm
  exact ⟨h2, rfl⟩
end
theorem fsV_ok {q : BytL} (h : fsOk q.wf q.wn = true) : fsV q = slqV (bytF (bytT q (8 + be4 q.wf)) 8) := by
  unfold fsOk at h
  have := of_decide_eq_true (Bool.and_eq_true_iff.1 h).1
  exact if_pos ⟨this.1, this.2.1⟩
theorem fs_len {q : BytL} (h : fsOk q.wf q.wn = true) : 8 ≤ q.wn ∧ be4 q.wf ≤ q.wn - 8 ∧ be4 q.wf ≤ 4000 := by
  unfold fsOk at h
  exact of_decide_eq_true (Bool.and_eq_true_iff.1 h).1
theorem part_some {q : BytL} (hq : OkB q) (h : 8 ≤ q.wn) (n : Nat) : (bytF (bytT q n) 8).wa.isNone = false := by
  show (fromA q.wa q.wc 8 1).isNone = false
  rw [hq.ad (by omega)]
  unfold fromA
  split <;> rfl
theorem suf_addr {wb wo C m a n : Nat} {A : Option Addr} (h1 : m ≤ C) (h2 : 0 < m → A = some ⟨wb, wo + a, none⟩) (hn : n ≤ m) : 0 < m - n → fromA A C n 1 = some ⟨wb, wo + (a + n), none⟩ := fun h => by
  rw [h2 (by omega), fromA_at (by omega)]
  congr 2
  omega
section
variable {q : BytL} {A : Option Addr} {m C a k : Nat}
theorem jr_len (h : a = atK q.wf k) : (bytF (bytT (sfx q A m C a) (8 + be4 fun i => q.wf (i + a))) 8).wn = jL q.wf k := by
  subst h
  show 8 + be4 (fun i => q.wf (i + atK q.wf k)) - 8 = _
  rw [Nat.add_sub_cancel_left]; rfl
theorem jr_row (h : a = atK q.wf k) : (bytF (bytT (sfx q A m C a) (8 + be4 fun i => q.wf (i + a))) 8).wf = jf q.wf k := by
  subst h; rfl
theorem jr_step {a' m' C' n : Nat} {A' : Option Addr} (B0 : a = atK q.wf k) (B1 : a ≤ q.wn) (B2 : m = q.wn - a) (B3 : m ≤ C) (B4 : 0 < m → A = some ⟨q.wb, q.wo + a, none⟩) (B5 : ∀ j, j < k → okK q.wf q.wn j = true) (B6 : 8 * k ≤ a)
    (h : fsOk (fun i => q.wf (i + a)) m = true) (hn : n = 8 + (8 + be4 (fun i => q.wf (i + a)) - 8)) (ha : a' = a + n) (hm : m' = m - n) (hC : C' = C - n) (hA : A' = fromA A C n 1) :
    (a' = atK q.wf (k + 1) ∧ a' ≤ q.wn ∧ m' = q.wn - a' ∧ m' ≤ C' ∧ (0 < m' → A' = some ⟨q.wb, q.wo + a', none⟩) ∧ (∀ j, j < k + 1 → okK q.wf q.wn j = true) ∧ 8 * (k + 1) ≤ a') ∧ q.wn - a' < q.wn - a := by
  have hk : okK q.wf q.wn k = true := by unfold okK; rw [← B0, ← B2]; exact h
  obtain ⟨h1, h2⟩ := okK_next hk
  have h3 := okK_len hk
  rw [← B0] at h2 h3
  have e : n = 8 + jL q.wf k := by rw [hn, Nat.add_sub_cancel_left]; unfold jL; rw [← B0]
  subst ha; subst hm; subst hC; subst hA
  refine ⟨⟨by rw [e, h2], by omega, by omega, by omega, suf_addr B3 B4 (by omega), fun j hj => ?_, by omega⟩, by omega⟩
  by_cases hjk : j < k
  · exact B5 j hjk
  · have : j = k := by omega
    subst this; exact hk
theorem jr_end (B0 : a = atK q.wf k) (B1 : a ≤ q.wn) (B2 : m = q.wn - a) (B5 : ∀ j, j < k → okK q.wf q.wn j = true) (B6 : 8 * k ≤ a) (h : fsOk (fun i => q.wf (i + a)) m = false) : k = nR q.wf q.wn ∧ a = atK q.wf (nR q.wf q.wn) := by
  have e : k = nR q.wf q.wn := nR_eq B5 (by unfold okK; rw [← B0, ← B2]; exact h) (by omega)
  exact ⟨e, by rw [← e]; exact B0⟩
end
def four (a b c d : UInt8) : Nat → UInt8
  | 0 => a
  | 1 => b
  | 2 => c
  | _ => d
def famSS (a b : BytS) (z : Blk) : Prop := famS a z ∨ famS b z
theorem ss_el {a b : BytS} {i j : Nat} (hi : i < a.wn) (hj : j < b.wn) : ∀ z, famBB (a.wf i) (b.wf j) z → famSS a b z := fun z hz => hz.elim (fun h => .inl (.inr ⟨i, hi, h⟩)) (fun h => .inr (.inr ⟨j, hj, h⟩))
def elS (a b : BytS) (i : Nat) : Bool := sameS (a.wf i).wf (a.wf i).wn (b.wf i).wf (b.wf i).wn
def listsB (a b : BytS) : Bool := decide (a.wn = b.wn ∧ ∀ i, i < a.wn → elS a b i = true)
theorem lists_len {a b : BytS} (h : a.wn ≠ b.wn) : false = listsB a b := (decide_eq_false fun e => h e.1).symm
theorem lists_not {a b : BytS} {i : Nat} (hi : i < a.wn) (h : (!elS a b i) = true) : false = listsB a b := (decide_eq_false fun e => by have := e.2 i hi; rw [this] at h; cases h).symm
theorem lists_yes {a b : BytS} {i : Nat} (hn : a.wn = b.wn) (hi : i = a.wn) (h : ∀ k, k < i → elS a b k = true) : true = listsB a b := (decide_eq_true ⟨hn, fun k hk => h k (by omega)⟩).symm
theorem lists_next {a b : BytS} {i : Nat} (h : ∀ k, k < i → elS a b k = true) (he : (!elS a b i) = false) : ∀ k, k < i + 1 → elS a b k = true := fun k hk => by
  by_cases hki : k < i
  · exact h k hki
  · have : k = i := by omega
    subst this; simpa using he
section
variable {q : BytL} {a k : Nat}
end
end Go.Eng
end
section
namespace Go.Proofs.YtagbdahcopkpjaaDoor
open Go Go.Eng
set_option linter.unusedVariables false
set_option linter.unusedSimpArgs false
set_option maxRecDepth 100000
set_option maxHeartbeats 1000000
noncomputable def repC : Code := rfC 0 Tryd.f9.body
noncomputable def repL (l D : Nat) (fn : FuncId) (tm : Array Value) : Blk := loopB l (recL .ready none fn tm (rfP repC) (rfA repC) (rfB repC) D)
theorem rep_y {F : Blk → Prop} {l D : Nat} {fn : FuncId} {tm : Array Value} (sx lc gc k c d nm r g : Nat) (L : Nat → Nat) (f : Nat → Nat → UInt8) (x : BytL) (htm : TmOk 20 (fun t => Go.Eng.look [(2, .v (ptr lc 0)), (3, .v (ptr gc 0)), (6, .v (Value.func (.func 25) #[] #[(ptr sx 0)]))] t) tm) (hx : OkB x) (ha : x.wa.isNone = false) (hl : x.wn ≤ 4000) (hk : k ≤ 1000000000) (hg : g ≤ 1000000000000) (hL : x.wn = L k) (hf : x.wf = f k) (hS : SubH (famB x) F) (hN : NmF (famB x) F) : YRuns F Tryd.prog l [(Value.slice x.wa x.wn x.wc)] (some (loopB l (recL .ready none fn tm (rfP repC) (rfA repC) (rfB repC) D)) :: [some ⟨lc, true, 0, (.lit [(gsV (gsOf k (elF c d L f) nm r))])⟩, some ⟨gc, true, 0, (.lit [(nat g)])⟩, (gsE slqC [Value.slice none 0 0] 1 (gsOf k (elF c d L f) nm r)), (plO k c d L f)]) 4 (fun (ns : List Nat) => Value.bool true) (fun (ns : List Nat) => [some (loopB l (recL .ready none fn tm (rfP repC) (rfA repC) (rfB repC) D)), some ⟨lc, true, 0, (.lit [(gsV (gsOf (k + 1) (elF (pcod c k (ns.getD 0 0)) (pcod d k (ns.getD 1 0)) L f) (ns.getD 2 0) (ns.getD 3 0)))])⟩, some ⟨gc, true, 0, (.lit [(nat (g + (8 + x.wn)))])⟩, (gsE slqC [Value.slice none 0 0] 1 (gsOf (k + 1) (elF (pcod c k (ns.getD 0 0)) (pcod d k (ns.getD 1 0)) L f) (ns.getD 2 0) (ns.getD 3 0))), (plO (k + 1) (pcod c k (ns.getD 0 0)) (pcod d k (ns.getD 1 0)) L f)]) :=
  yruns_of_ev mix htm (of_decide_eq_true (by kernel_rfl)) (by kernel_rfl) (of_decide_eq_true (by kernel_rfl)) (by kernel_rfl) (by kernel_rfl) 400 (.reg [(0, .g)] (.regn [(0, (.ld 0 (.lit 0))), (1, .g), (2, (.callF [] 2 1 (fun ns => Value.slice (some ⟨ns.getD 0 0, 0, none⟩) x.wn (x.wn + ns.getD 1 0)) (fun ns => [some ⟨(ns.getD 0 0), true, 0, (spr (x.wn + (ns.getD 1 0)) x.wn (fun k => u8 (x.wf k)) (u8 0))⟩]))), (3, .bsl), (4, (.othOB [(2, false), (5, true)] 2 0 (fun ns => gsV (Grw.mk false (ns.getD 0 0) (k + 1) (ns.getD 1 0) (catU ((gsOf k (elF c d L f) nm r).f) k ((gsOf k (elF c d L f) nm r).f)))) (fun bs ns => [(gsE slqC [Value.slice none 0 0] 1 (Grw.mk false (ns.getD 0 0) (k + 1) (ns.getD 1 0) (catU ((gsOf k (elF c d L f) nm r).f) k (fun _ => qOf (cellO bs 1))))), none]))), (5, (.st 0 (.lit 0)))] (more (fun n1 => more (fun n2 => more (fun n3 => more (fun n4 => more (fun n5 => fun _ => (.pack 4 3 (k + 1) (plG (pcod c k n1) (pcod d k n2) L f) (.keep [7, 2, 3, 6, 4, 8, 9, 10, 11, 12] [0, 1, 2, 3] 4 (.told ⟨[(7, .v (Value.slice x.wa x.wn x.wc)), (2, .v (ptr lc 0)), (3, .v (ptr gc 0)), (6, .v (Value.func (.func 25) #[] #[(ptr sx 0)])), (4, .v (Value.slice x.wa x.wn x.wc)), (8, .v (gsV (gsOf k (elF c d L f) nm r))), (9, .v (Value.slice x.wa x.wn x.wc)), (10, .v (Value.slice (some ⟨n1, 0, none⟩) x.wn (x.wn + n2))), (11, .v (Value.slice (some ⟨n3, 0, none⟩) 1 1)), (12, .v (gsV (Grw.mk false n4 (k + 1) n5 (catU ((gsOf k (elF c d L f) nm r).f) k (fun _ => (qOf (Value.slice (some ⟨n1, 0, none⟩) x.wn (x.wn + n2))))))))], [(0, some ⟨lc, true, 0, (.lit [(gsV (gsOf (k + 1) (elF (pcod c k n1) (pcod d k n2) L f) n4 n5))])⟩), (1, some ⟨gc, true, 0, (.lit [(nat g)])⟩), (2, (gsE slqC [Value.slice none 0 0] 1 (gsOf (k + 1) (elF (pcod c k n1) (pcod d k n2) L f) n4 n5))), (3, (plO (k + 1) (pcod c k n1) (pcod d k n2) L f))], 4⟩ (.reg [(0, (.ld 1 (.lit 0))), (1, .g), (2, (.as (nat x.wn))), (3, (.as (nat (8 + x.wn)))), (4, (.as (nat (g + (8 + x.wn))))), (5, (.st 1 (.lit 0)))] .done)))))))))))) [] rfl
    (Eq.mp (by kernel_rfl) (have f0 : x.wn ≤ 4000 := hl; have f1 : k ≤ 1000000000 := hk; have f2 : g ≤ 1000000000000 := hg; And.intro (sk trivial) (fun (n1 n2 n3 n4 n5 : Nat) => And.intro (And.intro (And.intro trivial (ad lc 0)) (sk (And.intro (And.intro trivial (RunsF.lendP hS hN (clone_nn x hx ha (show x.wn ≤ 140737488355328 from by omega)))) (And.intro (And.intro trivial (mk_build (P := Tryd.prog) (t := 24) (e := 22) one22 1 #[(0, (Value.slice (some ⟨n1, 0, none⟩) x.wn (x.wn + n2)))] #[(Value.slice (some ⟨n1, 0, none⟩) x.wn (x.wn + n2))] (by kernel_rfl) (by decide) (by kernel_rfl))) (And.intro (And.intro trivial (mkG_catE (P := Tryd.prog) (t := 24) (ty := 24) (e := 22) (by kernel_rfl) agg22 (gsOf k (elF c d L f) nm r) (gsOf_ok _ _ _ _) slqC_ok (fun _ => (qOf (Value.slice (some ⟨n1, 0, none⟩) x.wn (x.wn + n2)))) 1 (some ⟨n3, 0, none⟩) 1 (some ⟨n3, false, 0, (.lit [(Value.slice (some ⟨n1, 0, none⟩) x.wn (x.wn + n2))])⟩) (fun _ => ⟨_, _, _, _, rfl, rfl, (lit_src (sz := 1) (l := slqC (qOf (Value.slice (some ⟨n1, 0, none⟩) x.wn (x.wn + n2)))) rfl)⟩) (show (k + 1) * 24 ≤ 140737488355328 ∧ k + 1 ≤ 9223372036854775807 from by omega))) (And.intro (And.intro trivial (ad lc 0)) trivial)))))) (And.intro (pack_push (c := c) (d := d) (n1 := n1) (n2 := n2) hL hf) (And.intro (show (⟨[(7, .v (Value.slice x.wa x.wn x.wc)), (2, .v (ptr lc 0)), (3, .v (ptr gc 0)), (6, .v (Value.func (.func 25) #[] #[(ptr sx 0)])), (4, .v (Value.slice x.wa x.wn x.wc)), (8, .v (gsV (gsOf k (elF c d L f) nm r))), (9, .v (Value.slice x.wa x.wn x.wc)), (10, .v (Value.slice (some ⟨n1, 0, none⟩) x.wn (x.wn + n2))), (11, .v (Value.slice (some ⟨n3, 0, none⟩) 1 1)), (12, .v (gsV (Grw.mk false n4 (k + 1) n5 (catU ((gsOf k (elF c d L f) nm r).f) k (fun _ => (qOf (Value.slice (some ⟨n1, 0, none⟩) x.wn (x.wn + n2))))))))], [(0, some ⟨lc, true, 0, (.lit [(gsV (Grw.mk false n4 (k + 1) n5 (catU ((gsOf k (elF c d L f) nm r).f) k (fun _ => (qOf (Value.slice (some ⟨n1, 0, none⟩) x.wn (x.wn + n2)))))))])⟩), (1, some ⟨gc, true, 0, (.lit [(nat g)])⟩), (2, (gsE slqC [Value.slice none 0 0] 1 (Grw.mk false n4 (k + 1) n5 (catU ((gsOf k (elF c d L f) nm r).f) k (fun _ => (qOf (Value.slice (some ⟨n1, 0, none⟩) x.wn (x.wn + n2)))))))), (3, some ⟨n1, true, 0, .pile (k + 1) (plG (pcod c k n1) (pcod d k n2) L f)⟩)], 4⟩ : St) = ⟨[(7, .v (Value.slice x.wa x.wn x.wc)), (2, .v (ptr lc 0)), (3, .v (ptr gc 0)), (6, .v (Value.func (.func 25) #[] #[(ptr sx 0)])), (4, .v (Value.slice x.wa x.wn x.wc)), (8, .v (gsV (gsOf k (elF c d L f) nm r))), (9, .v (Value.slice x.wa x.wn x.wc)), (10, .v (Value.slice (some ⟨n1, 0, none⟩) x.wn (x.wn + n2))), (11, .v (Value.slice (some ⟨n3, 0, none⟩) 1 1)), (12, .v (gsV (Grw.mk false n4 (k + 1) n5 (catU ((gsOf k (elF c d L f) nm r).f) k (fun _ => (qOf (Value.slice (some ⟨n1, 0, none⟩) x.wn (x.wn + n2))))))))], [(0, some ⟨lc, true, 0, (.lit [(gsV (gsOf (k + 1) (elF (pcod c k n1) (pcod d k n2) L f) n4 n5))])⟩), (1, some ⟨gc, true, 0, (.lit [(nat g)])⟩), (2, (gsE slqC [Value.slice none 0 0] 1 (gsOf (k + 1) (elF (pcod c k n1) (pcod d k n2) L f) n4 n5))), (3, (plO (k + 1) (pcod c k n1) (pcod d k n2) L f))], 4⟩ from by rw [plO_succ, pcod_new, (list_push (c := c) (d := d) (n1 := n1) (n2 := n2) hL hf (A := Grw.mk false n4 (k + 1) n5 (catU ((gsOf k (elF c d L f) nm r).f) k (fun _ => (qOf (Value.slice (some ⟨n1, 0, none⟩) x.wn (x.wn + n2)))))) rfl rfl rfl).1, (list_push (c := c) (d := d) (n1 := n1) (n2 := n2) hL hf (A := Grw.mk false n4 (k + 1) n5 (catU ((gsOf k (elF c d L f) nm r).f) k (fun _ => (qOf (Value.slice (some ⟨n1, 0, none⟩) x.wn (x.wn + n2)))))) rfl rfl rfl).2]) (And.intro (And.intro (And.intro trivial (ad gc 0)) (sk (And.intro (And.intro trivial (@is_len Tryd.prog 22 5 (.tmp 14) (by kernel_rfl) x.wa x.wn x.wc)) (And.intro (And.intro trivial (@is_addn Tryd.prog 3 3 (.const (.int .i64 8)) (.tmp 15)  8 x.wn (show 8 + x.wn ≤ 9223372036854775807 from by omega))) (And.intro (And.intro trivial (@is_addn Tryd.prog 3 3 (.tmp 13) (.tmp 16)  g (8 + x.wn) (show g + (8 + x.wn) ≤ 9223372036854775807 from by omega))) (And.intro (And.intro trivial (ad gc 0)) trivial)))))) (@Exists.intro (List Nat) (fun (ns : List Nat) => ns.length = 4 ∧ Value.bool true = (fun (ns : List Nat) => Value.bool true) ns ∧ ([some (loopB l (recL .ready none fn tm (rfP repC) (rfA repC) (rfB repC) D)), some ⟨lc, true, 0, (.lit [(gsV (gsOf (k + 1) (elF (pcod c k n1) (pcod d k n2) L f) n4 n5))])⟩, some ⟨gc, true, 0, (.lit [(nat (g + (8 + x.wn)))])⟩, (gsE slqC [Value.slice none 0 0] 1 (gsOf (k + 1) (elF (pcod c k n1) (pcod d k n2) L f) n4 n5)), (plO (k + 1) (pcod c k n1) (pcod d k n2) L f)] : List (Option Blk)) = (fun (ns : List Nat) => [some (loopB l (recL .ready none fn tm (rfP repC) (rfA repC) (rfB repC) D)), some ⟨lc, true, 0, (.lit [(gsV (gsOf (k + 1) (elF (pcod c k (ns.getD 0 0)) (pcod d k (ns.getD 1 0)) L f) (ns.getD 2 0) (ns.getD 3 0)))])⟩, some ⟨gc, true, 0, (.lit [(nat (g + (8 + x.wn)))])⟩, (gsE slqC [Value.slice none 0 0] 1 (gsOf (k + 1) (elF (pcod c k (ns.getD 0 0)) (pcod d k (ns.getD 1 0)) L f) (ns.getD 2 0) (ns.getD 3 0))), (plO (k + 1) (pcod c k (ns.getD 0 0)) (pcod d k (ns.getD 1 0)) L f)]) ns) [n1, n2, n4, n5] (And.intro (@rfl Nat 4) (And.intro (@rfl Value (Value.bool true)) (@rfl (List (Option Blk)) [some (loopB l (recL .ready none fn tm (rfP repC) (rfA repC) (rfB repC) D)), some ⟨lc, true, 0, (.lit [(gsV (gsOf (k + 1) (elF (pcod c k n1) (pcod d k n2) L f) n4 n5))])⟩, some ⟨gc, true, 0, (.lit [(nat (g + (8 + x.wn)))])⟩, (gsE slqC [Value.slice none 0 0] 1 (gsOf (k + 1) (elF (pcod c k n1) (pcod d k n2) L f) n4 n5)), (plO (k + 1) (pcod c k n1) (pcod d k n2) L f)]))))))))))
noncomputable def iter_run_S1 (l : Nat) (D : Nat) (fn : FuncId) (tm : Array Value) (sx : Nat) (lc : Nat) (gc : Nat) (c0 : Nat) (d0 : Nat) (nm0 : Nat) (r0 : Nat) (q : BytL) (x1 : Nat × (Option Addr) × Nat × Nat × Nat × Nat × Nat × Nat × Nat) : St := ⟨[(0, .v (yv l)), (1, .v (ptr sx 0))], [(0, some (repL l D fn tm)), (1, some ⟨sx, true, 0, (.lit [(Value.slice x1.2.1 x1.2.2.1 x1.2.2.2.1)])⟩), (2, some ⟨lc, true, 0, (.lit [(gsV (gsOf x1.1 (elF x1.2.2.2.2.2.1 x1.2.2.2.2.2.2.1 (jL q.wf) (jf q.wf)) x1.2.2.2.2.2.2.2.1 x1.2.2.2.2.2.2.2.2))])⟩), (3, some ⟨gc, true, 0, (.lit [(nat x1.2.2.2.2.1)])⟩), (4, (gsE slqC [Value.slice none 0 0] 1 (gsOf x1.1 (elF x1.2.2.2.2.2.1 x1.2.2.2.2.2.2.1 (jL q.wf) (jf q.wf)) x1.2.2.2.2.2.2.2.1 x1.2.2.2.2.2.2.2.2))), (5, (plO x1.1 x1.2.2.2.2.2.1 x1.2.2.2.2.2.2.1 (jL q.wf) (jf q.wf)))], 6⟩
def iter_run_R1 (l : Nat) (D : Nat) (fn : FuncId) (tm : Array Value) (sx : Nat) (lc : Nat) (gc : Nat) (c0 : Nat) (d0 : Nat) (nm0 : Nat) (r0 : Nat) (q : BytL) (x1 : Nat × (Option Addr) × Nat × Nat × Nat × Nat × Nat × Nat × Nat) : Prop := (x1.2.2.2.2.1 = atK q.wf x1.1) ∧ (x1.2.2.2.2.1 ≤ q.wn) ∧ (x1.2.2.1 = q.wn - x1.2.2.2.2.1) ∧ (x1.2.2.1 ≤ x1.2.2.2.1) ∧ (0 < x1.2.2.1 → x1.2.1 = some ⟨q.wb, q.wo + x1.2.2.2.2.1, none⟩) ∧ (∀ j, j < x1.1 → okK q.wf q.wn j = true) ∧ (8 * x1.1 ≤ x1.2.2.2.2.1)
def iter_run_mu1 (l : Nat) (D : Nat) (fn : FuncId) (tm : Array Value) (sx : Nat) (lc : Nat) (gc : Nat) (c0 : Nat) (d0 : Nat) (nm0 : Nat) (r0 : Nat) (q : BytL) (x1 : Nat × (Option Addr) × Nat × Nat × Nat × Nat × Nat × Nat × Nat) : Nat := q.wn - x1.2.2.2.2.1
theorem iter_run (l D : Nat) (fn : FuncId) (tm : Array Value) (sx lc gc c0 d0 nm0 r0 : Nat) (q : BytL) (hq : OkB q) (hl : q.wn ≤ 1000000000) (htm : TmOk 20 (fun t => Go.Eng.look [(2, .v (ptr lc 0)), (3, .v (ptr gc 0)), (6, .v (Value.func (.func 25) #[] #[(ptr sx 0)]))] t) tm) : RunsO (famTB q) Tryd.prog 25 [(yv l), (ptr sx 0)] [some (repL l D fn tm), some ⟨sx, true, 0, (.lit [(Value.slice q.wa q.wn q.wc)])⟩, some ⟨lc, true, 0, (.lit [(gsV (gsOf 0 (elF c0 d0 (jL q.wf) (jf q.wf)) nm0 r0))])⟩, some ⟨gc, true, 0, (.lit [(nat 0)])⟩, (gsE slqC [Value.slice none 0 0] 1 (gsOf 0 (elF c0 d0 (jL q.wf) (jf q.wf)) nm0 r0)), (plO 0 c0 d0 (jL q.wf) (jf q.wf))] 4 (fun (ns : List Nat) => (Value.tuple #[])) (fun (ns : List Nat) => [some (repL l D fn tm), none, some ⟨lc, true, 0, (.lit [(gsV (gsOf (nR q.wf q.wn) (elF (ns.getD 0 0) (ns.getD 1 0) (jL q.wf) (jf q.wf)) (ns.getD 2 0) (ns.getD 3 0)))])⟩, some ⟨gc, true, 0, (.lit [(nat (atK q.wf (nR q.wf q.wn)))])⟩, (gsE slqC [Value.slice none 0 0] 1 (gsOf (nR q.wf q.wn) (elF (ns.getD 0 0) (ns.getD 1 0) (jL q.wf) (jf q.wf)) (ns.getD 2 0) (ns.getD 3 0))), (plO (nR q.wf q.wn) (ns.getD 0 0) (ns.getD 1 0) (jL q.wf) (jf q.wf))]) :=
  runsO_of_ev mix Tryd.func25 rfl rfl 400 (.inv [0, 1] [0, 1, 2, 3, 4, 5] 6 (iter_run_R1 l D fn tm sx lc gc c0 d0 nm0 r0 q) (iter_run_S1 l D fn tm sx lc gc c0 d0 nm0 r0 q) (iter_run_mu1 l D fn tm sx lc gc c0 d0 nm0 r0 q) ((0, q.wa, q.wn, q.wc, 0, c0, d0, nm0, r0) : Nat × (Option Addr) × Nat × Nat × Nat × Nat × Nat × Nat × Nat) (fun (x1 : Nat × (Option Addr) × Nat × Nat × Nat × Nat × Nat × Nat × Nat) => (.reg [(0, (.ld 1 (.lit 0))), (1, (.callF [] 0 0 (fun _ => (Value.tuple #[(fsV (sfx q x1.2.1 x1.2.2.1 x1.2.2.2.1 x1.2.2.2.2.1)), (Value.bool (fsOk (fun i => q.wf (i + x1.2.2.2.2.1)) x1.2.2.1))])) (fun _ => []))), (2, .g), (3, .g), (4, .g), (5, .g), (6, .g)] (.both (fsOk (fun i => q.wf (i + x1.2.2.2.2.1)) x1.2.2.1) (.keep [0, 1, 6, 9, 3, 4] [0, 1, 2, 3, 4, 5] 6 (.told ⟨[(0, .v (yv l)), (1, .v (ptr sx 0)), (6, .v (Value.slice x1.2.1 x1.2.2.1 x1.2.2.2.1)), (9, .v (Value.bool true)), (3, .v (Value.slice ((bytF (bytT (sfx q x1.2.1 x1.2.2.1 x1.2.2.2.1 x1.2.2.2.2.1) (8 + be4 (fun i => q.wf (i + x1.2.2.2.2.1)))) 8).wa) (8 + be4 (fun i => q.wf (i + x1.2.2.2.2.1)) - 8) ((bytF (bytT (sfx q x1.2.1 x1.2.2.1 x1.2.2.2.1 x1.2.2.2.2.1) (8 + be4 (fun i => q.wf (i + x1.2.2.2.2.1)))) 8).wc))), (4, .v (Value.bool true))], [(0, some (repL l D fn tm)), (1, some ⟨sx, true, 0, (.lit [(Value.slice x1.2.1 x1.2.2.1 x1.2.2.2.1)])⟩), (2, some ⟨lc, true, 0, (.lit [(gsV (gsOf x1.1 (elF x1.2.2.2.2.2.1 x1.2.2.2.2.2.2.1 (jL q.wf) (jf q.wf)) x1.2.2.2.2.2.2.2.1 x1.2.2.2.2.2.2.2.2))])⟩), (3, some ⟨gc, true, 0, (.lit [(nat x1.2.2.2.2.1)])⟩), (4, (gsE slqC [Value.slice none 0 0] 1 (gsOf x1.1 (elF x1.2.2.2.2.2.1 x1.2.2.2.2.2.2.1 (jL q.wf) (jf q.wf)) x1.2.2.2.2.2.2.2.1 x1.2.2.2.2.2.2.2.2))), (5, (plO x1.1 x1.2.2.2.2.2.1 x1.2.2.2.2.2.2.1 (jL q.wf) (jf q.wf)))], 6⟩ (.keep [0, 1, 6, 9, 3, 4] [0, 1, 2, 3, 4, 5] 6 (.byF (fun (ns : List Nat) => ns.length = 4) (fun _ => Exit.normal) (fun (ns : List Nat) => (⟨[(0, .v (yv l)), (1, .v (ptr sx 0)), (6, .v (Value.slice x1.2.1 x1.2.2.1 x1.2.2.2.1)), (9, .v (Value.bool true)), (3, .v (Value.slice ((bytF (bytT (sfx q x1.2.1 x1.2.2.1 x1.2.2.2.1 x1.2.2.2.2.1) (8 + be4 (fun i => q.wf (i + x1.2.2.2.2.1)))) 8).wa) (8 + be4 (fun i => q.wf (i + x1.2.2.2.2.1)) - 8) ((bytF (bytT (sfx q x1.2.1 x1.2.2.1 x1.2.2.2.1 x1.2.2.2.2.1) (8 + be4 (fun i => q.wf (i + x1.2.2.2.2.1)))) 8).wc))), (4, .v (Value.bool true)), (10, .v (Value.bool true)), (11, .v (Value.bool false)), (12, .v (Value.bool false)), (13, .v (yv l)), (14, .v (Value.slice ((bytF (bytT (sfx q x1.2.1 x1.2.2.1 x1.2.2.2.1 x1.2.2.2.2.1) (8 + be4 (fun i => q.wf (i + x1.2.2.2.2.1)))) 8).wa) (8 + be4 (fun i => q.wf (i + x1.2.2.2.2.1)) - 8) ((bytF (bytT (sfx q x1.2.1 x1.2.2.1 x1.2.2.2.1 x1.2.2.2.2.1) (8 + be4 (fun i => q.wf (i + x1.2.2.2.2.1)))) 8).wc))), (15, .v (Value.bool true)), (16, .v (Value.bool false)), (17, .v (Value.bool false))], [(0, some (repL l D fn tm)), (1, some ⟨sx, true, 0, (.lit [(Value.slice x1.2.1 x1.2.2.1 x1.2.2.2.1)])⟩), (2, some ⟨lc, true, 0, (.lit [(gsV (gsOf (x1.1 + 1) (elF (pcod x1.2.2.2.2.2.1 x1.1 (ns.getD 0 0)) (pcod x1.2.2.2.2.2.2.1 x1.1 (ns.getD 1 0)) (jL q.wf) (jf q.wf)) (ns.getD 2 0) (ns.getD 3 0)))])⟩), (3, some ⟨gc, true, 0, (.lit [(nat (x1.2.2.2.2.1 + (8 + (8 + be4 (fun i => q.wf (i + x1.2.2.2.2.1)) - 8))))])⟩), (4, (gsE slqC [Value.slice none 0 0] 1 (gsOf (x1.1 + 1) (elF (pcod x1.2.2.2.2.2.1 x1.1 (ns.getD 0 0)) (pcod x1.2.2.2.2.2.2.1 x1.1 (ns.getD 1 0)) (jL q.wf) (jf q.wf)) (ns.getD 2 0) (ns.getD 3 0)))), (5, (plO (x1.1 + 1) (pcod x1.2.2.2.2.2.1 x1.1 (ns.getD 0 0)) (pcod x1.2.2.2.2.2.2.1 x1.1 (ns.getD 1 0)) (jL q.wf) (jf q.wf)))], 6⟩ : St)) (fun (ns : List Nat) => (fun (n1 n2 n3 n4 : Nat) => (.no (.reg [(0, (.ld 1 (.lit 0))), (1, .g), (2, (.as (nat (8 + be4 (fun i => q.wf (i + x1.2.2.2.2.1)) - 8)))), (3, (.as (nat (8 + (8 + be4 (fun i => q.wf (i + x1.2.2.2.2.1)) - 8))))), (4, (.as (Value.slice (fromA x1.2.1 x1.2.2.2.1 (8 + (8 + be4 (fun i => q.wf (i + x1.2.2.2.2.1)) - 8)) 1) (x1.2.2.1 - (8 + (8 + be4 (fun i => q.wf (i + x1.2.2.2.2.1)) - 8))) (x1.2.2.2.1 - (8 + (8 + be4 (fun i => q.wf (i + x1.2.2.2.2.1)) - 8)))))), (5, (.st 1 (.lit 0)))] .done))) (ns.getD 0 0) (ns.getD 1 0) (ns.getD 2 0) (ns.getD 3 0)))))) (.keep [0, 1, 6, 9, 4] [0, 2, 3, 4, 5] 6 (.told ⟨[(0, .v (yv l)), (1, .v (ptr sx 0)), (6, .v (Value.slice x1.2.1 x1.2.2.1 x1.2.2.2.1)), (9, .v (Value.bool false)), (4, .v (Value.bool false))], [(0, some (repL l D fn tm)), (2, some ⟨lc, true, 0, (.lit [(gsV (gsOf x1.1 (elF x1.2.2.2.2.2.1 x1.2.2.2.2.2.2.1 (jL q.wf) (jf q.wf)) x1.2.2.2.2.2.2.2.1 x1.2.2.2.2.2.2.2.2))])⟩), (3, some ⟨gc, true, 0, (.lit [(nat x1.2.2.2.2.1)])⟩), (4, (gsE slqC [Value.slice none 0 0] 1 (gsOf x1.1 (elF x1.2.2.2.2.2.1 x1.2.2.2.2.2.2.1 (jL q.wf) (jf q.wf)) x1.2.2.2.2.2.2.2.1 x1.2.2.2.2.2.2.2.2))), (5, (plO x1.1 x1.2.2.2.2.2.1 x1.2.2.2.2.2.2.1 (jL q.wf) (jf q.wf)))], 6⟩ (.reg [(0, .g), (1, .g), (2, .g), (3, .skip), (4, .skip), (5, .skip), (6, .skip), (7, .pk)] (.yes .done)))))))) [] [] rfl
    (have f0 : q.wn ≤ q.wc ∧ q.wn ≤ 9223372036854775807 := ⟨hq.cap, hq.len⟩; have f1 : q.wn ≤ 1000000000 := hl; Eq.mp (by kernel_rfl) (And.intro (show (iter_run_R1 l D fn tm sx lc gc c0 d0 nm0 r0 q) ((0, q.wa, q.wn, q.wc, 0, c0, d0, nm0, r0) : Nat × (Option Addr) × Nat × Nat × Nat × Nat × Nat × Nat × Nat) from (show (0 = atK q.wf 0) ∧ (0 ≤ q.wn) ∧ (q.wn = q.wn - 0) ∧ (q.wn ≤ q.wc) ∧ (0 < q.wn → q.wa = some ⟨q.wb, q.wo + 0, none⟩) ∧ (∀ j, j < 0 → okK q.wf q.wn j = true) ∧ (8 * 0 ≤ 0) from by exact ⟨rfl, Nat.zero_le _, rfl, hq.cap, hq.ad, fun j hj => absurd hj (by omega), by omega⟩)) (And.intro (@rfl St ((iter_run_S1 l D fn tm sx lc gc c0 d0 nm0 r0 q) ((0, q.wa, q.wn, q.wc, 0, c0, d0, nm0, r0) : Nat × (Option Addr) × Nat × Nat × Nat × Nat × Nat × Nat × Nat))) (fun (x1 : Nat × (Option Addr) × Nat × Nat × Nat × Nat × Nat × Nat × Nat) (hx1 : (iter_run_R1 l D fn tm sx lc gc c0 d0 nm0 r0 q) x1) => have B0 : x1.2.2.2.2.1 = atK q.wf x1.1 := hx1.1; have B1 : x1.2.2.2.2.1 ≤ q.wn := hx1.2.1; have B2 : x1.2.2.1 = q.wn - x1.2.2.2.2.1 := hx1.2.2.1; have B3 : x1.2.2.1 ≤ x1.2.2.2.1 := hx1.2.2.2.1; have B4 : 0 < x1.2.2.1 → x1.2.1 = some ⟨q.wb, q.wo + x1.2.2.2.2.1, none⟩ := hx1.2.2.2.2.1; have B5 : ∀ j, j < x1.1 → okK q.wf q.wn j = true := hx1.2.2.2.2.2.1; have B6 : 8 * x1.1 ≤ x1.2.2.2.2.1 := hx1.2.2.2.2.2.2; And.intro (And.intro (And.intro trivial (ad sx 0)) (And.intro (And.intro trivial (RunsF.lendP (sh_TB (fun (x : Blk) (h : famT x) => (Or.inl h : famTB q x)) (sfx_sh B2 B1 (sh_sub (fun z hz => (Or.inr hz : famTB q z))))) (nm_TB (fun (x : Blk) (h : famT x) => (Or.inl h : famTB q x)) (nm_part (b := q) (fun h => by have h2 := B2; simp only [sfx] at h; omega) (nm_sub (fun z hz => (Or.inr hz : famTB q z))))) (first_fam (sfx q x1.2.1 x1.2.2.1 x1.2.2.2.1 x1.2.2.2.2.1) (sfx_ok B3 B4 (by omega))))) (sk (sk (sk (sk (sk trivial))))))) (And.intro (fun (h1 : (fsOk (fun i => q.wf (i + x1.2.2.2.2.1)) x1.2.2.1) = true) => have f9 : (fsOk (fun i => q.wf (i + x1.2.2.2.2.1)) x1.2.2.1) = true := h1; And.intro (show (⟨[(0, .v (yv l)), (1, .v (ptr sx 0)), (6, .v (Value.slice x1.2.1 x1.2.2.1 x1.2.2.2.1)), (9, .v (Value.bool (fsOk (fun i => q.wf (i + x1.2.2.2.2.1)) x1.2.2.1))), (3, .v (fsV (sfx q x1.2.1 x1.2.2.1 x1.2.2.2.1 x1.2.2.2.2.1))), (4, .v (Value.bool (fsOk (fun i => q.wf (i + x1.2.2.2.2.1)) x1.2.2.1)))], [(0, some (repL l D fn tm)), (1, some ⟨sx, true, 0, (.lit [(Value.slice x1.2.1 x1.2.2.1 x1.2.2.2.1)])⟩), (2, some ⟨lc, true, 0, (.lit [(gsV (gsOf x1.1 (elF x1.2.2.2.2.2.1 x1.2.2.2.2.2.2.1 (jL q.wf) (jf q.wf)) x1.2.2.2.2.2.2.2.1 x1.2.2.2.2.2.2.2.2))])⟩), (3, some ⟨gc, true, 0, (.lit [(nat x1.2.2.2.2.1)])⟩), (4, (gsE slqC [Value.slice none 0 0] 1 (gsOf x1.1 (elF x1.2.2.2.2.2.1 x1.2.2.2.2.2.2.1 (jL q.wf) (jf q.wf)) x1.2.2.2.2.2.2.2.1 x1.2.2.2.2.2.2.2.2))), (5, (plO x1.1 x1.2.2.2.2.2.1 x1.2.2.2.2.2.2.1 (jL q.wf) (jf q.wf)))], 6⟩ : St) = ⟨[(0, .v (yv l)), (1, .v (ptr sx 0)), (6, .v (Value.slice x1.2.1 x1.2.2.1 x1.2.2.2.1)), (9, .v (Value.bool true)), (3, .v (Value.slice ((bytF (bytT (sfx q x1.2.1 x1.2.2.1 x1.2.2.2.1 x1.2.2.2.2.1) (8 + be4 (fun i => q.wf (i + x1.2.2.2.2.1)))) 8).wa) (8 + be4 (fun i => q.wf (i + x1.2.2.2.2.1)) - 8) ((bytF (bytT (sfx q x1.2.1 x1.2.2.1 x1.2.2.2.1 x1.2.2.2.2.1) (8 + be4 (fun i => q.wf (i + x1.2.2.2.2.1)))) 8).wc))), (4, .v (Value.bool true))], [(0, some (repL l D fn tm)), (1, some ⟨sx, true, 0, (.lit [(Value.slice x1.2.1 x1.2.2.1 x1.2.2.2.1)])⟩), (2, some ⟨lc, true, 0, (.lit [(gsV (gsOf x1.1 (elF x1.2.2.2.2.2.1 x1.2.2.2.2.2.2.1 (jL q.wf) (jf q.wf)) x1.2.2.2.2.2.2.2.1 x1.2.2.2.2.2.2.2.2))])⟩), (3, some ⟨gc, true, 0, (.lit [(nat x1.2.2.2.2.1)])⟩), (4, (gsE slqC [Value.slice none 0 0] 1 (gsOf x1.1 (elF x1.2.2.2.2.2.1 x1.2.2.2.2.2.2.1 (jL q.wf) (jf q.wf)) x1.2.2.2.2.2.2.2.1 x1.2.2.2.2.2.2.2.2))), (5, (plO x1.1 x1.2.2.2.2.2.1 x1.2.2.2.2.2.2.1 (jL q.wf) (jf q.wf)))], 6⟩ from by rw [fsV_ok (q := (sfx q x1.2.1 x1.2.2.1 x1.2.2.2.1 x1.2.2.2.2.1)) h1, h1] <;> rfl) (And.intro (awp_yld (F := (famTB q)) (P := Tryd.prog) (nt := 23) (c := regC 1 Tryd.f25.body) (s := ⟨[(0, .v (yv l)), (1, .v (ptr sx 0)), (6, .v (Value.slice x1.2.1 x1.2.2.1 x1.2.2.2.1)), (9, .v (Value.bool true)), (3, .v (Value.slice ((bytF (bytT (sfx q x1.2.1 x1.2.2.1 x1.2.2.2.1 x1.2.2.2.2.1) (8 + be4 (fun i => q.wf (i + x1.2.2.2.2.1)))) 8).wa) (8 + be4 (fun i => q.wf (i + x1.2.2.2.2.1)) - 8) ((bytF (bytT (sfx q x1.2.1 x1.2.2.1 x1.2.2.2.1 x1.2.2.2.2.1) (8 + be4 (fun i => q.wf (i + x1.2.2.2.2.1)))) 8).wc))), (4, .v (Value.bool true))], [(0, some (repL l D fn tm)), (1, some ⟨sx, true, 0, (.lit [(Value.slice x1.2.1 x1.2.2.1 x1.2.2.2.1)])⟩), (2, some ⟨lc, true, 0, (.lit [(gsV (gsOf x1.1 (elF x1.2.2.2.2.2.1 x1.2.2.2.2.2.2.1 (jL q.wf) (jf q.wf)) x1.2.2.2.2.2.2.2.1 x1.2.2.2.2.2.2.2.2))])⟩), (3, some ⟨gc, true, 0, (.lit [(nat x1.2.2.2.2.1)])⟩), (4, (gsE slqC [Value.slice none 0 0] 1 (gsOf x1.1 (elF x1.2.2.2.2.2.1 x1.2.2.2.2.2.2.1 (jL q.wf) (jf q.wf)) x1.2.2.2.2.2.2.2.1 x1.2.2.2.2.2.2.2.2))), (5, (plO x1.1 x1.2.2.2.2.2.1 x1.2.2.2.2.2.2.1 (jL q.wf) (jf q.wf)))], 6⟩) [(0, .g), (1, .g), (2, .g), (3, .run .g), (4, .run .g)] 5 [(6, .run .g), (7, .pk)] [(0, false), (2, false), (3, false), (4, false), (5, false)] 4 0 l [(Value.slice ((bytF (bytT (sfx q x1.2.1 x1.2.2.1 x1.2.2.2.1 x1.2.2.2.2.1) (8 + be4 (fun i => q.wf (i + x1.2.2.2.2.1)))) 8).wa) (8 + be4 (fun i => q.wf (i + x1.2.2.2.2.1)) - 8) ((bytF (bytT (sfx q x1.2.1 x1.2.2.1 x1.2.2.2.1 x1.2.2.2.2.1) (8 + be4 (fun i => q.wf (i + x1.2.2.2.2.1)))) 8).wc))] (fun (ns : List Nat) => (Value.bool true)) (fun (ns : List Nat) => [some (repL l D fn tm), some ⟨lc, true, 0, (.lit [(gsV (gsOf (x1.1 + 1) (elF (pcod x1.2.2.2.2.2.1 x1.1 (ns.getD 0 0)) (pcod x1.2.2.2.2.2.2.1 x1.1 (ns.getD 1 0)) (jL q.wf) (jf q.wf)) (ns.getD 2 0) (ns.getD 3 0)))])⟩, some ⟨gc, true, 0, (.lit [(nat (x1.2.2.2.2.1 + (8 + (8 + be4 (fun i => q.wf (i + x1.2.2.2.2.1)) - 8))))])⟩, (gsE slqC [Value.slice none 0 0] 1 (gsOf (x1.1 + 1) (elF (pcod x1.2.2.2.2.2.1 x1.1 (ns.getD 0 0)) (pcod x1.2.2.2.2.2.2.1 x1.1 (ns.getD 1 0)) (jL q.wf) (jf q.wf)) (ns.getD 2 0) (ns.getD 3 0))), (plO (x1.1 + 1) (pcod x1.2.2.2.2.2.1 x1.1 (ns.getD 0 0)) (pcod x1.2.2.2.2.2.2.1 x1.1 (ns.getD 1 0)) (jL q.wf) (jf q.wf))]) [0, 1, 6, 9, 3, 4, 10, 11, 12, 13, 14, 15, 16, 17] [0, 1, 2, 3, 4, 5] 6 (fun (ns : List Nat) => (⟨[(0, .v (yv l)), (1, .v (ptr sx 0)), (6, .v (Value.slice x1.2.1 x1.2.2.1 x1.2.2.2.1)), (9, .v (Value.bool true)), (3, .v (Value.slice ((bytF (bytT (sfx q x1.2.1 x1.2.2.1 x1.2.2.2.1 x1.2.2.2.2.1) (8 + be4 (fun i => q.wf (i + x1.2.2.2.2.1)))) 8).wa) (8 + be4 (fun i => q.wf (i + x1.2.2.2.2.1)) - 8) ((bytF (bytT (sfx q x1.2.1 x1.2.2.1 x1.2.2.2.1 x1.2.2.2.2.1) (8 + be4 (fun i => q.wf (i + x1.2.2.2.2.1)))) 8).wc))), (4, .v (Value.bool true)), (10, .v (Value.bool true)), (11, .v (Value.bool false)), (12, .v (Value.bool false)), (13, .v (yv l)), (14, .v (Value.slice ((bytF (bytT (sfx q x1.2.1 x1.2.2.1 x1.2.2.2.1 x1.2.2.2.2.1) (8 + be4 (fun i => q.wf (i + x1.2.2.2.2.1)))) 8).wa) (8 + be4 (fun i => q.wf (i + x1.2.2.2.2.1)) - 8) ((bytF (bytT (sfx q x1.2.1 x1.2.2.1 x1.2.2.2.1 x1.2.2.2.2.1) (8 + be4 (fun i => q.wf (i + x1.2.2.2.2.1)))) 8).wc))), (15, .v (Value.bool true)), (16, .v (Value.bool false)), (17, .v (Value.bool false))], [(0, some (repL l D fn tm)), (1, some ⟨sx, true, 0, (.lit [(Value.slice x1.2.1 x1.2.2.1 x1.2.2.2.1)])⟩), (2, some ⟨lc, true, 0, (.lit [(gsV (gsOf (x1.1 + 1) (elF (pcod x1.2.2.2.2.2.1 x1.1 (ns.getD 0 0)) (pcod x1.2.2.2.2.2.2.1 x1.1 (ns.getD 1 0)) (jL q.wf) (jf q.wf)) (ns.getD 2 0) (ns.getD 3 0)))])⟩), (3, some ⟨gc, true, 0, (.lit [(nat (x1.2.2.2.2.1 + (8 + (8 + be4 (fun i => q.wf (i + x1.2.2.2.2.1)) - 8))))])⟩), (4, (gsE slqC [Value.slice none 0 0] 1 (gsOf (x1.1 + 1) (elF (pcod x1.2.2.2.2.2.1 x1.1 (ns.getD 0 0)) (pcod x1.2.2.2.2.2.2.1 x1.1 (ns.getD 1 0)) (jL q.wf) (jf q.wf)) (ns.getD 2 0) (ns.getD 3 0)))), (5, (plO (x1.1 + 1) (pcod x1.2.2.2.2.2.1 x1.1 (ns.getD 0 0)) (pcod x1.2.2.2.2.2.2.1 x1.1 (ns.getD 1 0)) (jL q.wf) (jf q.wf)))], 6⟩ : St)) (by kernel_rfl) (Eq.mp (by kernel_rfl) (And.intro (sk (sk (sk (And.intro (And.intro (@rfl Bool true) t2) (And.intro (And.intro (@rfl Bool true) t2) (trivial)))))) (And.intro (@rfl Bool true) (And.intro trivial (And.intro (@rfl Bool true) (And.intro (@rfl _ (Instr.yield l (List.toArray [(Value.slice ((bytF (bytT (sfx q x1.2.1 x1.2.2.1 x1.2.2.2.1 x1.2.2.2.2.1) (8 + be4 (fun i => q.wf (i + x1.2.2.2.2.1)))) 8).wa) (8 + be4 (fun i => q.wf (i + x1.2.2.2.2.1)) - 8) ((bytF (bytT (sfx q x1.2.1 x1.2.2.1 x1.2.2.2.1 x1.2.2.2.2.1) (8 + be4 (fun i => q.wf (i + x1.2.2.2.2.1)))) 8).wc))]))) (And.intro (fun (ns : List Nat) (hns : ns.length = 4) => (@rfl Bool true)) (And.intro (rep_y (F := famTB q) (l := l) (D := D) (fn := fn) sx lc gc x1.1 x1.2.2.2.2.2.1 x1.2.2.2.2.2.2.1 x1.2.2.2.2.2.2.2.1 x1.2.2.2.2.2.2.2.2 x1.2.2.2.2.1 (jL q.wf) (jf q.wf) (bytF (bytT (sfx q x1.2.1 x1.2.2.1 x1.2.2.2.1 x1.2.2.2.2.1) (8 + be4 (fun i => q.wf (i + x1.2.2.2.2.1)))) 8) htm (okb_from (okb_to (sfx_ok B3 B4 (by omega)) (show (8 + be4 (fun i => q.wf (i + x1.2.2.2.2.1))) ≤ x1.2.2.1 from by have fl : 8 ≤ x1.2.2.1 ∧ be4 (fun i => q.wf (i + x1.2.2.2.2.1)) ≤ x1.2.2.1 - 8 ∧ be4 (fun i => q.wf (i + x1.2.2.2.2.1)) ≤ 4000 := (fs_len (q := (sfx q x1.2.1 x1.2.2.1 x1.2.2.2.1 x1.2.2.2.2.1)) h1); omega)) (show 8 ≤ 8 + be4 (fun i => q.wf (i + x1.2.2.2.2.1)) from by have fl : 8 ≤ x1.2.2.1 ∧ be4 (fun i => q.wf (i + x1.2.2.2.2.1)) ≤ x1.2.2.1 - 8 ∧ be4 (fun i => q.wf (i + x1.2.2.2.2.1)) ≤ 4000 := (fs_len (q := (sfx q x1.2.1 x1.2.2.1 x1.2.2.2.1 x1.2.2.2.2.1)) h1); omega)) (part_some (sfx_ok B3 B4 (by omega)) (show 8 ≤ x1.2.2.1 from by have fl : 8 ≤ x1.2.2.1 ∧ be4 (fun i => q.wf (i + x1.2.2.2.2.1)) ≤ x1.2.2.1 - 8 ∧ be4 (fun i => q.wf (i + x1.2.2.2.2.1)) ≤ 4000 := (fs_len (q := (sfx q x1.2.1 x1.2.2.1 x1.2.2.2.1 x1.2.2.2.2.1)) h1); omega) _) (show 8 + be4 (fun i => q.wf (i + x1.2.2.2.2.1)) - 8 ≤ 4000 from by have fl : 8 ≤ x1.2.2.1 ∧ be4 (fun i => q.wf (i + x1.2.2.2.2.1)) ≤ x1.2.2.1 - 8 ∧ be4 (fun i => q.wf (i + x1.2.2.2.2.1)) ≤ 4000 := (fs_len (q := (sfx q x1.2.1 x1.2.2.1 x1.2.2.2.1 x1.2.2.2.2.1)) h1); omega) (show x1.1 ≤ 1000000000 from by have fl : 8 ≤ x1.2.2.1 ∧ be4 (fun i => q.wf (i + x1.2.2.2.2.1)) ≤ x1.2.2.1 - 8 ∧ be4 (fun i => q.wf (i + x1.2.2.2.2.1)) ≤ 4000 := (fs_len (q := (sfx q x1.2.1 x1.2.2.1 x1.2.2.2.1 x1.2.2.2.2.1)) h1); omega) (show x1.2.2.2.2.1 ≤ 1000000000000 from by have fl : 8 ≤ x1.2.2.1 ∧ be4 (fun i => q.wf (i + x1.2.2.2.2.1)) ≤ x1.2.2.1 - 8 ∧ be4 (fun i => q.wf (i + x1.2.2.2.2.1)) ≤ 4000 := (fs_len (q := (sfx q x1.2.1 x1.2.2.1 x1.2.2.2.1 x1.2.2.2.2.1)) h1); omega) (jr_len B0) (jr_row B0) (sh_from (show 8 ≤ 8 + be4 (fun i => q.wf (i + x1.2.2.2.2.1)) from by have fl : 8 ≤ x1.2.2.1 ∧ be4 (fun i => q.wf (i + x1.2.2.2.2.1)) ≤ x1.2.2.1 - 8 ∧ be4 (fun i => q.wf (i + x1.2.2.2.2.1)) ≤ 4000 := (fs_len (q := (sfx q x1.2.1 x1.2.2.1 x1.2.2.2.1 x1.2.2.2.2.1)) h1); omega) (sh_to (show (8 + be4 (fun i => q.wf (i + x1.2.2.2.2.1))) ≤ x1.2.2.1 from by have fl : 8 ≤ x1.2.2.1 ∧ be4 (fun i => q.wf (i + x1.2.2.2.2.1)) ≤ x1.2.2.1 - 8 ∧ be4 (fun i => q.wf (i + x1.2.2.2.2.1)) ≤ 4000 := (fs_len (q := (sfx q x1.2.1 x1.2.2.1 x1.2.2.2.1 x1.2.2.2.2.1)) h1); omega) (sfx_sh B2 B1 (sh_sub (fun z hz => (Or.inr hz : famTB q z)))))) (nm_part (b := (bytT (sfx q x1.2.1 x1.2.2.1 x1.2.2.2.1 x1.2.2.2.2.1) (8 + be4 (fun i => q.wf (i + x1.2.2.2.2.1))))) (c := (bytF (bytT (sfx q x1.2.1 x1.2.2.1 x1.2.2.2.1 x1.2.2.2.2.1) (8 + be4 (fun i => q.wf (i + x1.2.2.2.2.1)))) 8)) (show 0 < (8 + be4 (fun i => q.wf (i + x1.2.2.2.2.1))) - 8 → 0 < 8 + be4 (fun i => q.wf (i + x1.2.2.2.2.1)) from by have fl : 8 ≤ x1.2.2.1 ∧ be4 (fun i => q.wf (i + x1.2.2.2.2.1)) ≤ x1.2.2.1 - 8 ∧ be4 (fun i => q.wf (i + x1.2.2.2.2.1)) ≤ 4000 := (fs_len (q := (sfx q x1.2.1 x1.2.2.1 x1.2.2.2.1 x1.2.2.2.2.1)) h1); omega) (nm_part (b := (sfx q x1.2.1 x1.2.2.1 x1.2.2.2.1 x1.2.2.2.2.1)) (c := (bytT (sfx q x1.2.1 x1.2.2.1 x1.2.2.2.1 x1.2.2.2.2.1) (8 + be4 (fun i => q.wf (i + x1.2.2.2.2.1))))) (show 0 < (8 + be4 (fun i => q.wf (i + x1.2.2.2.2.1))) → 0 < x1.2.2.1 from by have fl : 8 ≤ x1.2.2.1 ∧ be4 (fun i => q.wf (i + x1.2.2.2.2.1)) ≤ x1.2.2.1 - 8 ∧ be4 (fun i => q.wf (i + x1.2.2.2.2.1)) ≤ 4000 := (fs_len (q := (sfx q x1.2.1 x1.2.2.1 x1.2.2.2.1 x1.2.2.2.2.1)) h1); omega) (nm_part (b := q) (fun h => by have h2 := B2; simp only [sfx] at h; omega) (nm_sub (fun z hz => (Or.inr hz : famTB q z))))))) (fun (ns : List Nat) (hns : ns.length = 4) => And.intro ((fun (n1 n2 n3 n4 : Nat) => And.intro (And.intro (@rfl Bool true) t2) (And.intro (And.intro trivial (And.intro (fun (_ : false = true) => trivial) (fun (_ : false = false) => trivial))) (trivial))) (ns.getD 0 0) (ns.getD 1 0) (ns.getD 2 0) (ns.getD 3 0)) (@rfl St ((fun (ns : List Nat) => (⟨[(0, .v (yv l)), (1, .v (ptr sx 0)), (6, .v (Value.slice x1.2.1 x1.2.2.1 x1.2.2.2.1)), (9, .v (Value.bool true)), (3, .v (Value.slice ((bytF (bytT (sfx q x1.2.1 x1.2.2.1 x1.2.2.2.1 x1.2.2.2.2.1) (8 + be4 (fun i => q.wf (i + x1.2.2.2.2.1)))) 8).wa) (8 + be4 (fun i => q.wf (i + x1.2.2.2.2.1)) - 8) ((bytF (bytT (sfx q x1.2.1 x1.2.2.1 x1.2.2.2.1 x1.2.2.2.2.1) (8 + be4 (fun i => q.wf (i + x1.2.2.2.2.1)))) 8).wc))), (4, .v (Value.bool true)), (10, .v (Value.bool true)), (11, .v (Value.bool false)), (12, .v (Value.bool false)), (13, .v (yv l)), (14, .v (Value.slice ((bytF (bytT (sfx q x1.2.1 x1.2.2.1 x1.2.2.2.1 x1.2.2.2.2.1) (8 + be4 (fun i => q.wf (i + x1.2.2.2.2.1)))) 8).wa) (8 + be4 (fun i => q.wf (i + x1.2.2.2.2.1)) - 8) ((bytF (bytT (sfx q x1.2.1 x1.2.2.1 x1.2.2.2.1 x1.2.2.2.2.1) (8 + be4 (fun i => q.wf (i + x1.2.2.2.2.1)))) 8).wc))), (15, .v (Value.bool true)), (16, .v (Value.bool false)), (17, .v (Value.bool false))], [(0, some (repL l D fn tm)), (1, some ⟨sx, true, 0, (.lit [(Value.slice x1.2.1 x1.2.2.1 x1.2.2.2.1)])⟩), (2, some ⟨lc, true, 0, (.lit [(gsV (gsOf (x1.1 + 1) (elF (pcod x1.2.2.2.2.2.1 x1.1 (ns.getD 0 0)) (pcod x1.2.2.2.2.2.2.1 x1.1 (ns.getD 1 0)) (jL q.wf) (jf q.wf)) (ns.getD 2 0) (ns.getD 3 0)))])⟩), (3, some ⟨gc, true, 0, (.lit [(nat (x1.2.2.2.2.1 + (8 + (8 + be4 (fun i => q.wf (i + x1.2.2.2.2.1)) - 8))))])⟩), (4, (gsE slqC [Value.slice none 0 0] 1 (gsOf (x1.1 + 1) (elF (pcod x1.2.2.2.2.2.1 x1.1 (ns.getD 0 0)) (pcod x1.2.2.2.2.2.2.1 x1.1 (ns.getD 1 0)) (jL q.wf) (jf q.wf)) (ns.getD 2 0) (ns.getD 3 0)))), (5, (plO (x1.1 + 1) (pcod x1.2.2.2.2.2.1 x1.1 (ns.getD 0 0)) (pcod x1.2.2.2.2.2.2.1 x1.1 (ns.getD 1 0)) (jL q.wf) (jf q.wf)))], 6⟩ : St)) ns)))))))))))) (fun (ns : List Nat) (hns : ns.length = 4) => (fun (n1 n2 n3 n4 : Nat) => And.intro trivial (And.intro (@rfl Bool false) (And.intro (And.intro (And.intro trivial (ad sx 0)) (sk (And.intro (And.intro trivial (@is_len Tryd.prog 22 5 (.tmp 19) (by kernel_rfl) ((bytF (bytT (sfx q x1.2.1 x1.2.2.1 x1.2.2.2.1 x1.2.2.2.2.1) (8 + be4 (fun i => q.wf (i + x1.2.2.2.2.1)))) 8).wa) (8 + be4 (fun i => q.wf (i + x1.2.2.2.2.1)) - 8) ((bytF (bytT (sfx q x1.2.1 x1.2.2.1 x1.2.2.2.1 x1.2.2.2.2.1) (8 + be4 (fun i => q.wf (i + x1.2.2.2.2.1)))) 8).wc))) (And.intro (And.intro trivial (@is_addn Tryd.prog 3 3 (.const (.int .i64 8)) (.tmp 20)  8 (8 + be4 (fun i => q.wf (i + x1.2.2.2.2.1)) - 8) (show 8 + (8 + be4 (fun i => q.wf (i + x1.2.2.2.2.1)) - 8) ≤ 9223372036854775807 from by have fl : 8 ≤ x1.2.2.1 ∧ be4 (fun i => q.wf (i + x1.2.2.2.2.1)) ≤ x1.2.2.1 - 8 ∧ be4 (fun i => q.wf (i + x1.2.2.2.2.1)) ≤ 4000 := (fs_len (q := (sfx q x1.2.1 x1.2.2.1 x1.2.2.2.1 x1.2.2.2.2.1)) h1); omega))) (And.intro (And.intro trivial (@is_slqFrom Tryd.prog 22 5 (.tmp 18) (.tmp 21) (by kernel_rfl) 1 (by kernel_rfl) x1.2.1 x1.2.2.1 x1.2.2.2.1 (8 + (8 + be4 (fun i => q.wf (i + x1.2.2.2.2.1)) - 8)) (show 8 + (8 + be4 (fun i => q.wf (i + x1.2.2.2.2.1)) - 8) ≤ x1.2.2.1 ∧ x1.2.2.1 ≤ x1.2.2.2.1 from by have fl : 8 ≤ x1.2.2.1 ∧ be4 (fun i => q.wf (i + x1.2.2.2.2.1)) ≤ x1.2.2.1 - 8 ∧ be4 (fun i => q.wf (i + x1.2.2.2.2.1)) ≤ 4000 := (fs_len (q := (sfx q x1.2.1 x1.2.2.1 x1.2.2.2.1 x1.2.2.2.2.1)) h1); omega))) (And.intro (And.intro trivial (ad sx 0)) trivial)))))) ((rnd (iter_run_R1 l D fn tm sx lc gc c0 d0 nm0 r0 q) (iter_run_S1 l D fn tm sx lc gc c0 d0 nm0 r0 q) (iter_run_mu1 l D fn tm sx lc gc c0 d0 nm0 r0 q) x1 ((x1.1 + 1, (fromA x1.2.1 x1.2.2.2.1 (8 + (8 + be4 (fun i => q.wf (i + x1.2.2.2.2.1)) - 8)) 1), x1.2.2.1 - (8 + (8 + be4 (fun i => q.wf (i + x1.2.2.2.2.1)) - 8)), x1.2.2.2.1 - (8 + (8 + be4 (fun i => q.wf (i + x1.2.2.2.2.1)) - 8)), x1.2.2.2.2.1 + (8 + (8 + be4 (fun i => q.wf (i + x1.2.2.2.2.1)) - 8)), (pcod x1.2.2.2.2.2.1 x1.1 n1), (pcod x1.2.2.2.2.2.2.1 x1.1 n2), n3, n4) : Nat × (Option Addr) × Nat × Nat × Nat × Nat × Nat × Nat × Nat) (show (iter_run_R1 l D fn tm sx lc gc c0 d0 nm0 r0 q) ((x1.1 + 1, (fromA x1.2.1 x1.2.2.2.1 (8 + (8 + be4 (fun i => q.wf (i + x1.2.2.2.2.1)) - 8)) 1), x1.2.2.1 - (8 + (8 + be4 (fun i => q.wf (i + x1.2.2.2.2.1)) - 8)), x1.2.2.2.1 - (8 + (8 + be4 (fun i => q.wf (i + x1.2.2.2.2.1)) - 8)), x1.2.2.2.2.1 + (8 + (8 + be4 (fun i => q.wf (i + x1.2.2.2.2.1)) - 8)), (pcod x1.2.2.2.2.2.1 x1.1 n1), (pcod x1.2.2.2.2.2.2.1 x1.1 n2), n3, n4) : Nat × (Option Addr) × Nat × Nat × Nat × Nat × Nat × Nat × Nat) ∧ (iter_run_mu1 l D fn tm sx lc gc c0 d0 nm0 r0 q) ((x1.1 + 1, (fromA x1.2.1 x1.2.2.2.1 (8 + (8 + be4 (fun i => q.wf (i + x1.2.2.2.2.1)) - 8)) 1), x1.2.2.1 - (8 + (8 + be4 (fun i => q.wf (i + x1.2.2.2.2.1)) - 8)), x1.2.2.2.1 - (8 + (8 + be4 (fun i => q.wf (i + x1.2.2.2.2.1)) - 8)), x1.2.2.2.2.1 + (8 + (8 + be4 (fun i => q.wf (i + x1.2.2.2.2.1)) - 8)), (pcod x1.2.2.2.2.2.1 x1.1 n1), (pcod x1.2.2.2.2.2.2.1 x1.1 n2), n3, n4) : Nat × (Option Addr) × Nat × Nat × Nat × Nat × Nat × Nat × Nat) < (iter_run_mu1 l D fn tm sx lc gc c0 d0 nm0 r0 q) x1 from (show (((x1.2.2.2.2.1 + (8 + (8 + be4 (fun i => q.wf (i + x1.2.2.2.2.1)) - 8))) = atK q.wf (x1.1 + 1)) ∧ ((x1.2.2.2.2.1 + (8 + (8 + be4 (fun i => q.wf (i + x1.2.2.2.2.1)) - 8))) ≤ q.wn) ∧ ((x1.2.2.1 - (8 + (8 + be4 (fun i => q.wf (i + x1.2.2.2.2.1)) - 8))) = q.wn - (x1.2.2.2.2.1 + (8 + (8 + be4 (fun i => q.wf (i + x1.2.2.2.2.1)) - 8)))) ∧ ((x1.2.2.1 - (8 + (8 + be4 (fun i => q.wf (i + x1.2.2.2.2.1)) - 8))) ≤ (x1.2.2.2.1 - (8 + (8 + be4 (fun i => q.wf (i + x1.2.2.2.2.1)) - 8)))) ∧ (0 < (x1.2.2.1 - (8 + (8 + be4 (fun i => q.wf (i + x1.2.2.2.2.1)) - 8))) → (fromA x1.2.1 x1.2.2.2.1 (8 + (8 + be4 (fun i => q.wf (i + x1.2.2.2.2.1)) - 8)) 1) = some ⟨q.wb, q.wo + (x1.2.2.2.2.1 + (8 + (8 + be4 (fun i => q.wf (i + x1.2.2.2.2.1)) - 8))), none⟩) ∧ (∀ j, j < (x1.1 + 1) → okK q.wf q.wn j = true) ∧ (8 * (x1.1 + 1) ≤ (x1.2.2.2.2.1 + (8 + (8 + be4 (fun i => q.wf (i + x1.2.2.2.2.1)) - 8))))) ∧ (q.wn - (x1.2.2.2.2.1 + (8 + (8 + be4 (fun i => q.wf (i + x1.2.2.2.2.1)) - 8)))) < (q.wn - x1.2.2.2.2.1) from by have fl : 8 ≤ x1.2.2.1 ∧ be4 (fun i => q.wf (i + x1.2.2.2.2.1)) ≤ x1.2.2.1 - 8 ∧ be4 (fun i => q.wf (i + x1.2.2.2.2.1)) ≤ 4000 := (fs_len (q := (sfx q x1.2.1 x1.2.2.1 x1.2.2.2.1 x1.2.2.2.2.1)) h1); exact jr_step B0 B1 B2 B3 B4 B5 B6 (by assumption) rfl rfl rfl rfl rfl))))))) (ns.getD 0 0) (ns.getD 1 0) (ns.getD 2 0) (ns.getD 3 0)))) (fun (h1 : (fsOk (fun i => q.wf (i + x1.2.2.2.2.1)) x1.2.2.1) = false) => have f9 : (fsOk (fun i => q.wf (i + x1.2.2.2.2.1)) x1.2.2.1) = false := h1; And.intro (show (⟨[(0, .v (yv l)), (1, .v (ptr sx 0)), (6, .v (Value.slice x1.2.1 x1.2.2.1 x1.2.2.2.1)), (9, .v (Value.bool (fsOk (fun i => q.wf (i + x1.2.2.2.2.1)) x1.2.2.1))), (4, .v (Value.bool (fsOk (fun i => q.wf (i + x1.2.2.2.2.1)) x1.2.2.1)))], [(0, some (repL l D fn tm)), (2, some ⟨lc, true, 0, (.lit [(gsV (gsOf x1.1 (elF x1.2.2.2.2.2.1 x1.2.2.2.2.2.2.1 (jL q.wf) (jf q.wf)) x1.2.2.2.2.2.2.2.1 x1.2.2.2.2.2.2.2.2))])⟩), (3, some ⟨gc, true, 0, (.lit [(nat x1.2.2.2.2.1)])⟩), (4, (gsE slqC [Value.slice none 0 0] 1 (gsOf x1.1 (elF x1.2.2.2.2.2.1 x1.2.2.2.2.2.2.1 (jL q.wf) (jf q.wf)) x1.2.2.2.2.2.2.2.1 x1.2.2.2.2.2.2.2.2))), (5, (plO x1.1 x1.2.2.2.2.2.1 x1.2.2.2.2.2.2.1 (jL q.wf) (jf q.wf)))], 6⟩ : St) = ⟨[(0, .v (yv l)), (1, .v (ptr sx 0)), (6, .v (Value.slice x1.2.1 x1.2.2.1 x1.2.2.2.1)), (9, .v (Value.bool false)), (4, .v (Value.bool false))], [(0, some (repL l D fn tm)), (2, some ⟨lc, true, 0, (.lit [(gsV (gsOf x1.1 (elF x1.2.2.2.2.2.1 x1.2.2.2.2.2.2.1 (jL q.wf) (jf q.wf)) x1.2.2.2.2.2.2.2.1 x1.2.2.2.2.2.2.2.2))])⟩), (3, some ⟨gc, true, 0, (.lit [(nat x1.2.2.2.2.1)])⟩), (4, (gsE slqC [Value.slice none 0 0] 1 (gsOf x1.1 (elF x1.2.2.2.2.2.1 x1.2.2.2.2.2.2.1 (jL q.wf) (jf q.wf)) x1.2.2.2.2.2.2.2.1 x1.2.2.2.2.2.2.2.2))), (5, (plO x1.1 x1.2.2.2.2.2.1 x1.2.2.2.2.2.2.1 (jL q.wf) (jf q.wf)))], 6⟩ from by rw [h1] <;> rfl) (And.intro (sk (sk (sk (And.intro (@rfl Bool false) (And.intro (@rfl Bool false) (And.intro (@rfl Bool false) (And.intro (@rfl Bool false) (And.intro (And.intro trivial (And.intro (fun (_ : true = true) => trivial) (fun (_ : true = false) => trivial))) trivial)))))))) (And.intro trivial (And.intro (@rfl Bool true) (And.intro trivial (@Exists.intro (List Nat) (fun (ns : List Nat) => ns.length = 4 ∧ ((Value.tuple #[]) : Value) = (fun (ns : List Nat) => (Value.tuple #[])) ns ∧ ([some (repL l D fn tm), none, some ⟨lc, true, 0, (.lit [(gsV (gsOf x1.1 (elF x1.2.2.2.2.2.1 x1.2.2.2.2.2.2.1 (jL q.wf) (jf q.wf)) x1.2.2.2.2.2.2.2.1 x1.2.2.2.2.2.2.2.2))])⟩, some ⟨gc, true, 0, (.lit [(nat x1.2.2.2.2.1)])⟩, (gsE slqC [Value.slice none 0 0] 1 (gsOf x1.1 (elF x1.2.2.2.2.2.1 x1.2.2.2.2.2.2.1 (jL q.wf) (jf q.wf)) x1.2.2.2.2.2.2.2.1 x1.2.2.2.2.2.2.2.2)), (plO x1.1 x1.2.2.2.2.2.1 x1.2.2.2.2.2.2.1 (jL q.wf) (jf q.wf))] : List (Option Blk)) = (fun (ns : List Nat) => [some (repL l D fn tm), none, some ⟨lc, true, 0, (.lit [(gsV (gsOf (nR q.wf q.wn) (elF (ns.getD 0 0) (ns.getD 1 0) (jL q.wf) (jf q.wf)) (ns.getD 2 0) (ns.getD 3 0)))])⟩, some ⟨gc, true, 0, (.lit [(nat (atK q.wf (nR q.wf q.wn)))])⟩, (gsE slqC [Value.slice none 0 0] 1 (gsOf (nR q.wf q.wn) (elF (ns.getD 0 0) (ns.getD 1 0) (jL q.wf) (jf q.wf)) (ns.getD 2 0) (ns.getD 3 0))), (plO (nR q.wf q.wn) (ns.getD 0 0) (ns.getD 1 0) (jL q.wf) (jf q.wf))]) ns) [x1.2.2.2.2.2.1, x1.2.2.2.2.2.2.1, x1.2.2.2.2.2.2.2.1, x1.2.2.2.2.2.2.2.2] (And.intro (@rfl Nat 4) (And.intro (@rfl Value (Value.tuple #[])) ((show ([some (repL l D fn tm), none, some ⟨lc, true, 0, (.lit [(gsV (gsOf x1.1 (elF x1.2.2.2.2.2.1 x1.2.2.2.2.2.2.1 (jL q.wf) (jf q.wf)) x1.2.2.2.2.2.2.2.1 x1.2.2.2.2.2.2.2.2))])⟩, some ⟨gc, true, 0, (.lit [(nat x1.2.2.2.2.1)])⟩, (gsE slqC [Value.slice none 0 0] 1 (gsOf x1.1 (elF x1.2.2.2.2.2.1 x1.2.2.2.2.2.2.1 (jL q.wf) (jf q.wf)) x1.2.2.2.2.2.2.2.1 x1.2.2.2.2.2.2.2.2)), (plO x1.1 x1.2.2.2.2.2.1 x1.2.2.2.2.2.2.1 (jL q.wf) (jf q.wf))] : List (Option Blk)) = [some (repL l D fn tm), none, some ⟨lc, true, 0, (.lit [(gsV (gsOf (nR q.wf q.wn) (elF x1.2.2.2.2.2.1 x1.2.2.2.2.2.2.1 (jL q.wf) (jf q.wf)) x1.2.2.2.2.2.2.2.1 x1.2.2.2.2.2.2.2.2))])⟩, some ⟨gc, true, 0, (.lit [(nat (atK q.wf (nR q.wf q.wn)))])⟩, (gsE slqC [Value.slice none 0 0] 1 (gsOf (nR q.wf q.wn) (elF x1.2.2.2.2.2.1 x1.2.2.2.2.2.2.1 (jL q.wf) (jf q.wf)) x1.2.2.2.2.2.2.2.1 x1.2.2.2.2.2.2.2.2)), (plO (nR q.wf q.wn) x1.2.2.2.2.2.1 x1.2.2.2.2.2.2.1 (jL q.wf) (jf q.wf))] from by have e := jr_end B0 B1 B2 B5 B6 h1; rw [← e.1, ← B0])))))))))))))))
theorem iter_c (l D : Nat) (fn : FuncId) (tm : Array Value) (sx lc gc : Nat) (q : BytL) (hq : OkB q) (hl : q.wn ≤ 1000000000) (htm : TmOk 20 (fun t => Go.Eng.look [(2, .v (ptr lc 0)), (3, .v (ptr gc 0)), (6, .v (Value.func (.func 25) #[] #[(ptr sx 0)]))] t) tm) : RunsO (famTB q) Tryd.prog 25 [yv l, ptr sx 0] [some (repL l D fn tm), some ⟨sx, true, 0, .lit [slqV q]⟩, some ⟨lc, true, 0, .lit [.slice none 0 0]⟩, some ⟨gc, true, 0, .lit [int 0]⟩] 4 (fun _ => .tuple #[])
    (fun ns => [some (repL l D fn tm), none, some ⟨lc, true, 0, .lit [gsV (gsOf (nR q.wf q.wn) (elF (ns.getD 0 0) (ns.getD 1 0) (jL q.wf) (jf q.wf)) (ns.getD 2 0) (ns.getD 3 0))]⟩, some ⟨gc, true, 0, .lit [nat (atK q.wf (nR q.wf q.wn))]⟩, gsE slqC [Value.slice none 0 0] 1 (gsOf (nR q.wf q.wn) (elF (ns.getD 0 0) (ns.getD 1 0) (jL q.wf) (jf q.wf)) (ns.getD 2 0) (ns.getD 3 0)), plO (nR q.wf q.wn) (ns.getD 0 0) (ns.getD 1 0) (jL q.wf) (jf q.wf)]) :=
  (iter_run l D fn tm sx lc gc 0 0 0 0 q hq hl htm).nones
theorem frames_runs (q : BytL) : Runs Tryd.prog 21 [(Value.slice q.wa q.wn q.wc)] [] 1 (fun (ns : List Nat) => (Value.func (.func 25) #[] #[(ptr (ns.getD 0 0) 0)])) (fun (ns : List Nat) => [some ⟨(ns.getD 0 0), true, 0, (.lit [(Value.slice q.wa q.wn q.wc)])⟩]) :=
  runs_of_ev mix Tryd.func21 rfl rfl 400 (.regn [(0, .new), (1, .g)] (more (fun n1 => fun _ => (.reg [(0, .g), (1, .g)] .done)))) [] [0] rfl
    (Eq.mp (by kernel_rfl) (fun (n1 : Nat) => And.intro (sk (sk trivial)) (And.intro (sk (sk trivial)) (And.intro trivial (@Exists.intro (List Nat) (fun (ns : List Nat) => ns.length = 1 ∧ ((Value.func (.func 25) #[] #[(ptr n1 0)]) : Value) = (fun (ns : List Nat) => (Value.func (.func 25) #[] #[(ptr (ns.getD 0 0) 0)])) ns ∧ ([some ⟨n1, true, 0, (.lit [(Value.slice q.wa q.wn q.wc)])⟩] : List (Option Blk)) = (fun (ns : List Nat) => [some ⟨(ns.getD 0 0), true, 0, (.lit [(Value.slice q.wa q.wn q.wc)])⟩]) ns) [n1] (And.intro (@rfl Nat 1) (And.intro (@rfl Value (Value.func (.func 25) #[] #[(ptr n1 0)])) (@rfl (List (Option Blk)) [some ⟨n1, true, 0, (.lit [(Value.slice q.wa q.wn q.wc)])⟩]))))))))
theorem replay_run (q : BytL) (hq : OkB q) (hl : q.wn ≤ 1000000000) : RunsO (famTB q) Tryd.prog 9 [(Value.slice q.wa q.wn q.wc)] [] 4 (fun (ns : List Nat) => (Value.tuple #[(gsV (gsOf (nR q.wf q.wn) (elF (ns.getD 0 0) (ns.getD 1 0) (jL q.wf) (jf q.wf)) (ns.getD 2 0) (ns.getD 3 0))), (nat (atK q.wf (nR q.wf q.wn)))])) (fun (ns : List Nat) => [(gsE slqC [Value.slice none 0 0] 1 (gsOf (nR q.wf q.wn) (elF (ns.getD 0 0) (ns.getD 1 0) (jL q.wf) (jf q.wf)) (ns.getD 2 0) (ns.getD 3 0))), (plO (nR q.wf q.wn) (ns.getD 0 0) (ns.getD 1 0) (jL q.wf) (jf q.wf))]) :=
  runsO_of_ev mix Tryd.func9 rfl rfl 400 (.regn [(0, .new), (1, .new)] (more (fun n1 => more (fun n2 => fun _ => (.regn [(0, .g), (1, (.call [] 1 1 (fun ns => Value.func (.func 25) #[] #[ptr (ns.getD 0 0) 0]) (fun ns => [some ⟨ns.getD 0 0, true, 0, .lit [(Value.slice q.wa q.wn q.wc)]⟩])))] (more (fun n3 => fun _ => (.keep [2, 3, 6] [0, 1, 2] 3 (.byF (fun (ns : List Nat) => ns.length = 4) (fun _ => Exit.normal) (fun (ns : List Nat) => (⟨[(2, .v (ptr n1 0)), (3, .v (ptr n2 0)), (6, .v (Value.func (.func 25) #[] #[(ptr n3 0)]))], [(0, some ⟨n1, true, 0, (.lit [(gsV (gsOf (nR q.wf q.wn) (elF (ns.getD 0 0) (ns.getD 1 0) (jL q.wf) (jf q.wf)) (ns.getD 2 0) (ns.getD 3 0)))])⟩), (1, some ⟨n2, true, 0, (.lit [(nat (atK q.wf (nR q.wf q.wn)))])⟩), (2, none), (3, (gsE slqC [Value.slice none 0 0] 1 (gsOf (nR q.wf q.wn) (elF (ns.getD 0 0) (ns.getD 1 0) (jL q.wf) (jf q.wf)) (ns.getD 2 0) (ns.getD 3 0)))), (4, (plO (nR q.wf q.wn) (ns.getD 0 0) (ns.getD 1 0) (jL q.wf) (jf q.wf)))], 5⟩ : St)) (fun (ns : List Nat) => (fun (n4 n5 n6 n7 : Nat) => (.reg [(0, (.ld 0 (.lit 0))), (1, (.ld 1 (.lit 0))), (2, (.st 0 (.lit 0))), (3, (.st 1 (.lit 0)))] .done)) (ns.getD 0 0) (ns.getD 1 0) (ns.getD 2 0) (ns.getD 3 0))))))))))) [(0, 0), (1, 0)] [3, 4] rfl
    (have f0 : q.wn ≤ q.wc ∧ q.wn ≤ 9223372036854775807 := ⟨hq.cap, hq.len⟩; have f1 : q.wn ≤ 1000000000 := hl; Eq.mp (by kernel_rfl) (fun (n1 n2 : Nat) => And.intro (sk (sk trivial)) (fun (n3 : Nat) => And.intro (sk (And.intro (And.intro trivial (frames_runs q)) trivial)) (And.intro (awp_rf (F := (famTB q)) (P := Tryd.prog) (nt := 20) (c := rfC 0 Tryd.f9.body) (s := ⟨[(2, .v (ptr n1 0)), (3, .v (ptr n2 0)), (6, .v (Value.func (.func 25) #[] #[(ptr n3 0)]))], [(0, some ⟨n1, true, 0, (.lit [(Value.slice none 0 0)])⟩), (1, some ⟨n2, true, 0, (.lit [(int 0)])⟩), (2, some ⟨n3, true, 0, (.lit [(Value.slice q.wa q.wn q.wc)])⟩)], 3⟩) 25 [(ptr n3 0)] [(2, false), (0, false), (1, false)] 4 2 (fun (ns : List Nat) => (Value.tuple #[])) (fun (ns : List Nat) => [none, some ⟨n1, true, 0, (.lit [(gsV (gsOf (nR q.wf q.wn) (elF (ns.getD 0 0) (ns.getD 1 0) (jL q.wf) (jf q.wf)) (ns.getD 2 0) (ns.getD 3 0)))])⟩, some ⟨n2, true, 0, (.lit [(nat (atK q.wf (nR q.wf q.wn)))])⟩, (gsE slqC [Value.slice none 0 0] 1 (gsOf (nR q.wf q.wn) (elF (ns.getD 0 0) (ns.getD 1 0) (jL q.wf) (jf q.wf)) (ns.getD 2 0) (ns.getD 3 0))), (plO (nR q.wf q.wn) (ns.getD 0 0) (ns.getD 1 0) (jL q.wf) (jf q.wf))]) none (Exit.normal) [2, 3, 6] [0, 1, 2, 3, 4] 5 (fun (ns : List Nat) => (⟨[(2, .v (ptr n1 0)), (3, .v (ptr n2 0)), (6, .v (Value.func (.func 25) #[] #[(ptr n3 0)]))], [(0, some ⟨n1, true, 0, (.lit [(gsV (gsOf (nR q.wf q.wn) (elF (ns.getD 0 0) (ns.getD 1 0) (jL q.wf) (jf q.wf)) (ns.getD 2 0) (ns.getD 3 0)))])⟩), (1, some ⟨n2, true, 0, (.lit [(nat (atK q.wf (nR q.wf q.wn)))])⟩), (2, none), (3, (gsE slqC [Value.slice none 0 0] 1 (gsOf (nR q.wf q.wn) (elF (ns.getD 0 0) (ns.getD 1 0) (jL q.wf) (jf q.wf)) (ns.getD 2 0) (ns.getD 3 0)))), (4, (plO (nR q.wf q.wn) (ns.getD 0 0) (ns.getD 1 0) (jL q.wf) (jf q.wf)))], 5⟩ : St)) (by kernel_rfl) (by kernel_rfl) (fun args w => by kernel_rfl) (by kernel_rfl) (fun ns hns => @rfl Bool true) (.inl ⟨rfl, rfl⟩) (fun l D fn tm htm => Eq.mp (by kernel_rfl) (iter_c l D fn tm n3 n1 n2 q hq hl htm)) (fun ns hns => @rfl St ((fun (ns : List Nat) => (⟨[(2, .v (ptr n1 0)), (3, .v (ptr n2 0)), (6, .v (Value.func (.func 25) #[] #[(ptr n3 0)]))], [(0, some ⟨n1, true, 0, (.lit [(gsV (gsOf (nR q.wf q.wn) (elF (ns.getD 0 0) (ns.getD 1 0) (jL q.wf) (jf q.wf)) (ns.getD 2 0) (ns.getD 3 0)))])⟩), (1, some ⟨n2, true, 0, (.lit [(nat (atK q.wf (nR q.wf q.wn)))])⟩), (2, none), (3, (gsE slqC [Value.slice none 0 0] 1 (gsOf (nR q.wf q.wn) (elF (ns.getD 0 0) (ns.getD 1 0) (jL q.wf) (jf q.wf)) (ns.getD 2 0) (ns.getD 3 0)))), (4, (plO (nR q.wf q.wn) (ns.getD 0 0) (ns.getD 1 0) (jL q.wf) (jf q.wf)))], 5⟩ : St)) ns))) (fun (ns : List Nat) (hns : ns.length = 4) => (fun (n4 n5 n6 n7 : Nat) => And.intro (And.intro (And.intro trivial (ad n1 0)) (And.intro (And.intro trivial (ad n2 0)) (And.intro (And.intro trivial (ad n1 0)) (And.intro (And.intro trivial (ad n2 0)) trivial)))) (And.intro (And.intro (@rfl Value (ptr n1 0)) (And.intro (@rfl Value (ptr n2 0)) trivial)) (@Exists.intro (List Nat) (fun (ns : List Nat) => ns.length = 4 ∧ ((Value.tuple #[(gsV (gsOf (nR q.wf q.wn) (elF n4 n5 (jL q.wf) (jf q.wf)) n6 n7)), (nat (atK q.wf (nR q.wf q.wn)))]) : Value) = (fun (ns : List Nat) => (Value.tuple #[(gsV (gsOf (nR q.wf q.wn) (elF (ns.getD 0 0) (ns.getD 1 0) (jL q.wf) (jf q.wf)) (ns.getD 2 0) (ns.getD 3 0))), (nat (atK q.wf (nR q.wf q.wn)))])) ns ∧ ([(gsE slqC [Value.slice none 0 0] 1 (gsOf (nR q.wf q.wn) (elF n4 n5 (jL q.wf) (jf q.wf)) n6 n7)), (plO (nR q.wf q.wn) n4 n5 (jL q.wf) (jf q.wf))] : List (Option Blk)) = (fun (ns : List Nat) => [(gsE slqC [Value.slice none 0 0] 1 (gsOf (nR q.wf q.wn) (elF (ns.getD 0 0) (ns.getD 1 0) (jL q.wf) (jf q.wf)) (ns.getD 2 0) (ns.getD 3 0))), (plO (nR q.wf q.wn) (ns.getD 0 0) (ns.getD 1 0) (jL q.wf) (jf q.wf))]) ns) [n4, n5, n6, n7] (And.intro (@rfl Nat 4) (And.intro (@rfl Value (Value.tuple #[(gsV (gsOf (nR q.wf q.wn) (elF n4 n5 (jL q.wf) (jf q.wf)) n6 n7)), (nat (atK q.wf (nR q.wf q.wn)))])) (@rfl (List (Option Blk)) [(gsE slqC [Value.slice none 0 0] 1 (gsOf (nR q.wf q.wn) (elF n4 n5 (jL q.wf) (jf q.wf)) n6 n7)), (plO (nR q.wf q.wn) n4 n5 (jL q.wf) (jf q.wf))])))))) (ns.getD 0 0) (ns.getD 1 0) (ns.getD 2 0) (ns.getD 3 0))))))
end Go.Proofs.YtagbdahcopkpjaaDoor
end
section
namespace Go.Proofs.YtagbdahcopkpjaaDoor
open Go Go.Eng
set_option linter.unusedVariables false
set_option linter.unusedSimpArgs false
set_option maxRecDepth 100000
set_option maxHeartbeats 1000000
def same_fam_S1 (x : BytL) (y : BytL) (x1 : Nat) : St := ⟨[(0, .v (Value.slice x.wa x.wn x.wc)), (1, .v (Value.slice y.wa y.wn y.wc)), (5, .v (nat x1))], [], 0⟩
def same_fam_R1 (x : BytL) (y : BytL) (x1 : Nat) : Prop := (x1 ≤ x.wn) ∧ (∀ k, k < x1 → x.wf k = y.wf k)
def same_fam_mu1 (x : BytL) (y : BytL) (x1 : Nat) : Nat := x.wn - x1
theorem same_fam (x y : BytL) (hx : OkB x) (hy : OkB y) : RunsF (famBB x y) Tryd.prog 16 [(Value.slice x.wa x.wn x.wc), (Value.slice y.wa y.wn y.wc)] [] 0 (fun (_ : List Nat) => Value.bool (sameS x.wf x.wn y.wf y.wn)) (fun (_ : List Nat) => []) :=
  runsF_of_ev (F := (famBB x y)) mix Tryd.func16 rfl rfl 400 (.reg [(0, .g)] (.reg [(0, .g), (1, (.as (nat x.wn))), (2, .g), (3, (.as (nat y.wn))), (4, (.as (Value.bool (!(decide (x.wn = y.wn))))))] (.br (.reg [(0, .g)] .done) (.reg [(0, .g)] (.inv [0, 1, 5] [] 0 (same_fam_R1 x y) (same_fam_S1 x y) (same_fam_mu1 x y) (0 : Nat) (fun (x1 : Nat) => (.reg [(0, .g), (1, .g), (2, (.as (nat x.wn))), (3, (.as (Value.bool (decide (x1 < x.wn)))))] (.br (.openr (bytB x) (.openr (bytB y) (.reg [(0, .g), (1, .g), (2, (.as (ptr x.wb (x.wo + x1 * 1)))), (3, (.ld 0 (.tab x1 0))), (4, .g), (5, .g), (6, (.as (ptr y.wb (y.wo + x1 * 1)))), (7, (.ld 1 (.tab x1 0))), (8, (.as (Value.bool (!((x.wf x1) == (y.wf x1))))))] (.br (.reg [(0, .g)] .done) (.reg [(0, .g), (1, (.as (nat (x1 + 1)))), (2, .g)] .done))))) (.reg [(0, .g)] .done))))))))) [] [] rfl
    (have f0 : x.wn ≤ 9223372036854775807 := hx.len; have f1 : y.wn ≤ 9223372036854775807 := hy.len; Eq.mp (by kernel_rfl) (And.intro (sk trivial) (And.intro (sk (And.intro (And.intro trivial (@is_len Tryd.prog 22 5 (.tmp 6) (by kernel_rfl) x.wa x.wn x.wc)) (sk (And.intro (And.intro trivial (@is_len Tryd.prog 22 5 (.tmp 8) (by kernel_rfl) y.wa y.wn y.wc)) (And.intro (And.intro trivial (@is_neqn Tryd.prog 3 3 (.tmp 7) (.tmp 9)  x.wn y.wn)) trivial))))) (And.intro trivial (And.intro (fun (h1 : (!(decide (x.wn = y.wn))) = true) => have f2 : ¬ (x.wn = y.wn) := (of_decide_eq_false (bnot_t h1)); And.intro (sk trivial) (And.intro trivial (@Exists.intro (List Nat) (fun (ns : List Nat) => ns.length = 0 ∧ ((Value.bool false) : Value) = (fun (_ : List Nat) => Value.bool (sameS x.wf x.wn y.wf y.wn)) ns ∧ ([] : List (Option Blk)) = (fun (_ : List Nat) => []) ns) [] (And.intro (@rfl Nat 0) (And.intro ((show (Value.bool false) = Value.bool (sameS x.wf x.wn y.wf y.wn) from congrArg Value.bool (by first | exact same_len (by omega) | exact same_not (by omega) (same_ne (by assumption))))) (@rfl (List (Option Blk)) [])))))) (fun (h1 : (!(decide (x.wn = y.wn))) = false) => have f2 : (x.wn = y.wn) := (of_decide_eq_true (bnot_f h1)); And.intro (sk trivial) (And.intro (show (same_fam_R1 x y) (0 : Nat) from (show (0 ≤ x.wn) ∧ (∀ k, k < 0 → x.wf k = y.wf k) from by exact ⟨by omega, fun k hk => absurd hk (by omega)⟩)) (And.intro (@rfl St ((same_fam_S1 x y) (0 : Nat))) (fun (x1 : Nat) (hx1 : (same_fam_R1 x y) x1) => have B0 : x1 ≤ x.wn := hx1.1; have B1 : ∀ k, k < x1 → x.wf k = y.wf k := hx1.2; And.intro (sk (sk (And.intro (And.intro trivial (@is_len Tryd.prog 22 5 (.tmp 12) (by kernel_rfl) x.wa x.wn x.wc)) (And.intro (And.intro trivial (@is_lssn Tryd.prog 3 3 (.tmp 11) (.tmp 13)  x1 x.wn)) trivial)))) (And.intro trivial (And.intro (fun (h2 : (decide (x1 < x.wn)) = true) => have f5 : (x1 < x.wn) := (of_decide_eq_true h2); And.intro (Or.inl ⟨(show 0 < x.wn from by omega), rfl⟩ : famBB x y (bytB x)) (And.intro (Or.inr ⟨(show 0 < y.wn from by omega), rfl⟩ : famBB x y (bytB y)) (And.intro (sk (sk (And.intro (And.intro trivial (@is_ixSq Tryd.prog 22 5 (.tmp 17) (.tmp 18) 1 (by kernel_rfl) (by kernel_rfl) x.wb x.wo x.wn x.wc x1 x.wa (hx.ad (show 0 < x.wn from by omega)) (show x1 < x.wn from by omega))) (And.intro (And.intro trivial (And.intro (show x1 < x.wn from by omega) (@rfl Value (ptr x.wb (x.wo + x1 * 1))))) (sk (sk (And.intro (And.intro trivial (@is_ixSq Tryd.prog 22 5 (.tmp 21) (.tmp 22) 1 (by kernel_rfl) (by kernel_rfl) y.wb y.wo y.wn y.wc x1 y.wa (hy.ad (show 0 < y.wn from by omega)) (show x1 < y.wn from by omega))) (And.intro (And.intro trivial (And.intro (show x1 < y.wn from by omega) (@rfl Value (ptr y.wb (y.wo + x1 * 1))))) (And.intro (And.intro trivial (@is_neq8 Tryd.prog 5 5 (.tmp 20) (.tmp 24) (x.wf x1) (y.wf x1))) trivial))))))))) (And.intro trivial (And.intro (fun (h3 : (!((x.wf x1) == (y.wf x1))) = true) => have f6 : ((x.wf x1) == (y.wf x1)) = false := (bnot_t h3); And.intro (sk trivial) (And.intro trivial (@Exists.intro (List Nat) (fun (ns : List Nat) => ns.length = 0 ∧ ((Value.bool false) : Value) = (fun (_ : List Nat) => Value.bool (sameS x.wf x.wn y.wf y.wn)) ns ∧ ([] : List (Option Blk)) = (fun (_ : List Nat) => []) ns) [] (And.intro (@rfl Nat 0) (And.intro ((show (Value.bool false) = Value.bool (sameS x.wf x.wn y.wf y.wn) from congrArg Value.bool (by first | exact same_len (by omega) | exact same_not (by omega) (same_ne (by assumption))))) (@rfl (List (Option Blk)) [])))))) (fun (h3 : (!((x.wf x1) == (y.wf x1))) = false) => have f6 : ((x.wf x1) == (y.wf x1)) = true := (bnot_f h3); And.intro (sk (And.intro (And.intro trivial (@is_addn Tryd.prog 3 3 (.tmp 15) (.const (.int .i64 1))  x1 1 (show x1 + 1 ≤ 9223372036854775807 from by omega))) (sk trivial))) ((rnd (same_fam_R1 x y) (same_fam_S1 x y) (same_fam_mu1 x y) x1 (x1 + 1 : Nat) (show (same_fam_R1 x y) (x1 + 1 : Nat) ∧ (same_fam_mu1 x y) (x1 + 1 : Nat) < (same_fam_mu1 x y) x1 from (show (((x1 + 1) ≤ x.wn) ∧ (∀ k, k < (x1 + 1) → x.wf k = y.wf k)) ∧ (x.wn - (x1 + 1)) < (x.wn - x1) from by exact ⟨⟨by omega, same_next B1 (by assumption)⟩, by omega⟩)))))))))) (fun (h2 : (decide (x1 < x.wn)) = false) => have f5 : ¬ (x1 < x.wn) := (of_decide_eq_false h2); And.intro (sk trivial) (And.intro trivial (@Exists.intro (List Nat) (fun (ns : List Nat) => ns.length = 0 ∧ ((Value.bool true) : Value) = (fun (_ : List Nat) => Value.bool (sameS x.wf x.wn y.wf y.wn)) ns ∧ ([] : List (Option Blk)) = (fun (_ : List Nat) => []) ns) [] (And.intro (@rfl Nat 0) (And.intro ((show (Value.bool true) = Value.bool (sameS x.wf x.wn y.wf y.wn) from congrArg Value.bool (by exact same_yes (by omega) (by omega) B1))) (@rfl (List (Option Blk)) [])))))))))))))))))
def lists_fam_S1 (x : BytS) (y : BytS) (x1 : Nat) : St := ⟨[(0, .v (Value.slice x.wa x.wn x.wc)), (1, .v (Value.slice y.wa y.wn y.wc)), (5, .v (nat x1))], [], 0⟩
def lists_fam_R1 (x : BytS) (y : BytS) (x1 : Nat) : Prop := (x1 ≤ x.wn) ∧ (∀ k, k < x1 → elS x y k = true)
def lists_fam_mu1 (x : BytS) (y : BytS) (x1 : Nat) : Nat := x.wn - x1
theorem lists_fam (x y : BytS) (hx : OkS x) (hy : OkS y) : RunsF (famSS x y) Tryd.prog 15 [(Value.slice x.wa x.wn x.wc), (Value.slice y.wa y.wn y.wc)] [] 0 (fun (_ : List Nat) => Value.bool (listsB x y)) (fun (_ : List Nat) => []) :=
  runsF_of_ev (F := (famSS x y)) mix Tryd.func15 rfl rfl 400 (.reg [(0, .g)] (.reg [(0, .g), (1, (.as (nat x.wn))), (2, .g), (3, (.as (nat y.wn))), (4, (.as (Value.bool (!(decide (x.wn = y.wn))))))] (.br (.reg [(0, .g)] .done) (.reg [(0, .g)] (.inv [0, 1, 5] [] 0 (lists_fam_R1 x y) (lists_fam_S1 x y) (lists_fam_mu1 x y) (0 : Nat) (fun (x1 : Nat) => (.reg [(0, .g), (1, .g), (2, (.as (nat x.wn))), (3, (.as (Value.bool (decide (x1 < x.wn)))))] (.br (.openr (bysB x) (.openr (bysB y) (.reg [(0, .g), (1, .g), (2, (.as (ptr x.wb (x.wo + x1 * 1)))), (3, (.ld 0 (.tab x1 0))), (4, .g), (5, .g), (6, (.as (ptr y.wb (y.wo + x1 * 1)))), (7, (.ld 1 (.tab x1 0))), (8, (.callF [] 0 0 (fun _ => (Value.bool (elS x y x1))) (fun _ => []))), (9, .g)] (.br (.reg [(0, .g)] .done) (.reg [(0, .g), (1, (.as (nat (x1 + 1)))), (2, .g)] .done))))) (.reg [(0, .g)] .done))))))))) [] [] rfl
    (have f0 : x.wn ≤ 9223372036854775807 := hx.len; have f1 : y.wn ≤ 9223372036854775807 := hy.len; Eq.mp (by kernel_rfl) (And.intro (sk trivial) (And.intro (sk (And.intro (And.intro trivial (@is_len Tryd.prog 24 22 (.tmp 6) (by kernel_rfl) x.wa x.wn x.wc)) (sk (And.intro (And.intro trivial (@is_len Tryd.prog 24 22 (.tmp 8) (by kernel_rfl) y.wa y.wn y.wc)) (And.intro (And.intro trivial (@is_neqn Tryd.prog 3 3 (.tmp 7) (.tmp 9)  x.wn y.wn)) trivial))))) (And.intro trivial (And.intro (fun (h1 : (!(decide (x.wn = y.wn))) = true) => have f2 : ¬ (x.wn = y.wn) := (of_decide_eq_false (bnot_t h1)); And.intro (sk trivial) (And.intro trivial (@Exists.intro (List Nat) (fun (ns : List Nat) => ns.length = 0 ∧ ((Value.bool false) : Value) = (fun (_ : List Nat) => Value.bool (listsB x y)) ns ∧ ([] : List (Option Blk)) = (fun (_ : List Nat) => []) ns) [] (And.intro (@rfl Nat 0) (And.intro ((show (Value.bool false) = Value.bool (listsB x y) from congrArg Value.bool (by first | exact lists_len (by omega) | exact lists_not (by omega) (by assumption)))) (@rfl (List (Option Blk)) [])))))) (fun (h1 : (!(decide (x.wn = y.wn))) = false) => have f2 : (x.wn = y.wn) := (of_decide_eq_true (bnot_f h1)); And.intro (sk trivial) (And.intro (show (lists_fam_R1 x y) (0 : Nat) from (show (0 ≤ x.wn) ∧ (∀ k, k < 0 → elS x y k = true) from by exact ⟨by omega, fun k hk => absurd hk (by omega)⟩)) (And.intro (@rfl St ((lists_fam_S1 x y) (0 : Nat))) (fun (x1 : Nat) (hx1 : (lists_fam_R1 x y) x1) => have B0 : x1 ≤ x.wn := hx1.1; have B1 : ∀ k, k < x1 → elS x y k = true := hx1.2; And.intro (sk (sk (And.intro (And.intro trivial (@is_len Tryd.prog 24 22 (.tmp 12) (by kernel_rfl) x.wa x.wn x.wc)) (And.intro (And.intro trivial (@is_lssn Tryd.prog 3 3 (.tmp 11) (.tmp 13)  x1 x.wn)) trivial)))) (And.intro trivial (And.intro (fun (h2 : (decide (x1 < x.wn)) = true) => have f5 : (x1 < x.wn) := (of_decide_eq_true h2); And.intro (Or.inl (Or.inl ⟨(show 0 < x.wn from by omega), rfl⟩) : famSS x y (bysB x)) (And.intro (Or.inr (Or.inl ⟨(show 0 < y.wn from by omega), rfl⟩) : famSS x y (bysB y)) (And.intro (sk (sk (And.intro (And.intro trivial (@is_ixSq Tryd.prog 24 22 (.tmp 17) (.tmp 18) 1 (by kernel_rfl) (by kernel_rfl) x.wb x.wo x.wn x.wc x1 x.wa (hx.ad (show 0 < x.wn from by omega)) (show x1 < x.wn from by omega))) (And.intro (And.intro trivial (And.intro (show x1 < x.wn from by omega) (@rfl Value (ptr x.wb (x.wo + x1 * 1))))) (sk (sk (And.intro (And.intro trivial (@is_ixSq Tryd.prog 24 22 (.tmp 21) (.tmp 22) 1 (by kernel_rfl) (by kernel_rfl) y.wb y.wo y.wn y.wc x1 y.wa (hy.ad (show 0 < y.wn from by omega)) (show x1 < y.wn from by omega))) (And.intro (And.intro trivial (And.intro (show x1 < y.wn from by omega) (@rfl Value (ptr y.wb (y.wo + x1 * 1))))) (And.intro (And.intro trivial (RunsF.mono (ss_el (show x1 < x.wn from by omega) (show x1 < y.wn from by omega)) (same_fam (x.wf x1) (y.wf x1) (hx.el _ (show x1 < x.wn from by omega)) (hy.el _ (show x1 < y.wn from by omega))))) (sk trivial)))))))))) (And.intro trivial (And.intro (fun (h3 : (!(elS x y x1)) = true) => have f6 : (elS x y x1) = false := (bnot_t h3); And.intro (sk trivial) (And.intro trivial (@Exists.intro (List Nat) (fun (ns : List Nat) => ns.length = 0 ∧ ((Value.bool false) : Value) = (fun (_ : List Nat) => Value.bool (listsB x y)) ns ∧ ([] : List (Option Blk)) = (fun (_ : List Nat) => []) ns) [] (And.intro (@rfl Nat 0) (And.intro ((show (Value.bool false) = Value.bool (listsB x y) from congrArg Value.bool (by first | exact lists_len (by omega) | exact lists_not (by omega) (by assumption)))) (@rfl (List (Option Blk)) [])))))) (fun (h3 : (!(elS x y x1)) = false) => have f6 : (elS x y x1) = true := (bnot_f h3); And.intro (sk (And.intro (And.intro trivial (@is_addn Tryd.prog 3 3 (.tmp 15) (.const (.int .i64 1))  x1 1 (show x1 + 1 ≤ 9223372036854775807 from by omega))) (sk trivial))) ((rnd (lists_fam_R1 x y) (lists_fam_S1 x y) (lists_fam_mu1 x y) x1 (x1 + 1 : Nat) (show (lists_fam_R1 x y) (x1 + 1 : Nat) ∧ (lists_fam_mu1 x y) (x1 + 1 : Nat) < (lists_fam_mu1 x y) x1 from (show (((x1 + 1) ≤ x.wn) ∧ (∀ k, k < (x1 + 1) → elS x y k = true)) ∧ (x.wn - (x1 + 1)) < (x.wn - x1) from by exact ⟨⟨by omega, lists_next B1 (by assumption)⟩, by omega⟩)))))))))) (fun (h2 : (decide (x1 < x.wn)) = false) => have f5 : ¬ (x1 < x.wn) := (of_decide_eq_false h2); And.intro (sk trivial) (And.intro trivial (@Exists.intro (List Nat) (fun (ns : List Nat) => ns.length = 0 ∧ ((Value.bool true) : Value) = (fun (_ : List Nat) => Value.bool (listsB x y)) ns ∧ ([] : List (Option Blk)) = (fun (_ : List Nat) => []) ns) [] (And.intro (@rfl Nat 0) (And.intro ((show (Value.bool true) = Value.bool (listsB x y) from congrArg Value.bool (by exact lists_yes (by omega) (by omega) B1))) (@rfl (List (Option Blk)) [])))))))))))))))))
end Go.Proofs.YtagbdahcopkpjaaDoor
end
section
namespace Go.Eng
open Go.RowKit Go.WideShapes Go.ChangeShapes Go.ChangeAt Go.Deep
set_option linter.unusedSimpArgs false
set_option linter.unusedVariables false
set_option maxRecDepth 100000
def u8C (x : UInt8) : List Value := [u8 x]
theorem u8C_ok (x : UInt8) : (u8C x).length = 1 ∧ (u8C x).all Value.oneCell' = true := ⟨rfl, rfl⟩
theorem gsE_u8 (A : Grw UInt8) : gsE u8C [u8 0] 1 A = grO u8 (u8 0) A := by
  unfold gsE grO
  cases A.z with
  | true => rfl
  | false =>
    simp only
    congr 2
    unfold sprE spr tabF
    congr 1
    funext k
    by_cases h : k < A.n
    · show _ = [if k < A.n then u8 (A.f k) else u8 0]
      rw [if_pos h, if_pos h]; rfl
    · show _ = [if k < A.n then u8 (A.f k) else u8 0]
      rw [if_neg h, if_neg h]
theorem listMem_nones {bs l : List (Option Blk)} {p : Nat} {b : Blk} (h : listMem (bs.map (fun _ => (none : Option Blk)) ++ l) p = some b) : ∃ p', p = bs.length + p' ∧ listMem l p' = some b := by
  rcases listMem_app h with ⟨h1, h2⟩ | ⟨h1, h2⟩
  · exfalso
    unfold listMem at h2
    rw [List.getElem?_map] at h2
    cases h3 : bs[p]? <;> rw [h3] at h2 <;> cases h2
  · rw [List.length_map] at h1 h2
    exact ⟨p - bs.length, by omega, h2⟩
theorem RunsO.lendL {F G : Blk → Prop} {P : Program} {f : FuncId} {args : List Value} {bs : List (Option Blk)} {k : Nat} {v : List Nat → Value} {out : List Nat → List (Option Blk)} (h : RunsO G P f args [] k v out)
    (hG : ∀ w : World, FamH F w → (∀ p b, listMem bs p = some b → Holds b w) → FamH G w) : RunsO F P f args bs k v (fun ns => bs.map (fun _ => none) ++ out ns) := by
  intro w hm ha hF
  have hno : ∀ k, ¬ Owns (listMem ([] : List (Option Blk))) k := fun k ⟨p, b, h1, _⟩ => by simp [listMem] at h1
  have hw := hG w (fun b hb => ⟨(hF b hb).1, (hF b hb).2.1⟩) hm
  refine Calls.mono (h w (fun p b hb => by simp [listMem] at hb) (fun p q b c _ hb => by simp [listMem] at hb) fun b hb => ⟨(hw b hb).1, (hw b hb).2, fun k _ => hno k⟩) ?_
  rintro e w' ⟨ns, hns, he, hp⟩
  refine ⟨ns, hns, he, ⟨fun p b hpb => ?_, fun p q b c hpq hpb hqc ho => ?_, ⟨hp.adv.os, hp.adv.output, hp.adv.tape, hp.adv.size, fun k hk _ => hp.adv.heap k hk (hno k), fun k ⟨p, b, h1, h2, h3⟩ => ?_, fun p b hpb ho => ?_⟩⟩⟩
  · obtain ⟨p', _, h2⟩ := listMem_nones hpb
    exact hp.holds p' b h2
  · obtain ⟨p', h1, h2⟩ := listMem_nones hpb
    obtain ⟨q', h3, h4⟩ := listMem_nones hqc
    exact hp.apart p' q' b c (by omega) h2 h4 ho
  · obtain ⟨p', _, h4⟩ := listMem_nones h1
    rcases hp.adv.names k ⟨p', b, h4, h2, h3⟩ with h5 | h5
    · exact absurd h5 (hno k)
    · exact .inr h5
  · obtain ⟨p', _, h4⟩ := listMem_nones hpb
    have := hp.adv.ro p' b h4 ho
    simp [listMem] at this
theorem RunsO.lendP {F F' : Blk → Prop} {P : Program} {f : FuncId} {args : List Value} {k : Nat} {v : List Nat → Value} {out : List Nat → List (Option Blk)} (hF : SubH F F') (h : RunsO F P f args [] k v out) : RunsO F' P f args [] k v out :=
  h.lendL fun w hw _ => hF w hw
section
variable {D : Grw UInt8}
def recD (D : Grw UInt8) : BytL := ⟨gsA D, D.n, gsC D, D.nm, 0, D.f⟩
theorem recD_ok (h : D.ok) (hl : D.n ≤ 9223372036854775807) : OkB (recD D) := ⟨gs_le h, fun h0 => gsA_own (h.pos h0), hl⟩
theorem recD_fam (h : D.ok) {F : Blk → Prop} {w : World} (hb : ∀ b, roO (gsE u8C [u8 0] 1 D) = some b → Holds b w) : FamH (famB (recD D)) w := fun b hb' => by
  obtain ⟨h0, rfl⟩ := hb'
  have hz := h.pos h0
  have h1 := hb ⟨D.nm, false, 0, spr (D.n + D.r) D.n (fun k => u8 (D.f k)) (u8 0)⟩ (by rw [gsE_u8, grO_own hz]; rfl)
  exact ⟨holds_sprB h1, rfl⟩
def clD (D : Grw UInt8) (a r : Nat) : Grw UInt8 := ⟨D.z, a, D.n, r, D.f⟩
theorem clD_ok (h : D.ok) (a r : Nat) : (clD D a r).ok := h
theorem clG_D (a r : Nat) : clG (recD D) a r = clD D a r := by
  unfold clG clD recD gsA
  cases D.z <;> rfl
def opG (q : BytL) (a r : Nat) : Grw UInt8 := ⟨q.wa.isNone, a, atK q.wf (nR q.wf q.wn), r, q.wf⟩
theorem opG_ok {q : BytL} (hq : OkB q) (a r : Nat) : (opG q a r).ok := fun h => by
  have h1 : q.wa.isNone = true := h
  show atK q.wf (nR q.wf q.wn) = 0
  have := (nR_good q.wf q.wn).1
  rcases Nat.eq_zero_or_pos q.wn with h0 | h0
  · omega
  · rw [hq.ad h0] at h1; cases h1
end
theorem is_max0 {P : Program} {x y : Operand} {ts : Array TypeId} (a : Int) : IsOp P (.call { callee := .builtin .max, args := #[x, y], argTypes := ts }) [int a, int 0] (nat a.toNat) := by
  intro ρ o ho hv
  rw [ho] at hv
  have hv' : ρ x = int a ∧ ρ y = int 0 := by simpa [Op.operands, Call.operands] using hv
  unfold execOp
  rw [ho]
  show pureRun P ((Builtin.max_ ts o.type (#[x, y].map ρ)) >>= fun v => (pure (Next.value v) : Sem Next)) = _
  have e1 : (#[x, y].map ρ : Array Value) = #[int a, int 0] := by simp [hv'.1, hv'.2]
  have e2 : pureRun P (Builtin.max_ ts o.type #[int a, int 0]) = some (nat a.toNat) := by
    show some (Value.int .i64 (if (a < (0 : Int)) then (0 : Int) else a)) = _
    unfold nat
    congr 2
    split <;> omega
  rw [e1, pureRun_bind', e2]
  rfl
theorem spr_head {b n r m : Nat} {f : Nat → UInt8} {z : Value} (h : m ≤ n) : 0 < m → ∃ kk bo os S, (some ⟨b, 0, none⟩ : Option Addr) = some ⟨kk, bo + os, none⟩ ∧ (some ⟨b, false, 0, spr (n + r) n (fun k => u8 (f k)) z⟩ : Option Blk) = some ⟨kk, false, bo, S⟩ ∧ ∀ j, j < m * 1 → S.get (os + j) = some (cf 1 (fun k => u8C (f k)) j) := fun _ => by
  refine ⟨b, 0, 0, _, rfl, rfl, fun j hj => ?_⟩
  rw [Nat.zero_add, spr, tabF_in (by omega), if_pos (by omega)]
  unfold cf u8C
  rw [Nat.div_one, Nat.mod_one]
  rfl
end Go.Eng
end
section
namespace Go.Proofs.YtagbdahcopkpjaaDoor
open Go Go.Eng
set_option linter.unusedVariables false
set_option linter.unusedSimpArgs false
set_option maxRecDepth 100000
set_option maxHeartbeats 1000000
theorem aggb5 : AggC Tryd.prog 5 [u8 0] 1 1 := aggC_of (z := u8 0) (by kernel_rfl) rfl rfl (by decide)
theorem clone_q (q : BytL) (hq : OkB q) (hl : q.wn ≤ 140737488355328) : RunsO (famB q) Tryd.prog 22 [slqV q] [] 2 (fun ns => gsV (clG q (ns.getD 0 0) (ns.getD 1 0))) (fun ns => [gsE u8C [u8 0] 1 (clG q (ns.getD 0 0) (ns.getD 1 0))]) := by
  simp only [gsE_u8]; exact clone_gen q hq hl
theorem clone_D {F : Blk → Prop} (D : Grw UInt8) (hD : D.ok) (hl : D.n ≤ 140737488355328) : RunsO F Tryd.prog 22 [gsV D] [roO (gsE u8C [u8 0] 1 D)] 2 (fun ns => gsV (clD D (ns.getD 0 0) (ns.getD 1 0))) (fun ns => [none, gsE u8C [u8 0] 1 (clD D (ns.getD 0 0) (ns.getD 1 0))]) := by
  have h := clone_q (recD D) (recD_ok hD (by omega)) hl
  simp only [clG_D] at h
  exact (h.lendL (F := F) (bs := [roO (gsE u8C [u8 0] 1 D)]) fun w hw hb => recD_fam (F := F) hD fun b hb' => hb 0 b hb')
theorem replay_D {F : Blk → Prop} (hT : ∀ z, famT z → F z) (D : Grw UInt8) (hD : D.ok) (hl : D.n ≤ 1000000000) : RunsO F Tryd.prog 9 [gsV D] [roO (gsE u8C [u8 0] 1 D)] 4 (fun ns => .tuple #[gsV (gsOf (nR D.f D.n) (elF (ns.getD 0 0) (ns.getD 1 0) (jL D.f) (jf D.f)) (ns.getD 2 0) (ns.getD 3 0)), nat (atK D.f (nR D.f D.n))])
    (fun ns => [none, gsE slqC [Value.slice none 0 0] 1 (gsOf (nR D.f D.n) (elF (ns.getD 0 0) (ns.getD 1 0) (jL D.f) (jf D.f)) (ns.getD 2 0) (ns.getD 3 0)), plO (nR D.f D.n) (ns.getD 0 0) (ns.getD 1 0) (jL D.f) (jf D.f)]) :=
  (replay_run (recD D) (recD_ok hD (by omega)) hl).lendL (F := F) (bs := [roO (gsE u8C [u8 0] 1 D)]) fun w hw hb => hold_or (fun z hz => hw z (hT z hz)) (recD_fam (F := F) hD fun b hb' => hb 0 b hb')
theorem disk_run {F : Blk → Prop} (j : Nat) (D : Grw UInt8) (hD : D.ok) (hl : D.n ≤ 100000000) : RunsO F Tryd.prog 13 [(ptr j 0)] [some ⟨j, true, 0, (.lit [(gsV D)])⟩, (gsE u8C [u8 0] 1 D)] 2 (fun (ns : List Nat) => (gsV (clD D (ns.getD 0 0) (ns.getD 1 0)))) (fun (ns : List Nat) => [some ⟨j, true, 0, (.lit [(gsV D)])⟩, (gsE u8C [u8 0] 1 D), (gsE u8C [u8 0] 1 (clD D (ns.getD 0 0) (ns.getD 1 0)))]) :=
  runsO_of_ev mix Tryd.func13 rfl rfl 400 (.reg [(0, .g)] (.regn [(0, .g), (1, .g), (2, .g), (3, (.ld 0 (.lit 0))), (4, (.callO [(1, true)] 2 1 (fun ns => gsV (clD D (ns.getD 0 0) (ns.getD 1 0))) (fun ns => [none, (gsE u8C [u8 0] 1 (clD D (ns.getD 0 0) (ns.getD 1 0)))]))), (5, .g)] (more (fun n1 => more (fun n2 => fun _ => .done))))) [] [2] rfl
    (have f0 : D.n ≤ 100000000 := hl; Eq.mp (by kernel_rfl) (And.intro (sk trivial) (fun (n1 n2 : Nat) => And.intro (sk (sk (sk (And.intro (And.intro trivial (ad j 0)) (And.intro (And.intro trivial (clone_D (F := F) D hD (show D.n ≤ 140737488355328 from by omega))) (sk trivial)))))) (And.intro trivial (@Exists.intro (List Nat) (fun (ns : List Nat) => ns.length = 2 ∧ ((gsV (clD D n1 n2)) : Value) = (fun (ns : List Nat) => (gsV (clD D (ns.getD 0 0) (ns.getD 1 0)))) ns ∧ ([some ⟨j, true, 0, (.lit [(gsV D)])⟩, (gsE u8C [u8 0] 1 D), (gsE u8C [u8 0] 1 (clD D n1 n2))] : List (Option Blk)) = (fun (ns : List Nat) => [some ⟨j, true, 0, (.lit [(gsV D)])⟩, (gsE u8C [u8 0] 1 D), (gsE u8C [u8 0] 1 (clD D (ns.getD 0 0) (ns.getD 1 0)))]) ns) [n1, n2] (And.intro (@rfl Nat 2) (And.intro (@rfl Value (gsV (clD D n1 n2))) (@rfl (List (Option Blk)) [some ⟨j, true, 0, (.lit [(gsV D)])⟩, (gsE u8C [u8 0] 1 D), (gsE u8C [u8 0] 1 (clD D n1 n2))]))))))))
theorem recs_run0 (j : Nat) (D : Grw UInt8) (hD : D.ok) (hl : D.n ≤ 100000000) : RunsO famT Tryd.prog 12 [(ptr j 0)] [some ⟨j, true, 0, (.lit [(gsV D)])⟩, (gsE u8C [u8 0] 1 D)] 4 (fun (ns : List Nat) => (gsV (gsOf (nR D.f D.n) (elF (ns.getD 0 0) (ns.getD 1 0) (jL D.f) (jf D.f)) (ns.getD 2 0) (ns.getD 3 0)))) (fun (ns : List Nat) => [some ⟨j, true, 0, (.lit [(gsV D)])⟩, (gsE u8C [u8 0] 1 D), (gsE slqC [Value.slice none 0 0] 1 (gsOf (nR D.f D.n) (elF (ns.getD 0 0) (ns.getD 1 0) (jL D.f) (jf D.f)) (ns.getD 2 0) (ns.getD 3 0))), (plO (nR D.f D.n) (ns.getD 0 0) (ns.getD 1 0) (jL D.f) (jf D.f))]) :=
  runsO_of_ev mix Tryd.func12 rfl rfl 400 (.reg [(0, .g)] (.regn [(0, .g), (1, .g), (2, .g), (3, (.ld 0 (.lit 0))), (4, (.callO [(1, true)] 4 2 (fun ns => Value.tuple #[(gsV (gsOf (nR D.f D.n) (elF (ns.getD 0 0) (ns.getD 1 0) (jL D.f) (jf D.f)) (ns.getD 2 0) (ns.getD 3 0))), (nat (atK D.f (nR D.f D.n)))]) (fun ns => [none, (gsE slqC [Value.slice none 0 0] 1 (gsOf (nR D.f D.n) (elF (ns.getD 0 0) (ns.getD 1 0) (jL D.f) (jf D.f)) (ns.getD 2 0) (ns.getD 3 0))), (plO (nR D.f D.n) (ns.getD 0 0) (ns.getD 1 0) (jL D.f) (jf D.f))]))), (5, .g), (6, .g), (7, .g), (8, .g), (9, .g)] (more (fun n1 => more (fun n2 => more (fun n3 => more (fun n4 => fun _ => (.reg [(0, .g), (1, .g)] .done)))))))) [] [2, 3] rfl
    (have f0 : D.n ≤ 100000000 := hl; Eq.mp (by kernel_rfl) (And.intro (sk trivial) (fun (n1 n2 n3 n4 : Nat) => And.intro (sk (sk (sk (And.intro (And.intro trivial (ad j 0)) (And.intro (And.intro trivial (replay_D (F := famT) (fun z hz => hz) D hD (show D.n ≤ 1000000000 from by omega))) (sk (sk (sk (sk (sk trivial)))))))))) (And.intro (sk (sk trivial)) (And.intro trivial (@Exists.intro (List Nat) (fun (ns : List Nat) => ns.length = 4 ∧ ((gsV (gsOf (nR D.f D.n) (elF n1 n2 (jL D.f) (jf D.f)) n3 n4)) : Value) = (fun (ns : List Nat) => (gsV (gsOf (nR D.f D.n) (elF (ns.getD 0 0) (ns.getD 1 0) (jL D.f) (jf D.f)) (ns.getD 2 0) (ns.getD 3 0)))) ns ∧ ([some ⟨j, true, 0, (.lit [(gsV D)])⟩, (gsE u8C [u8 0] 1 D), (gsE slqC [Value.slice none 0 0] 1 (gsOf (nR D.f D.n) (elF n1 n2 (jL D.f) (jf D.f)) n3 n4)), (plO (nR D.f D.n) n1 n2 (jL D.f) (jf D.f))] : List (Option Blk)) = (fun (ns : List Nat) => [some ⟨j, true, 0, (.lit [(gsV D)])⟩, (gsE u8C [u8 0] 1 D), (gsE slqC [Value.slice none 0 0] 1 (gsOf (nR D.f D.n) (elF (ns.getD 0 0) (ns.getD 1 0) (jL D.f) (jf D.f)) (ns.getD 2 0) (ns.getD 3 0))), (plO (nR D.f D.n) (ns.getD 0 0) (ns.getD 1 0) (jL D.f) (jf D.f))]) ns) [n1, n2, n3, n4] (And.intro (@rfl Nat 4) (And.intro (@rfl Value (gsV (gsOf (nR D.f D.n) (elF n1 n2 (jL D.f) (jf D.f)) n3 n4))) (@rfl (List (Option Blk)) [some ⟨j, true, 0, (.lit [(gsV D)])⟩, (gsE u8C [u8 0] 1 D), (gsE slqC [Value.slice none 0 0] 1 (gsOf (nR D.f D.n) (elF n1 n2 (jL D.f) (jf D.f)) n3 n4)), (plO (nR D.f D.n) n1 n2 (jL D.f) (jf D.f))])))))))))
theorem recs_run {F : Blk → Prop} (hT : ∀ z, famT z → F z) (j : Nat) (D : Grw UInt8) (hD : D.ok) (hl : D.n ≤ 100000000) : RunsO F Tryd.prog 12 [ptr j 0] [some ⟨j, true, 0, .lit [gsV D]⟩, gsE u8C [u8 0] 1 D] 4 (fun ns => (gsV (gsOf (nR D.f D.n) (elF (ns.getD 0 0) (ns.getD 1 0) (jL D.f) (jf D.f)) (ns.getD 2 0) (ns.getD 3 0)))) (fun ns => [some ⟨j, true, 0, .lit [gsV D]⟩, gsE u8C [u8 0] 1 D, (gsE slqC [Value.slice none 0 0] 1 (gsOf (nR D.f D.n) (elF (ns.getD 0 0) (ns.getD 1 0) (jL D.f) (jf D.f)) (ns.getD 2 0) (ns.getD 3 0))), (plO (nR D.f D.n) (ns.getD 0 0) (ns.getD 1 0) (jL D.f) (jf D.f))]) := (recs_run0 j D hD hl).mono hT
theorem len_run0 (j : Nat) (D : Grw UInt8) (hD : D.ok) (hl : D.n ≤ 100000000) : RunsO famT Tryd.prog 14 [(ptr j 0)] [some ⟨j, true, 0, (.lit [(gsV D)])⟩, (gsE u8C [u8 0] 1 D)] 0 (fun (_ : List Nat) => (nat (nR D.f D.n))) (fun (_ : List Nat) => [some ⟨j, true, 0, (.lit [(gsV D)])⟩, (gsE u8C [u8 0] 1 D)]) :=
  runsO_of_ev mix Tryd.func14 rfl rfl 400 (.reg [(0, .g)] (.regn [(0, .g), (1, (.callO [(0, false), (1, false)] 4 2 (fun ns => (gsV (gsOf (nR D.f D.n) (elF (ns.getD 0 0) (ns.getD 1 0) (jL D.f) (jf D.f)) (ns.getD 2 0) (ns.getD 3 0)))) (fun ns => [some ⟨j, true, 0, (.lit [(gsV D)])⟩, (gsE u8C [u8 0] 1 D), (gsE slqC [Value.slice none 0 0] 1 (gsOf (nR D.f D.n) (elF (ns.getD 0 0) (ns.getD 1 0) (jL D.f) (jf D.f)) (ns.getD 2 0) (ns.getD 3 0))), (plO (nR D.f D.n) (ns.getD 0 0) (ns.getD 1 0) (jL D.f) (jf D.f))]))), (2, (.as (nat (nR D.f D.n)))), (3, .g)] (more (fun n1 => more (fun n2 => more (fun n3 => more (fun n4 => fun _ => .done))))))) [] [] rfl
    (have f0 : D.n ≤ 100000000 := hl; Eq.mp (by kernel_rfl) (And.intro (sk trivial) (fun (n1 n2 n3 n4 : Nat) => And.intro (sk (And.intro (And.intro trivial (recs_run (F := famT) (fun z hz => hz) j D hD (show D.n ≤ 100000000 from by omega))) (And.intro (And.intro trivial (@is_len Tryd.prog 24 22 (.tmp 4) (by kernel_rfl) (gsA (gsOf (nR D.f D.n) (elF n1 n2 (jL D.f) (jf D.f)) n3 n4)) (nR D.f D.n) (gsC (gsOf (nR D.f D.n) (elF n1 n2 (jL D.f) (jf D.f)) n3 n4)))) (sk trivial)))) (And.intro trivial (@Exists.intro (List Nat) (fun (ns : List Nat) => ns.length = 0 ∧ ((nat (nR D.f D.n)) : Value) = (fun (_ : List Nat) => (nat (nR D.f D.n))) ns ∧ ([some ⟨j, true, 0, (.lit [(gsV D)])⟩, (gsE u8C [u8 0] 1 D)] : List (Option Blk)) = (fun (_ : List Nat) => [some ⟨j, true, 0, (.lit [(gsV D)])⟩, (gsE u8C [u8 0] 1 D)]) ns) [] (And.intro (@rfl Nat 0) (And.intro (@rfl Value (nat (nR D.f D.n))) (@rfl (List (Option Blk)) [some ⟨j, true, 0, (.lit [(gsV D)])⟩, (gsE u8C [u8 0] 1 D)]))))))))
theorem jlen_run {F : Blk → Prop} (hT : ∀ z, famT z → F z) (j : Nat) (D : Grw UInt8) (hD : D.ok) (hl : D.n ≤ 100000000) : RunsO F Tryd.prog 14 [ptr j 0] [some ⟨j, true, 0, .lit [gsV D]⟩, gsE u8C [u8 0] 1 D] 0 (fun _ => nat (nR D.f D.n)) (fun _ => [some ⟨j, true, 0, .lit [gsV D]⟩, gsE u8C [u8 0] 1 D]) := (len_run0 j D hD hl).mono hT
theorem open_run (q : BytL) (hq : OkB q) (hl : q.wn ≤ 100000000) : RunsO (famTB q) Tryd.prog 11 [(Value.slice q.wa q.wn q.wc)] [] 3 (fun (ns : List Nat) => (ptr (ns.getD 0 0) 0)) (fun (ns : List Nat) => [some ⟨(ns.getD 0 0), true, 0, (.lit [(gsV (opG q (ns.getD 1 0) (ns.getD 2 0)))])⟩, (gsE u8C [u8 0] 1 (opG q (ns.getD 1 0) (ns.getD 2 0)))]) :=
  runsO_of_ev mix Tryd.func11 rfl rfl 400 (.reg [(0, .g)] (.regn [(0, .g), (1, (.callO [] 4 2 (fun ns => Value.tuple #[(gsV (gsOf (nR q.wf q.wn) (elF (ns.getD 0 0) (ns.getD 1 0) (jL q.wf) (jf q.wf)) (ns.getD 2 0) (ns.getD 3 0))), (nat (atK q.wf (nR q.wf q.wn)))]) (fun ns => [(gsE slqC [Value.slice none 0 0] 1 (gsOf (nR q.wf q.wn) (elF (ns.getD 0 0) (ns.getD 1 0) (jL q.wf) (jf q.wf)) (ns.getD 2 0) (ns.getD 3 0))), (plO (nR q.wf q.wn) (ns.getD 0 0) (ns.getD 1 0) (jL q.wf) (jf q.wf))]))), (2, .g), (3, .g), (4, .g), (5, .g), (6, .g)] (more (fun n1 => more (fun n2 => more (fun n3 => more (fun n4 => fun _ => (.regn [(0, .g), (1, .g), (2, (.as (Value.slice q.wa (atK q.wf (nR q.wf q.wn)) q.wc))), (3, (.callO [] 2 1 (fun ns => gsV (opG q (ns.getD 0 0) (ns.getD 1 0))) (fun ns => [(gsE u8C [u8 0] 1 (opG q (ns.getD 0 0) (ns.getD 1 0)))]))), (4, .g), (5, .new), (6, .g)] (more (fun n5 => more (fun n6 => more (fun n7 => fun _ => .done)))))))))))) [] [3, 2] rfl
    (have f0 : q.wn ≤ q.wc ∧ q.wn ≤ 9223372036854775807 := ⟨hq.cap, hq.len⟩; have f1 : q.wn ≤ 100000000 := hl; Eq.mp (by kernel_rfl) (And.intro (sk trivial) (fun (n1 n2 n3 n4 : Nat) => And.intro (sk (And.intro (And.intro trivial (replay_run q hq (show q.wn ≤ 1000000000 from by have fg := (nR_good q.wf q.wn).1; omega))) (sk (sk (sk (sk (sk trivial))))))) (fun (n5 n6 n7 : Nat) => And.intro (sk (sk (And.intro (And.intro trivial (@is_slqTo Tryd.prog 22 5 (.tmp 10) (.tmp 11) (by kernel_rfl) 1 (by kernel_rfl) q.wa q.wn q.wc (atK q.wf (nR q.wf q.wn)) (show (atK q.wf (nR q.wf q.wn)) ≤ q.wc from by have fg := (nR_good q.wf q.wn).1; omega))) (And.intro (And.intro trivial ((clone_q (bytT q (atK q.wf (nR q.wf q.wn))) (okb_to hq (show (atK q.wf (nR q.wf q.wn)) ≤ q.wn from by have fg := (nR_good q.wf q.wn).1; omega)) (show (atK q.wf (nR q.wf q.wn)) ≤ 140737488355328 from by have fg := (nR_good q.wf q.wn).1; omega)).lendP (sh_to (show (atK q.wf (nR q.wf q.wn)) ≤ q.wn from by have fg := (nR_good q.wf q.wn).1; omega) (sh_sub (fun z hz => (Or.inr hz : famTB q z)))))) (sk (sk (sk trivial))))))) (And.intro trivial (@Exists.intro (List Nat) (fun (ns : List Nat) => ns.length = 3 ∧ ((ptr n7 0) : Value) = (fun (ns : List Nat) => (ptr (ns.getD 0 0) 0)) ns ∧ ([some ⟨n7, true, 0, (.lit [(gsV (opG q n5 n6))])⟩, (gsE u8C [u8 0] 1 (opG q n5 n6))] : List (Option Blk)) = (fun (ns : List Nat) => [some ⟨(ns.getD 0 0), true, 0, (.lit [(gsV (opG q (ns.getD 1 0) (ns.getD 2 0)))])⟩, (gsE u8C [u8 0] 1 (opG q (ns.getD 1 0) (ns.getD 2 0)))]) ns) [n7, n5, n6] (And.intro (@rfl Nat 3) (And.intro (@rfl Value (ptr n7 0)) (@rfl (List (Option Blk)) [some ⟨n7, true, 0, (.lit [(gsV (opG q n5 n6))])⟩, (gsE u8C [u8 0] 1 (opG q n5 n6))])))))))))
theorem torn_ok (j : Nat) (D : Grw UInt8) (q : BytL) (n : Int) (hD : D.ok) (hl : D.n ≤ 100000000) (hq : OkB q) (h4 : q.wn ≤ 4000) : RunsO (famTB q) Tryd.prog 19 [(ptr j 0), (Value.slice q.wa q.wn q.wc), (int n)] [some ⟨j, true, 0, (.lit [(gsV D)])⟩, (gsE u8C [u8 0] 1 D)] 2 (fun (ns : List Nat) => (int 0)) (fun (ns : List Nat) => [some ⟨j, true, 0, (.lit [(gsV (Grw.cat D (min n.toNat (8 + q.wn)) (frF q.wn q.wf) (ns.getD 0 0) (ns.getD 1 0)))])⟩, (gsE u8C [u8 0] 1 (Grw.cat D (min n.toNat (8 + q.wn)) (frF q.wn q.wf) (ns.getD 0 0) (ns.getD 1 0)))]) :=
  runsO_of_ev mix Tryd.func19 rfl rfl 400 (.reg [(0, .g)] (.regn [(0, .g), (1, (.callF [] 2 1 (fun ns => (Value.tuple #[Value.slice (some ⟨(ns.getD 0 0), 0, none⟩) (8 + q.wn) (8 + q.wn + (ns.getD 1 0)), int 0])) (fun ns => [some ⟨(ns.getD 0 0), true, 0, (spr (8 + q.wn + (ns.getD 1 0)) (8 + q.wn) (fun k => u8 (frF q.wn q.wf k)) (u8 0))⟩]))), (2, .g), (3, .g), (4, .g), (5, .g), (6, .g)] (more (fun n1 => more (fun n2 => fun _ => (.reg [(0, .g), (1, .g)] (.no (.regn [(0, .g), (1, .g), (2, .g), (3, .g), (4, (.ld 0 (.lit 0))), (5, .g), (6, .g), (7, (.as (nat n.toNat))), (8, .g), (9, (.as (nat (8 + q.wn)))), (10, (.as (nat (min n.toNat (8 + q.wn))))), (11, (.as (Value.slice (some ⟨n1, 0, none⟩) (min n.toNat (8 + q.wn)) (8 + q.wn + n2)))), (12, (.othO [(1, false), (2, true)] 2 0 (fun ns => gsV (Grw.cat D (min n.toNat (8 + q.wn)) (frF q.wn q.wf) (ns.getD 0 0) (ns.getD 1 0))) (fun ns => [(gsE u8C [u8 0] 1 (Grw.cat D (min n.toNat (8 + q.wn)) (frF q.wn q.wf) (ns.getD 0 0) (ns.getD 1 0))), none]))), (13, .g), (14, .g), (15, (.st 0 (.lit 0)))] (more (fun n3 => more (fun n4 => fun _ => (.reg [(0, .g)] .done)))))))))))) [] [] rfl
    (have f0 : D.n ≤ 100000000 := hl; have f1 : q.wn ≤ q.wc ∧ q.wn ≤ 9223372036854775807 := ⟨hq.cap, hq.len⟩; have f2 : q.wn ≤ 4000 := h4; Eq.mp (by kernel_rfl) (And.intro (sk trivial) (fun (n1 n2 : Nat) => And.intro (sk (And.intro (And.intro trivial (frame_ok q hq (show q.wn ≤ 4000 from by omega))) (sk (sk (sk (sk (sk trivial))))))) (And.intro (sk (sk trivial)) (And.intro trivial (And.intro (@rfl Bool false) (fun (n3 n4 : Nat) => And.intro (sk (sk (sk (sk (And.intro (And.intro trivial (ad j 0)) (sk (sk (And.intro (And.intro trivial (@is_max0 Tryd.prog (.tmp 23) (.const (.int .i64 0)) #[3, 3] n)) (sk (And.intro (And.intro trivial (@is_len Tryd.prog 22 5 (.tmp 25) (by kernel_rfl) (some ⟨n1, 0, none⟩) (8 + q.wn) (8 + q.wn + n2))) (And.intro (And.intro trivial (@is_minN Tryd.prog (.tmp 24) (.tmp 26) #[3, 3] n.toNat (8 + q.wn))) (And.intro (And.intro trivial (@is_slTo Tryd.prog 22 5 (.tmp 22) (.tmp 27) 1 (by kernel_rfl) (by kernel_rfl) n1 0 (8 + q.wn) (8 + q.wn + n2) (min n.toNat (8 + q.wn)) (show min n.toNat (8 + q.wn) ≤ 8 + q.wn + n2 from by omega))) (And.intro (And.intro trivial (mkG_catE (C := u8C) (zc := [u8 0]) (sz := 1) (P := Tryd.prog) (t := 22) (ty := 22) (e := 5) (by kernel_rfl) aggb5 D hD u8C_ok (frF q.wn q.wf) (min n.toNat (8 + q.wn)) (some ⟨n1, 0, none⟩) (8 + q.wn + n2) (some ⟨n1, false, 0, (spr (8 + q.wn + n2) (8 + q.wn) (fun k => u8 (frF q.wn q.wf k)) (u8 0))⟩) (spr_head (show min n.toNat (8 + q.wn) ≤ 8 + q.wn from by omega)) (show (D.n + (min n.toNat (8 + q.wn))) * 1 ≤ 140737488355328 ∧ D.n + (min n.toNat (8 + q.wn)) ≤ 9223372036854775807 from by omega))) (sk (sk (And.intro (And.intro trivial (ad j 0)) trivial)))))))))))))))) (And.intro (sk trivial) (And.intro trivial (@Exists.intro (List Nat) (fun (ns : List Nat) => ns.length = 2 ∧ ((int 0) : Value) = (fun (ns : List Nat) => (int 0)) ns ∧ ([some ⟨j, true, 0, (.lit [(gsV (Grw.cat D (min n.toNat (8 + q.wn)) (frF q.wn q.wf) n3 n4))])⟩, (gsE u8C [u8 0] 1 (Grw.cat D (min n.toNat (8 + q.wn)) (frF q.wn q.wf) n3 n4))] : List (Option Blk)) = (fun (ns : List Nat) => [some ⟨j, true, 0, (.lit [(gsV (Grw.cat D (min n.toNat (8 + q.wn)) (frF q.wn q.wf) (ns.getD 0 0) (ns.getD 1 0)))])⟩, (gsE u8C [u8 0] 1 (Grw.cat D (min n.toNat (8 + q.wn)) (frF q.wn q.wf) (ns.getD 0 0) (ns.getD 1 0)))]) ns) [n3, n4] (And.intro (@rfl Nat 2) (And.intro (@rfl Value (int 0)) (@rfl (List (Option Blk)) [some ⟨j, true, 0, (.lit [(gsV (Grw.cat D (min n.toNat (8 + q.wn)) (frF q.wn q.wf) n3 n4))])⟩, (gsE u8C [u8 0] 1 (Grw.cat D (min n.toNat (8 + q.wn)) (frF q.wn q.wf) n3 n4))])))))))))))))
end Go.Proofs.YtagbdahcopkpjaaDoor
end
section
namespace Go.Eng
open Go.RowKit Go.WideShapes Go.ChangeShapes Go.ChangeAt Go.Deep
set_option linter.unusedSimpArgs false
set_option linter.unusedVariables false
set_option maxRecDepth 100000
def FrAt (f : Nat → UInt8) (e : Nat) (x : BytL) : Prop := ∀ i, i < 8 + x.wn → f (e + i) = frF x.wn x.wf i
theorem siz4_be {n : Nat} (h : n ≤ 4000) {f : Nat → UInt8} (hf : ∀ i, i < 4 → f i = siz4 n i) : be4 f = n := by
  unfold be4
  rw [hf 0 (by omega), hf 1 (by omega), hf 2 (by omega), hf 3 (by omega)]
  show ((((UInt8.ofNat (n / 16777216)).toNat * 256 + (UInt8.ofNat (n / 65536)).toNat) * 256 + (UInt8.ofNat (n / 256)).toNat) * 256 + (UInt8.ofNat n).toNat) = n
  simp only [UInt8.toNat_ofNat']
  omega
section
variable {f : Nat → UInt8} {e n : Nat} {x : BytL}
theorem fr_be4 (hx : x.wn ≤ 4000) (h : FrAt f e x) : be4 (fun i => f (i + e)) = x.wn :=
  siz4_be hx fun i hi => by
    show f (i + e) = _
    rw [Nat.add_comm, h i (by omega)]
    unfold frF catU
    rw [if_pos (by omega), if_pos hi]
theorem fr_rec (h : FrAt f e x) : ∀ i, i < x.wn → f (i + 8 + e) = x.wf i := fun i hi => by
  rw [show i + 8 + e = e + (8 + i) by omega, h _ (by omega)]
  unfold frF catU
  rw [if_neg (by omega), show 8 + i - 8 = i by omega]
theorem frF_congr {g h : Nat → UInt8} {n : Nat} (hg : ∀ i, i < n → g i = h i) : ∀ i, i < 8 + n → frF n g i = frF n h i := fun i hi => by
  have e : dig4 n g = dig4 n h := digOf_congr fun j hj => by
    unfold catU
    by_cases h4 : j < 4
    · rw [if_pos h4, if_pos h4]
    · rw [if_neg h4, if_neg h4, hg _ (by omega)]
  unfold frF
  rw [e]
  unfold catU
  by_cases h8 : i < 8
  · rw [if_pos h8, if_pos h8]
  · rw [if_neg h8, if_neg h8, hg _ (by omega)]
theorem fr_ok (hx : x.wn ≤ 4000) (h : FrAt f e x) (hn : e + (8 + x.wn) ≤ n) : fsOk (fun i => f (i + e)) (n - e) = true := by
  unfold fsOk
  rw [fr_be4 hx h, decide_eq_true ⟨by omega, by omega, hx⟩, Bool.true_and]
  refine decide_eq_true ⟨rfl, fun k hk => ?_⟩
  show f (k + e) = frF x.wn (fun i => f (i + 8 + e)) k
  rw [Nat.add_comm, h k hk]
  exact frF_congr (fun i hi => (fr_rec h i hi).symm) k hk
theorem fr_cut (hx : x.wn ≤ 4000) (h : FrAt f e x) (hn : n < e + (8 + x.wn)) : fsOk (fun i => f (i + e)) (n - e) = false := by
  unfold fsOk
  rw [fr_be4 hx h, decide_eq_false (by omega)]; rfl
end
def eE (xs : Nat → BytL) : Nat → Nat
  | 0 => 0
  | k + 1 => eE xs k + (8 + (xs k).wn)
theorem eE_mono {xs : Nat → BytL} {i k : Nat} (h : i ≤ k) : eE xs i ≤ eE xs k := by
  induction k with
  | zero => have : i = 0 := by omega
            subst this; exact Nat.le_refl _
  | succ k ih =>
    by_cases h2 : i ≤ k
    · have := ih h2; show eE xs i ≤ eE xs k + (8 + (xs k).wn); omega
    · have : i = k + 1 := by omega
      subst this; exact Nat.le_refl _
structure FrAll (f : Nat → UInt8) (xs : Nat → BytL) (K : Nat) : Prop where
  at_ : ∀ k, k < K → FrAt f (eE xs k) (xs k)
  le : ∀ k, k < K → (xs k).wn ≤ 4000
section
variable {f : Nat → UInt8} {xs : Nat → BytL} {K n : Nat}
theorem fr_at (h : FrAll f xs K) : ∀ k, k ≤ K → atK f k = eE xs k
  | 0, _ => rfl
  | k + 1, hk => by
    show atK f k + (8 + be4 fun i => f (i + atK f k)) = eE xs k + (8 + (xs k).wn)
    rw [fr_at h k (by omega), fr_be4 (h.le k (by omega)) (h.at_ k (by omega))]
theorem fr_jL (h : FrAll f xs K) {k : Nat} (hk : k < K) : jL f k = (xs k).wn := by
  unfold jL; rw [fr_at h k (by omega), fr_be4 (h.le k hk) (h.at_ k hk)]
theorem fr_jf (h : FrAll f xs K) {k i : Nat} (hk : k < K) (hi : i < (xs k).wn) : jf f k i = (xs k).wf i := by
  unfold jf; rw [fr_at h k (by omega)]; exact fr_rec (h.at_ k hk) i hi
theorem fr_okK (h : FrAll f xs K) {k : Nat} (hk : k < K) (hn : eE xs (k + 1) ≤ n) : okK f n k = true := by
  unfold okK; rw [fr_at h k (by omega)]; exact fr_ok (h.le k hk) (h.at_ k hk) hn
theorem fr_stop (h : FrAll f xs K) {k : Nat} (hk : k ≤ K) (hn : eE xs k ≤ n) (hs : k < K ∧ n < eE xs (k + 1) ∨ k = K ∧ n = eE xs K) : okK f n k = false := by
  unfold okK
  rw [fr_at h k hk]
  rcases hs with ⟨h1, h2⟩ | ⟨h1, h2⟩
  · exact fr_cut (h.le k h1) (h.at_ k h1) h2
  · subst h1
    unfold fsOk
    rw [decide_eq_false (by omega)]; rfl
theorem fr_nR (h : FrAll f xs K) {k : Nat} (hk : k ≤ K) (hn : eE xs k ≤ n) (hs : k < K ∧ n < eE xs (k + 1) ∨ k = K ∧ n = eE xs K) : nR f n = k :=
  (nR_eq (fun j hj => fr_okK h (by omega) (Nat.le_trans (eE_mono (by omega)) hn)) (fr_stop h hk hn hs) (by
    have := okK_all (f := f) (n := n) (k := k) fun j hj => fr_okK h (by omega) (Nat.le_trans (eE_mono (by omega)) hn)
    omega)).symm
theorem nR_ge {k : Nat} (h : ∀ j, j < k → okK f n j = true) : k ≤ nR f n := by
  rcases Nat.lt_or_ge (nR f n) k with h1 | h1
  · have := h _ h1
    rw [(nR_spec f n).2] at this; cases this
  · exact h1
theorem atK_mono {i k : Nat} (h : i ≤ k) : atK f i ≤ atK f k := by
  induction k with
  | zero => have : i = 0 := by omega
            subst this; exact Nat.le_refl _
  | succ k ih =>
    by_cases h2 : i ≤ k
    · have := ih h2; show atK f i ≤ atK f k + (8 + be4 fun i => f (i + atK f k)); omega
    · have : i = k + 1 := by omega
      subst this; exact Nat.le_refl _
theorem FrAll.push (h : FrAll f xs K) {g : Nat → UInt8} (hx : (xs K).wn ≤ 4000) (hg : g = catU f (eE xs K) (frF (xs K).wn (xs K).wf)) : FrAll g xs (K + 1) := by
  subst hg
  refine ⟨fun k hk i hi => ?_, fun k hk => ?_⟩
  · by_cases hkK : k < K
    · have := eE_mono (xs := xs) (show k + 1 ≤ K by omega)
      have e : eE xs (k + 1) = eE xs k + (8 + (xs k).wn) := rfl
      unfold catU
      rw [if_pos (by omega)]
      exact h.at_ k hkK i hi
    · have : k = K := by omega
      subst this
      unfold catU
      rw [if_neg (by omega), show eE xs k + i - eE xs k = i by omega]
  · by_cases hkK : k < K
    · exact h.le k hkK
    · have : k = K := by omega
      subst this; exact hx
theorem FrAll.congr {g : Nat → UInt8} (h : FrAll f xs K) (hg : ∀ i, i < eE xs K → g i = f i) : FrAll g xs K :=
  ⟨fun k hk i hi => by
    have := eE_mono (xs := xs) (show k + 1 ≤ K by omega)
    have e : eE xs (k + 1) = eE xs k + (8 + (xs k).wn) := rfl
    rw [hg _ (by omega)]; exact h.at_ k hk i hi, h.le⟩
theorem FrAll.less (h : FrAll f xs K) {k : Nat} (hk : k ≤ K) : FrAll f xs k := ⟨fun j hj => h.at_ j (by omega), fun j hj => h.le j (by omega)⟩
end
end Go.Eng
end
section
namespace Go.Eng
open Go.RowKit Go.WideShapes Go.ChangeShapes Go.ChangeAt Go.Deep
set_option linter.unusedSimpArgs false
set_option linter.unusedVariables false
set_option maxRecDepth 100000
def recS (A : Grw BytL) : BytS := ⟨gsA A, A.n, gsC A, A.nm, 0, A.f⟩
theorem recS_ok {A : Grw BytL} (h : A.ok) (hl : A.n ≤ 9223372036854775807) (he : ∀ k, k < A.n → OkB (A.f k)) : OkS (recS A) := ⟨gs_le h, fun h0 => gsA_own (h.pos h0), hl, he⟩
theorem recS_head {A : Grw BytL} (h : A.ok) {w : World} (hb : ∀ b, roO (gsE slqC [Value.slice none 0 0] 1 A) = some b → Holds b w) (h0 : 0 < A.n) : Holds (bysB (recS A)) w := by
  have hz := h.pos h0
  have h1 := hb ⟨A.nm, false, 0, sprE 1 (A.n + A.r) A.n (fun k => slqC (A.f k)) [Value.slice none 0 0]⟩ (by rw [gsE_own hz]; rfl)
  refine h1.recont (c := tabF A.n fun k => slqV (A.f k)) rfl fun o v hv => ?_
  by_cases ho : o < A.n
  · rw [tabF_in ho] at hv
    show (Cont.tab (A.n + A.r) 1 fun k => if k < A.n then slqC (A.f k) else [Value.slice none 0 0]).get o = some v
    rw [Cont.get_tab (by omega), Nat.div_one, Nat.mod_one, if_pos ho]
    exact hv
  · rw [tabF_out ho] at hv; cases hv
theorem recS_fam {A : Grw BytL} (h : A.ok) {w : World} (hb : ∀ b, roO (gsE slqC [Value.slice none 0 0] 1 A) = some b → Holds b w) (he : ∀ k, k < A.n → FamH (famB (A.f k)) w) : FamH (famS (recS A)) w := fun b hb' => by
  rcases hb' with ⟨h0, rfl⟩ | ⟨k, hk, h2⟩
  · exact ⟨recS_head h hb h0, rfl⟩
  · exact he k hk b h2
theorem pile_el {n c d : Nat} {L : Nat → Nat} {f : Nat → Nat → UInt8} {w : World} (hb : ∀ b, roO (plO n c d L f) = some b → Holds b w) : ∀ k, k < n → FamH (famB (elF c d L f k)) w := fun k hk b hb' => by
  obtain ⟨h0, rfl⟩ := hb'
  cases n with
  | zero => omega
  | succ m =>
    have h1 := (hb _ (by rw [plO_succ]; rfl)).obj
    have h2 : PieceOk (decL c k) false (sprP (L k) (decL d k) (f k)) w := h1 k _ _ hk rfl
    have h3 : Holds ⟨decL c k, false, 0, spr (L k + decL d k) (L k) (fun j => u8 (f k j)) (u8 0)⟩ w := ⟨h2.lt, h2.cell, (fun h => by cases h), trivial⟩
    exact ⟨holds_sprB h3, rfl⟩
theorem elF_ok {c d : Nat} {L : Nat → Nat} {f : Nat → Nat → UInt8} {k : Nat} (h : L k ≤ 9223372036854775807) : OkB (elF c d L f k) := okb_own (by omega) h
theorem jL_le (f : Nat → UInt8) (k : Nat) : jL f k ≤ 9223372036854775807 := by have := be4_lt fun i => f (i + atK f k); unfold jL; omega
theorem lists_true {a b : BytS} (hn : a.wn = b.wn) (h : ∀ k, k < a.wn → (a.wf k).wn = (b.wf k).wn ∧ ∀ i, i < (a.wf k).wn → (a.wf k).wf i = (b.wf k).wf i) : listsB a b = true := decide_eq_true ⟨hn, fun k hk => decide_eq_true ⟨(h k hk).1, (h k hk).2⟩⟩
theorem nR_again (f : Nat → UInt8) (n : Nat) : nR f (atK f (nR f n)) = nR f n := by
  have hg := nR_good f n
  refine (nR_eq (fun j hj => ?_) ?_ ?_).symm
  · have h1 := (nR_spec f n).1 j hj
    have h2 := okK_len h1
    have h3 := (okK_next h1).2
    have h4 := atK_mono (f := f) (show j + 1 ≤ nR f n by omega)
    unfold okK fsOk at h1 ⊢
    have h5 := (Bool.and_eq_true_iff.1 h1).2
    rw [h5, Bool.and_true]
    refine decide_eq_true ⟨?_, ?_, h2.2.2⟩
    · omega
    · show jL f j ≤ _
      omega
  · unfold okK fsOk
    rw [decide_eq_false (by omega)]; rfl
  · omega
theorem RunsO.lendW {F G : Blk → Prop} {P : Program} {f : FuncId} {args : List Value} {a b x : Option Blk} {k : Nat} {v : List Nat → Value} {a' b' : List Nat → Option Blk} (h : RunsO G P f args [a, b] k v (fun ns => [a' ns, b' ns]))
    (hx : ∀ z, x = some z → z.own = false) (hG : ∀ w : World, FamH F w → (∀ z, x = some z → Holds z w) → FamH G w) (hn : ∀ z, G z → ∀ j, z.has j → (∃ y, F y ∧ y.has j) ∨ ∃ y, x = some y ∧ y.has j) :
    RunsO F P f args [a, b, x] k v (fun ns => [a' ns, b' ns, none]) := by
  intro w hm ha hF
  have e : ∀ p z, listMem [a, b] p = some z → listMem [a, b, x] p = some z ∧ p < 2 := fun p z hz => by
    rcases p with _ | _ | p
    · exact ⟨hz, by omega⟩
    · exact ⟨hz, by omega⟩
    · simp [listMem] at hz
  have ho1 : ∀ k, Owns (listMem [a, b]) k → Owns (listMem [a, b, x]) k := fun k ⟨p, z, h1, h2, h3⟩ => ⟨p, z, (e p z h1).1, h2, h3⟩
  have hw := hG w (fun z hz => ⟨(hF z hz).1, (hF z hz).2.1⟩) (fun z hz => hm 2 z hz)
  refine Calls.mono (h w (fun p z hz => hm p z (e p z hz).1) (fun p q y z hpq hy hz ho => ha p q y z hpq (e p y hy).1 (e q z hz).1 ho) fun z hz => ⟨(hw z hz).1, (hw z hz).2, fun j hj ⟨p, y, h1, h2, h3⟩ => ?_⟩) ?_
  · rcases hn z hz j hj with ⟨y', hy1, hy2⟩ | ⟨y', hy1, hy2⟩
    · exact (hF y' hy1).2.2 j hy2 (ho1 j ⟨p, y, h1, h2, h3⟩)
    · exact ha p 2 y y' (by have := (e p y h1).2; omega) (e p y h1).1 hy1 h2 j h3 hy2
  · rintro e' w' ⟨ns, hns, he, hp⟩
    have ho : ∀ p z, listMem [a' ns, b' ns, none] p = some z → listMem [a' ns, b' ns] p = some z := fun p z hz => by
      rcases p with _ | _ | _ | p
      · exact hz
      · exact hz
      · cases hz
      · simp [listMem] at hz
    refine ⟨ns, hns, he, ⟨fun p z hz => hp.holds p z (ho p z hz), fun p q y z hpq hy hz => hp.apart p q y z hpq (ho p y hy) (ho q z hz), ⟨hp.adv.os, hp.adv.output, hp.adv.tape, hp.adv.size, fun k hk hno => hp.adv.heap k hk fun h' => hno (ho1 k h'), fun k ⟨p, z, h1, h2, h3⟩ => ?_, fun p z hz hoz => (e p z (hp.adv.ro p z (ho p z hz) hoz)).1⟩⟩⟩
    rcases hp.adv.names k ⟨p, z, ho p z h1, h2, h3⟩ with h5 | h5
    · exact .inl (ho1 k h5)
    · exact .inr h5
theorem RunsO.sub {F G : Blk → Prop} {P : Program} {f : FuncId} {args : List Value} {bs : List (Option Blk)} {k : Nat} {v : List Nat → Value} {out : List Nat → List (Option Blk)} (hG : SubH G F) (hn : NmF G F) (h : RunsO G P f args bs k v out) : RunsO F P f args bs k v out :=
  fun w hm ha hF => h w hm ha fun b hb => by
    obtain ⟨h1, h2⟩ := hG w (fun z hz => ⟨(hF z hz).1, (hF z hz).2.1⟩) b hb
    obtain ⟨y, hy, hj⟩ := hn b hb
    exact ⟨h1, h2, fun k hk => (hF y hy).2.2 k (hj k hk)⟩
def D0 : Grw UInt8 := ⟨true, 0, 0, 0, fun _ => 0⟩
theorem nR_zero (f : Nat → UInt8) : nR f 0 = 0 := by have := nR_good f 0; omega
theorem open_zero (q : BytL) (hq : q.wa = none) (h0 : q.wn = 0) (a r : Nat) : gsV (opG q a r) = .slice none 0 0 ∧ gsE u8C [u8 0] 1 (opG q a r) = none := by
  unfold opG
  rw [hq, h0, nR_zero]
  exact ⟨rfl, rfl⟩
theorem lit_fam {nm n c : Nat} {l : List Value} {f : Nat → BytL} {w : World} (hl : l = (List.range n).map fun k => slqV (f k)) (hb : Holds ⟨nm, false, 0, .lit l⟩ w) (he : ∀ k, k < n → FamH (famB (f k)) w) : FamH (famS (bysO nm n c f)) w := fun x hx => by
  rcases hx with ⟨h0, rfl⟩ | ⟨k, hk, hx⟩
  · subst hl
    refine ⟨hb.recont rfl fun j v hj => ?_, rfl⟩
    have hj' : (tabF n fun k => slqV (f k)).get j = some v := hj
    show ((List.range n).map fun k => slqV (f k))[j]? = some v
    by_cases hl : j < n
    · rw [tabF_in hl] at hj'
      rw [map_get slqV f n j hl]; exact hj'
    · rw [tabF_out hl] at hj'; cases hj'
  · exact he k hk x hx
theorem brow2 {P : Nat → BytL → Prop} {a b : BytL} (h0 : P 0 a) (h1 : P 1 b) : ∀ k, k < 2 → P k (brow [a, b] k) := fun k hk => by
  rcases k with _ | _ | k
  · exact h0
  · exact h1
  · omega
def awX (b : Nat) : Nat → BytL := brow [bytO b 2 2 (bytsOf [1, 2]), bytZ none 0]
def awD (a r b s : Nat) : Grw UInt8 := Grw.cat (Grw.cat D0 (8 + 2) (frF 2 (bytsOf [1, 2])) a r) (8 + 0) (frF 0 fun _ => 0) b s
theorem awD_fr (q a r b s : Nat) : FrAll (awD a r b s).f (awX q) 2 := by
  have h0 : FrAll D0.f (awX q) 0 := ⟨fun k hk => absurd hk (by omega), fun k hk => absurd hk (by omega)⟩
  have h1 : FrAll (Grw.cat D0 (8 + 2) (frF 2 (bytsOf [1, 2])) a r).f (awX q) 1 := h0.push (show 2 ≤ 4000 by omega) rfl
  exact h1.push (show 0 ≤ 4000 by omega) rfl
theorem awD_nR (a r b s : Nat) : nR (awD a r b s).f 18 = 2 := fr_nR (awD_fr 0 a r b s) (Nat.le_refl 2) (Nat.le_refl 18) (.inr ⟨rfl, rfl⟩)
def awT (a r b s c t : Nat) : Grw UInt8 := Grw.cat (awD a r b s) (min (Int.toNat 8) (8 + 1)) (frF 1 (bytsOf [3])) c t
theorem awT_fr (q a r b s c t : Nat) : FrAll (awT a r b s c t).f (fun k => if k < 2 then awX q k else bytO q 1 1 (bytsOf [3])) 3 := by
  have h := awD_fr q a r b s
  obtain ⟨xs, hxs⟩ : ∃ xs : Nat → BytL, xs = fun k => if k < 2 then awX q k else bytO q 1 1 (bytsOf [3]) := ⟨_, rfl⟩
  have x0 : ∀ k, k < 2 → xs k = awX q k := fun k hk => by rw [hxs]; exact if_pos hk
  have x2 : xs 2 = bytO q 1 1 (bytsOf [3]) := by rw [hxs]; exact if_neg (by omega)
  have hE : ∀ k, k ≤ 2 → eE xs k = eE (awX q) k := fun k hk => by
    rcases k with _ | _ | _ | k
    · rfl
    · show eE xs 0 + (8 + (xs 0).wn) = eE (awX q) 0 + (8 + (awX q 0).wn)
      rw [x0 0 (by omega)]; rfl
    · show eE xs 0 + (8 + (xs 0).wn) + (8 + (xs 1).wn) = eE (awX q) 0 + (8 + (awX q 0).wn) + (8 + (awX q 1).wn)
      rw [x0 0 (by omega), x0 1 (by omega)]; rfl
    · omega
  rw [← hxs]
  have h2 : FrAll (awD a r b s).f xs 2 := ⟨fun k hk => by rw [x0 k hk, hE k (by omega)]; exact h.at_ k hk, fun k hk => by rw [x0 k hk]; exact h.le k hk⟩
  refine h2.push (by rw [x2]; exact (by decide : 1 ≤ 4000)) ?_
  rw [x2, hE 2 (by omega)]
  rfl
theorem awT_nR (a r b s c t : Nat) : nR (awT a r b s c t).f 26 = 2 := by
  have h := awT_fr 0 a r b s c t
  have e2 : eE (fun k => if k < 2 then awX 0 k else bytO 0 1 1 (bytsOf [3])) 2 = 18 := by simp [eE, awX, brow, bytO, bytZ]
  have e3 : eE (fun k => if k < 2 then awX 0 k else bytO 0 1 1 (bytsOf [3])) 3 = 27 := by simp [eE, awX, brow, bytO, bytZ]
  exact fr_nR h (show 2 ≤ 3 by omega) (by rw [e2]; omega) (.inl ⟨by omega, by rw [e3]; omega⟩)
theorem aw_lists {K : Nat} {f : Nat → UInt8} (q c d nm w h : Nat) (hK : K = 2) (hf : FrAll f (awX q) 2) : listsB (recS (gsOf K (elF c d (jL f) (jf f)) nm h)) (bysO w 2 2 (awX q)) = true := by
  subst hK
  exact lists_true rfl fun k hk => ⟨fr_jL hf hk, fun i hi => fr_jf hf hk (by rw [← fr_jL hf hk]; exact hi)⟩
theorem nR_lim {f : Nat → UInt8} {n B : Nat} (h : n ≤ B) : nR f n ≤ B := by have := nR_good f n; omega
theorem recS_own {f : Nat → UInt8} {n c d nm r : Nat} (h : n ≤ 9223372036854775807) : OkS (recS (gsOf (nR f n) (elF c d (jL f) (jf f)) nm r)) := recS_ok (gsOf_ok _ _ _ _) (nR_lim h) (fun k _ => elF_ok (jL_le _ k))
theorem own_fam0 {K c d nm r : Nat} {L : Nat → Nat} {f : Nat → Nat → UInt8} {rest : List (Option Blk)} {w : World} (hb : ∀ p b, listMem (roO (gsE slqC [Value.slice none 0 0] 1 (gsOf K (elF c d L f) nm r)) :: roO (plO K c d L f) :: rest) p = some b → Holds b w) : FamH (famS (recS (gsOf K (elF c d L f) nm r))) w :=
  recS_fam (gsOf_ok _ _ _ _) (fun b hb0 => hb 0 b hb0) (pile_el fun b hb0 => hb 1 b hb0)
theorem opG_len (q : BytL) (a r : Nat) : (opG q a r).n ≤ q.wn := (nR_good q.wf q.wn).1
theorem opG_cl (D : Grw UInt8) (a r x y : Nat) : opG (recD (clD D a r)) x y = opG (recD D) x y := by
  obtain ⟨z, b, n, s, f⟩ := D
  cases z <;> rfl
theorem opG_again (q : BytL) (a r : Nat) : nR (opG q a r).f (opG q 0 0).n = nR q.wf q.wn := nR_again q.wf q.wn
theorem lists_at {F : Blk → Prop} {P : Program} {f : FuncId} {args : List Value} {bs : List (Option Blk)} {b : Bool} {out : List Nat → List (Option Blk)} (hb : b = true) (h : RunsO F P f args bs 0 (fun _ => Value.bool b) out) : RunsO F P f args bs 0 (fun _ => Value.bool true) out := hb ▸ h
theorem aw_same (a r b s q g d nm w h : Nat) : listsB (recS (gsOf (nR (awD a r b s).f (0 + (8 + 2) + (8 + 0))) (elF g d (jL (awD a r b s).f) (jf (awD a r b s).f)) nm h)) (bysO w 2 2 (awX q)) = true :=
  aw_lists q g d nm w h (show nR (awD a r b s).f (0 + (8 + 2) + (8 + 0)) = 2 from awD_nR a r b s) (awD_fr q a r b s)
theorem aw_end0 (a r b s c t z v : Nat) : selB true (decide (nR (opG (recD (awT a r b s c t)) z v).f (opG (recD (awT a r b s c t)) 0 0).n = 2)) false = true := by
  rw [opG_again, show nR (recD (awT a r b s c t)).wf (recD (awT a r b s c t)).wn = 2 from awT_nR a r b s c t]
  rfl
theorem aw_end (a r b s c t z v : Nat) : selB true (decide (nR (opG (recD (Grw.cat (Grw.cat (Grw.cat D0 (8 + 2) (frF 2 (bytsOf [1, 2])) a r) (8 + 0) (frF 0 fun _ => 0) b s) (min (Int.toNat 8) (8 + 1)) (frF 1 (bytsOf [3])) c t)) z v).f
    (opG (recD (Grw.cat (Grw.cat (Grw.cat D0 (8 + 2) (frF 2 (bytsOf [1, 2])) a r) (8 + 0) (frF 0 fun _ => 0) b s) (min (Int.toNat 8) (8 + 1)) (frF 1 (bytsOf [3])) c t)) 0 0).n = 2)) false = true := by
  have h := aw_end0 a r b s c t z v
  unfold awT awD at h
  exact h
end Go.Eng
end
section
namespace Go.Proofs.YtagbdahcopkpjaaDoor
open Go Go.Eng
set_option linter.unusedVariables false
set_option linter.unusedSimpArgs false
set_option maxRecDepth 100000
set_option maxHeartbeats 1000000
theorem torn_all (j : Nat) (D : Grw UInt8) (q : BytL) (hD : D.ok) (hl : D.n ≤ 100000000) (hq : OkB q) (h4 : q.wn ≤ 4000) : RunsO (famTB q) Tryd.prog 19 [ptr j 0, slqV q, nat (8 + q.wn)] [some ⟨j, true, 0, .lit [gsV D]⟩, gsE u8C [u8 0] 1 D] 2 (fun _ => int 0) (fun ns => [some ⟨j, true, 0, .lit [gsV (Grw.cat D (8 + q.wn) (frF q.wn q.wf) (ns.getD 0 0) (ns.getD 1 0))]⟩, gsE u8C [u8 0] 1 (Grw.cat D (8 + q.wn) (frF q.wn q.wf) (ns.getD 0 0) (ns.getD 1 0))]) := by
  have h := torn_ok j D q ((8 + q.wn : Nat) : Int) hD hl hq h4
  rw [Int.toNat_natCast, Nat.min_self] at h
  exact h
theorem append_ok (j : Nat) (D : Grw UInt8) (q : BytL) (hD : D.ok) (hl : D.n ≤ 100000000) (hq : OkB q) (h4 : q.wn ≤ 4000) : RunsO (famTB q) Tryd.prog 20 [(ptr j 0), (Value.slice q.wa q.wn q.wc)] [some ⟨j, true, 0, (.lit [(gsV D)])⟩, (gsE u8C [u8 0] 1 D)] 2 (fun (ns : List Nat) => (int 0)) (fun (ns : List Nat) => [some ⟨j, true, 0, (.lit [(gsV (Grw.cat D (8 + q.wn) (frF q.wn q.wf) (ns.getD 0 0) (ns.getD 1 0)))])⟩, (gsE u8C [u8 0] 1 (Grw.cat D (8 + q.wn) (frF q.wn q.wf) (ns.getD 0 0) (ns.getD 1 0)))]) :=
  runsO_of_ev mix Tryd.func20 rfl rfl 400 (.reg [(0, .g)] (.regn [(0, .g), (1, .g), (2, .g), (3, (.as (nat q.wn))), (4, (.as (nat (8 + q.wn)))), (5, (.callO [(0, false), (1, false)] 2 0 (fun ns => (int 0)) (fun ns => [some ⟨j, true, 0, .lit [gsV (Grw.cat D (8 + q.wn) (frF q.wn q.wf) (ns.getD 0 0) (ns.getD 1 0))]⟩, (gsE u8C [u8 0] 1 (Grw.cat D (8 + q.wn) (frF q.wn q.wf) (ns.getD 0 0) (ns.getD 1 0)))]))), (6, .g)] (more (fun n1 => more (fun n2 => fun _ => .done))))) [] [] rfl
    (have f0 : D.n ≤ 100000000 := hl; have f1 : q.wn ≤ q.wc ∧ q.wn ≤ 9223372036854775807 := ⟨hq.cap, hq.len⟩; have f2 : q.wn ≤ 4000 := h4; Eq.mp (by kernel_rfl) (And.intro (sk trivial) (fun (n1 n2 : Nat) => And.intro (sk (sk (sk (And.intro (And.intro trivial (@is_len Tryd.prog 22 5 (.tmp 7) (by kernel_rfl) q.wa q.wn q.wc)) (And.intro (And.intro trivial (@is_addn Tryd.prog 3 3 (.const (.int .i64 8)) (.tmp 8)  8 q.wn (show 8 + q.wn ≤ 9223372036854775807 from by omega))) (And.intro (And.intro trivial (torn_all j D q hD hl hq h4)) (sk trivial))))))) (And.intro trivial (@Exists.intro (List Nat) (fun (ns : List Nat) => ns.length = 2 ∧ ((int 0) : Value) = (fun (ns : List Nat) => (int 0)) ns ∧ ([some ⟨j, true, 0, (.lit [(gsV (Grw.cat D (8 + q.wn) (frF q.wn q.wf) n1 n2))])⟩, (gsE u8C [u8 0] 1 (Grw.cat D (8 + q.wn) (frF q.wn q.wf) n1 n2))] : List (Option Blk)) = (fun (ns : List Nat) => [some ⟨j, true, 0, (.lit [(gsV (Grw.cat D (8 + q.wn) (frF q.wn q.wf) (ns.getD 0 0) (ns.getD 1 0)))])⟩, (gsE u8C [u8 0] 1 (Grw.cat D (8 + q.wn) (frF q.wn q.wf) (ns.getD 0 0) (ns.getD 1 0)))]) ns) [n1, n2] (And.intro (@rfl Nat 2) (And.intro (@rfl Value (int 0)) (@rfl (List (Option Blk)) [some ⟨j, true, 0, (.lit [(gsV (Grw.cat D (8 + q.wn) (frF q.wn q.wf) n1 n2))])⟩, (gsE u8C [u8 0] 1 (Grw.cat D (8 + q.wn) (frF q.wn q.wf) n1 n2))]))))))))
theorem open_nil {F : Blk → Prop} (hT : ∀ z, famT z → F z) : RunsO F Tryd.prog 11 [.slice none 0 0] [] 1 (fun ns => ptr (ns.getD 0 0) 0) (fun ns => [some ⟨ns.getD 0 0, true, 0, .lit [gsV D0]⟩, gsE u8C [u8 0] 1 D0]) := by
  have h := open_run (bytZ none 0) okb_nil (by decide)
  simp only [fun a r => (open_zero (bytZ none 0) rfl rfl a r).1, fun a r => (open_zero (bytZ none 0) rfl rfl a r).2] at h
  have h2 : RunsO F Tryd.prog 11 [.slice none 0 0] [] 3 (fun ns => ptr (ns.getD 0 0) 0) (fun ns => [some ⟨ns.getD 0 0, true, 0, .lit [.slice none 0 0]⟩, none]) := h.sub (sh_TB hT (sh_sub (famB_none rfl))) (nm_TB hT (nm_sub (famB_none rfl)))
  intro w hm ha hF
  exact (h2 w hm ha hF).mono fun e w' ⟨ns, hns, he, hp⟩ => ⟨[ns.getD 0 0], rfl, he, hp⟩
theorem open_D {F : Blk → Prop} (hT : ∀ z, famT z → F z) (D : Grw UInt8) (hD : D.ok) (hl : D.n ≤ 100000000) : RunsO F Tryd.prog 11 [gsV D] [roO (gsE u8C [u8 0] 1 D)] 3 (fun ns => ptr (ns.getD 0 0) 0) (fun ns => [none, some ⟨ns.getD 0 0, true, 0, .lit [gsV (opG (recD D) (ns.getD 1 0) (ns.getD 2 0))]⟩, gsE u8C [u8 0] 1 (opG (recD D) (ns.getD 1 0) (ns.getD 2 0))]) :=
  (open_run (recD D) (recD_ok hD (by omega)) hl).lendL (F := F) (bs := [roO (gsE u8C [u8 0] 1 D)]) fun w hw hb => hold_or (fun z hz => hw z (hT z hz)) (recD_fam (F := F) hD fun b hb' => hb 0 b hb')
theorem open_cl {F : Blk → Prop} (hT : ∀ z, famT z → F z) (D : Grw UInt8) (a r : Nat) (hD : D.ok) (hl : D.n ≤ 100000000) : RunsO F Tryd.prog 11 [gsV (clD D a r)] [roO (gsE u8C [u8 0] 1 (clD D a r))] 3 (fun ns => ptr (ns.getD 0 0) 0) (fun ns => [none, some ⟨ns.getD 0 0, true, 0, .lit [gsV (opG (recD D) (ns.getD 1 0) (ns.getD 2 0))]⟩, gsE u8C [u8 0] 1 (opG (recD D) (ns.getD 1 0) (ns.getD 2 0))]) := by
  have h := open_D hT (clD D a r) (clD_ok hD a r) hl
  simp only [opG_cl] at h
  exact h
theorem append_lit {F : Blk → Prop} (hT : ∀ z, famT z → F z) (j : Nat) (D : Grw UInt8) (hD : D.ok) (hl : D.n ≤ 100000000) (b n : Nat) (g : Nat → UInt8) {cs : List Value} (hn : n ≤ 4000) (hc : cs = (List.range n).map fun k => u8 (g k)) :
    RunsO F Tryd.prog 20 [ptr j 0, .slice (some ⟨b, 0, none⟩) n n] [some ⟨j, true, 0, .lit [gsV D]⟩, gsE u8C [u8 0] 1 D, some ⟨b, false, 0, .lit cs⟩] 2 (fun _ => int 0) (fun ns => [some ⟨j, true, 0, .lit [gsV (Grw.cat D (8 + n) (frF n g) (ns.getD 0 0) (ns.getD 1 0))]⟩, gsE u8C [u8 0] 1 (Grw.cat D (8 + n) (frF n g) (ns.getD 0 0) (ns.getD 1 0)), none]) :=
  RunsO.lendW (a' := fun ns => ([some ⟨j, true, 0, .lit [gsV (Grw.cat D (8 + n) (frF n g) (ns.getD 0 0) (ns.getD 1 0))]⟩, gsE u8C [u8 0] 1 (Grw.cat D (8 + n) (frF n g) (ns.getD 0 0) (ns.getD 1 0))]).getD 0 none) (b' := fun ns => ([some ⟨j, true, 0, .lit [gsV (Grw.cat D (8 + n) (frF n g) (ns.getD 0 0) (ns.getD 1 0))]⟩, gsE u8C [u8 0] 1 (Grw.cat D (8 + n) (frF n g) (ns.getD 0 0) (ns.getD 1 0))]).getD 1 none) (x := some ⟨b, false, 0, .lit cs⟩) (append_ok j D (bytO b n n g) hD hl (okb_own (Nat.le_refl _) (show n ≤ 9223372036854775807 by omega)) hn) (fun z hz => by cases hz; rfl) (fun w hw hx => hold_or (fun z hz => hw z (hT z hz)) (holdb_own (holds_litB (hx _ rfl) hc)))
    (fun z hz i hi => hz.elim (fun h => .inl ⟨z, hT z h, hi⟩) fun h => by
      obtain ⟨_, rfl⟩ := h
      have hi : b = i := hi
      subst hi
      exact .inr ⟨_, rfl, rfl⟩)
theorem torn_lit {F : Blk → Prop} (hT : ∀ z, famT z → F z) (j : Nat) (D : Grw UInt8) (hD : D.ok) (hl : D.n ≤ 100000000) (b n : Nat) (g : Nat → UInt8) {cs : List Value} (k : Int) (hn : n ≤ 4000) (hc : cs = (List.range n).map fun k => u8 (g k)) :
    RunsO F Tryd.prog 19 [ptr j 0, .slice (some ⟨b, 0, none⟩) n n, int k] [some ⟨j, true, 0, .lit [gsV D]⟩, gsE u8C [u8 0] 1 D, some ⟨b, false, 0, .lit cs⟩] 2 (fun _ => int 0) (fun ns => [some ⟨j, true, 0, .lit [gsV (Grw.cat D (min (Int.toNat k) (8 + n)) (frF n g) (ns.getD 0 0) (ns.getD 1 0))]⟩, gsE u8C [u8 0] 1 (Grw.cat D (min (Int.toNat k) (8 + n)) (frF n g) (ns.getD 0 0) (ns.getD 1 0)), none]) :=
  RunsO.lendW (a' := fun ns => ([some ⟨j, true, 0, .lit [gsV (Grw.cat D (min (Int.toNat k) (8 + n)) (frF n g) (ns.getD 0 0) (ns.getD 1 0))]⟩, gsE u8C [u8 0] 1 (Grw.cat D (min (Int.toNat k) (8 + n)) (frF n g) (ns.getD 0 0) (ns.getD 1 0))]).getD 0 none) (b' := fun ns => ([some ⟨j, true, 0, .lit [gsV (Grw.cat D (min (Int.toNat k) (8 + n)) (frF n g) (ns.getD 0 0) (ns.getD 1 0))]⟩, gsE u8C [u8 0] 1 (Grw.cat D (min (Int.toNat k) (8 + n)) (frF n g) (ns.getD 0 0) (ns.getD 1 0))]).getD 1 none) (x := some ⟨b, false, 0, .lit cs⟩) (torn_ok j D (bytO b n n g) k hD hl (okb_own (Nat.le_refl _) (show n ≤ 9223372036854775807 by omega)) hn) (fun z hz => by cases hz; rfl) (fun w hw hx => hold_or (fun z hz => hw z (hT z hz)) (holdb_own (holds_litB (hx _ rfl) hc)))
    (fun z hz i hi => hz.elim (fun h => .inl ⟨z, hT z h, hi⟩) fun h => by
      obtain ⟨_, rfl⟩ := h
      have hi : b = i := hi
      subst hi
      exact .inr ⟨_, rfl, rfl⟩)
theorem lists_any {F : Blk → Prop} (A B : BytS) (hA : OkS A) (hB : OkS B) {bs : List (Option Blk)} (h : ∀ w : World, FamH F w → (∀ p b, listMem bs p = some b → Holds b w) → FamH (famSS A B) w) : RunsO F Tryd.prog 15 [.slice A.wa A.wn A.wc, .slice B.wa B.wn B.wc] bs 0 (fun _ => .bool (listsB A B)) (fun _ => bs.map fun _ => none) := by
  have h1 := (lists_fam A B hA hB).toO.lendL (F := F) (bs := bs) h
  simpa using h1
end Go.Proofs.YtagbdahcopkpjaaDoor
end
section
namespace Go.Proofs.YtagbdahcopkpjaaDoor
open Go Go.Eng
set_option linter.unusedVariables false
set_option linter.unusedSimpArgs false
set_option maxRecDepth 100000
set_option maxHeartbeats 1000000
theorem awake_run : RunsO famT Tryd.prog 8 [] [] 0 (fun (_ : List Nat) => Value.bool true) (fun (_ : List Nat) => []) :=
  runsO_of_ev mix Tryd.func8 rfl rfl 400 (.reg [(0, .g)] (.regn [(0, (.callO [] 1 2 (fun ns => ptr (ns.getD 0 0) 0) (fun ns => [some ⟨(ns.getD 0 0), true, 0, .lit [gsV D0]⟩, gsE u8C [u8 0] 1 D0]))), (1, .g)] (more (fun n1 => fun _ => (.reg [(0, .g), (1, .g)] (.no (.regn [(0, .g), (1, (.oth [] 1 1 (fun ns => Value.slice (some ⟨ns.getD 0 0, 0, none⟩) 2 2) (fun ns => [some ⟨ns.getD 0 0, true, 0, .lit [(u8 1), (u8 2)]⟩]))), (2, (.callO [(0, false), (1, false), (2, true)] 2 0 (fun ns => (int 0)) (fun ns => [some ⟨n1, true, 0, .lit [gsV (Grw.cat D0 (8 + 2) (frF 2 (bytsOf [1, 2])) (ns.getD 0 0) (ns.getD 1 0))]⟩, (gsE u8C [u8 0] 1 (Grw.cat D0 (8 + 2) (frF 2 (bytsOf [1, 2])) (ns.getD 0 0) (ns.getD 1 0))), none])))] (more (fun n2 => more (fun n3 => more (fun n4 => fun _ => (.regn [(0, .g), (1, (.callO [(0, false), (1, false)] 2 0 (fun ns => (int 0)) (fun ns => [some ⟨n1, true, 0, .lit [gsV (Grw.cat (Grw.cat D0 (8 + 2) (frF 2 (bytsOf [1, 2])) n3 n4) (8 + 0) (frF 0 (fun _ => 0)) (ns.getD 0 0) (ns.getD 1 0))]⟩, (gsE u8C [u8 0] 1 (Grw.cat (Grw.cat D0 (8 + 2) (frF 2 (bytsOf [1, 2])) n3 n4) (8 + 0) (frF 0 (fun _ => 0)) (ns.getD 0 0) (ns.getD 1 0)))])))] (more (fun n5 => more (fun n6 => fun _ => (.regn [(0, .g), (1, (.callO [(0, false), (1, false)] 4 2 (fun ns => (gsV (gsOf (nR (Grw.cat (Grw.cat D0 (8 + 2) (frF 2 (bytsOf [1, 2])) n3 n4) (8 + 0) (frF 0 (fun _ => 0)) n5 n6).f (0 + (8 + 2) + (8 + 0))) (elF (ns.getD 0 0) (ns.getD 1 0) (jL (Grw.cat (Grw.cat D0 (8 + 2) (frF 2 (bytsOf [1, 2])) n3 n4) (8 + 0) (frF 0 (fun _ => 0)) n5 n6).f) (jf (Grw.cat (Grw.cat D0 (8 + 2) (frF 2 (bytsOf [1, 2])) n3 n4) (8 + 0) (frF 0 (fun _ => 0)) n5 n6).f)) (ns.getD 2 0) (ns.getD 3 0)))) (fun ns => [some ⟨n1, true, 0, (.lit [(gsV (Grw.cat (Grw.cat D0 (8 + 2) (frF 2 (bytsOf [1, 2])) n3 n4) (8 + 0) (frF 0 (fun _ => 0)) n5 n6))])⟩, (gsE u8C [u8 0] 1 (Grw.cat (Grw.cat D0 (8 + 2) (frF 2 (bytsOf [1, 2])) n3 n4) (8 + 0) (frF 0 (fun _ => 0)) n5 n6)), (gsE slqC [Value.slice none 0 0] 1 (gsOf (nR (Grw.cat (Grw.cat D0 (8 + 2) (frF 2 (bytsOf [1, 2])) n3 n4) (8 + 0) (frF 0 (fun _ => 0)) n5 n6).f (0 + (8 + 2) + (8 + 0))) (elF (ns.getD 0 0) (ns.getD 1 0) (jL (Grw.cat (Grw.cat D0 (8 + 2) (frF 2 (bytsOf [1, 2])) n3 n4) (8 + 0) (frF 0 (fun _ => 0)) n5 n6).f) (jf (Grw.cat (Grw.cat D0 (8 + 2) (frF 2 (bytsOf [1, 2])) n3 n4) (8 + 0) (frF 0 (fun _ => 0)) n5 n6).f)) (ns.getD 2 0) (ns.getD 3 0))), (plO (nR (Grw.cat (Grw.cat D0 (8 + 2) (frF 2 (bytsOf [1, 2])) n3 n4) (8 + 0) (frF 0 (fun _ => 0)) n5 n6).f (0 + (8 + 2) + (8 + 0))) (ns.getD 0 0) (ns.getD 1 0) (jL (Grw.cat (Grw.cat D0 (8 + 2) (frF 2 (bytsOf [1, 2])) n3 n4) (8 + 0) (frF 0 (fun _ => 0)) n5 n6).f) (jf (Grw.cat (Grw.cat D0 (8 + 2) (frF 2 (bytsOf [1, 2])) n3 n4) (8 + 0) (frF 0 (fun _ => 0)) n5 n6).f))]))), (2, .g)] (more (fun n7 => more (fun n8 => more (fun n9 => more (fun n10 => fun _ => (.regn [(0, .g), (1, (.oth [] 1 1 (fun ns => Value.slice (some ⟨ns.getD 0 0, 0, none⟩) 1 1) (fun ns => [some ⟨ns.getD 0 0, true, 0, .lit [(u8 3)]⟩]))), (2, (.callO [(0, false), (1, false), (5, true)] 2 0 (fun ns => (int 0)) (fun ns => [some ⟨n1, true, 0, .lit [gsV (Grw.cat (Grw.cat (Grw.cat D0 (8 + 2) (frF 2 (bytsOf [1, 2])) n3 n4) (8 + 0) (frF 0 (fun _ => 0)) n5 n6) (min (Int.toNat 8) (8 + 1)) (frF 1 (bytsOf [3])) (ns.getD 0 0) (ns.getD 1 0))]⟩, (gsE u8C [u8 0] 1 (Grw.cat (Grw.cat (Grw.cat D0 (8 + 2) (frF 2 (bytsOf [1, 2])) n3 n4) (8 + 0) (frF 0 (fun _ => 0)) n5 n6) (min (Int.toNat 8) (8 + 1)) (frF 1 (bytsOf [3])) (ns.getD 0 0) (ns.getD 1 0))), none])))] (more (fun n11 => more (fun n12 => more (fun n13 => fun _ => (.regn [(0, .g), (1, (.callO [(0, false), (1, false)] 2 1 (fun ns => gsV (clD (Grw.cat (Grw.cat (Grw.cat D0 (8 + 2) (frF 2 (bytsOf [1, 2])) n3 n4) (8 + 0) (frF 0 (fun _ => 0)) n5 n6) (min (Int.toNat 8) (8 + 1)) (frF 1 (bytsOf [3])) n12 n13) (ns.getD 0 0) (ns.getD 1 0))) (fun ns => [some ⟨n1, true, 0, (.lit [(gsV (Grw.cat (Grw.cat (Grw.cat D0 (8 + 2) (frF 2 (bytsOf [1, 2])) n3 n4) (8 + 0) (frF 0 (fun _ => 0)) n5 n6) (min (Int.toNat 8) (8 + 1)) (frF 1 (bytsOf [3])) n12 n13))])⟩, (gsE u8C [u8 0] 1 (Grw.cat (Grw.cat (Grw.cat D0 (8 + 2) (frF 2 (bytsOf [1, 2])) n3 n4) (8 + 0) (frF 0 (fun _ => 0)) n5 n6) (min (Int.toNat 8) (8 + 1)) (frF 1 (bytsOf [3])) n12 n13)), (gsE u8C [u8 0] 1 (clD (Grw.cat (Grw.cat (Grw.cat D0 (8 + 2) (frF 2 (bytsOf [1, 2])) n3 n4) (8 + 0) (frF 0 (fun _ => 0)) n5 n6) (min (Int.toNat 8) (8 + 1)) (frF 1 (bytsOf [3])) n12 n13) (ns.getD 0 0) (ns.getD 1 0)))]))), (2, (.callO [(6, true)] 3 2 (fun ns => ptr (ns.getD 0 0) 0) (fun ns => [none, some ⟨(ns.getD 0 0), true, 0, .lit [gsV (opG (recD (Grw.cat (Grw.cat (Grw.cat D0 (8 + 2) (frF 2 (bytsOf [1, 2])) n3 n4) (8 + 0) (frF 0 (fun _ => 0)) n5 n6) (min (Int.toNat 8) (8 + 1)) (frF 1 (bytsOf [3])) n12 n13)) (ns.getD 1 0) (ns.getD 2 0))]⟩, (gsE u8C [u8 0] 1 (opG (recD (Grw.cat (Grw.cat (Grw.cat D0 (8 + 2) (frF 2 (bytsOf [1, 2])) n3 n4) (8 + 0) (frF 0 (fun _ => 0)) n5 n6) (min (Int.toNat 8) (8 + 1)) (frF 1 (bytsOf [3])) n12 n13)) (ns.getD 1 0) (ns.getD 2 0)))]))), (3, .g)] (more (fun n14 => more (fun n15 => more (fun n16 => more (fun n17 => more (fun n18 => fun _ => (.reg [(0, .g), (1, .g)] (.no (.reg [(0, .g), (1, (.callO [(7, false), (8, false)] 0 0 (fun _ => nat (nR (opG (recD (Grw.cat (Grw.cat (Grw.cat D0 (8 + 2) (frF 2 (bytsOf [1, 2])) n3 n4) (8 + 0) (frF 0 (fun _ => 0)) n5 n6) (min (Int.toNat 8) (8 + 1)) (frF 1 (bytsOf [3])) n12 n13)) n17 n18).f ((opG (recD (Grw.cat (Grw.cat (Grw.cat D0 (8 + 2) (frF 2 (bytsOf [1, 2])) n3 n4) (8 + 0) (frF 0 (fun _ => 0)) n5 n6) (min (Int.toNat 8) (8 + 1)) (frF 1 (bytsOf [3])) n12 n13)) 0 0).n))) (fun _ => [some ⟨n16, true, 0, (.lit [(gsV (opG (recD (Grw.cat (Grw.cat (Grw.cat D0 (8 + 2) (frF 2 (bytsOf [1, 2])) n3 n4) (8 + 0) (frF 0 (fun _ => 0)) n5 n6) (min (Int.toNat 8) (8 + 1)) (frF 1 (bytsOf [3])) n12 n13)) n17 n18))])⟩, (gsE u8C [u8 0] 1 (opG (recD (Grw.cat (Grw.cat (Grw.cat D0 (8 + 2) (frF 2 (bytsOf [1, 2])) n3 n4) (8 + 0) (frF 0 (fun _ => 0)) n5 n6) (min (Int.toNat 8) (8 + 1)) (frF 1 (bytsOf [3])) n12 n13)) n17 n18))]))), (2, .g)] (.regn [(0, .g), (1, (.oth [] 1 1 (fun ns => Value.slice (some ⟨ns.getD 0 0, 0, none⟩) 2 2) (fun ns => [some ⟨ns.getD 0 0, true, 0, .lit [(u8 1), (u8 2)]⟩]))), (2, .bsl), (3, (.callO [(3, true), (4, true), (10, true), (9, true)] 0 0 (fun _ => Value.bool (true)) (fun _ => [none, none, none, none]))), (4, .g), (5, .run .g), (6, .run (.as (Value.bool (decide ((nR (opG (recD (Grw.cat (Grw.cat (Grw.cat D0 (8 + 2) (frF 2 (bytsOf [1, 2])) n3 n4) (8 + 0) (frF 0 (fun _ => 0)) n5 n6) (min (Int.toNat 8) (8 + 1)) (frF 1 (bytsOf [3])) n12 n13)) n17 n18).f ((opG (recD (Grw.cat (Grw.cat (Grw.cat D0 (8 + 2) (frF 2 (bytsOf [1, 2])) n3 n4) (8 + 0) (frF 0 (fun _ => 0)) n5 n6) (min (Int.toNat 8) (8 + 1)) (frF 1 (bytsOf [3])) n12 n13)) 0 0).n)) = 2))))), (7, .pk), (8, .g)] (more (fun n19 => more (fun n20 => fun _ => .done)))))))))))))))))))))))))))))))))))))))) [] [] rfl
    (Eq.mp (by kernel_rfl) (And.intro (sk trivial) (fun (n1 : Nat) => And.intro (And.intro (And.intro trivial (open_nil (F := famT) (fun z hz => hz))) (sk trivial)) (And.intro (sk (sk trivial)) (And.intro trivial (And.intro (@rfl Bool false) (fun (n2 n3 n4 : Nat) => And.intro (sk (And.intro (And.intro trivial (mk_build (P := Tryd.prog) (t := 22) (e := 5) one5 2 #[(0, (u8 1)), (1, (u8 2))] #[(u8 1), (u8 2)] (by kernel_rfl) (by decide) (by kernel_rfl))) (And.intro (And.intro trivial (append_lit (F := famT) (fun z hz => hz) n1 D0 (fun _ => rfl) (show (D0).n ≤ 100000000 from (show 0 ≤ 100000000 from by omega)) n2 2 (bytsOf [1, 2]) (cs := [(u8 1), (u8 2)]) (by decide) rfl)) trivial))) (fun (n5 n6 : Nat) => And.intro (sk (And.intro (And.intro trivial (RunsO.sub (sh_TB (fun z hz => hz) (sh_sub (famB_none rfl))) (nm_TB (fun z hz => hz) (nm_sub (famB_none rfl))) (append_ok n1 (Grw.cat D0 (8 + 2) (frF 2 (bytsOf [1, 2])) n3 n4) (bytZ none 0) (Grw.cat_ok (fun _ => rfl) _ _ _ _) (show ((Grw.cat D0 (8 + 2) (frF 2 (bytsOf [1, 2])) n3 n4)).n ≤ 100000000 from (show 0 + (8 + 2) ≤ 100000000 from by omega)) okb_nil (by decide)))) trivial)) (fun (n7 n8 n9 n10 : Nat) => And.intro (sk (And.intro (And.intro trivial (recs_run (F := famT) (fun z hz => hz) n1 (Grw.cat (Grw.cat D0 (8 + 2) (frF 2 (bytsOf [1, 2])) n3 n4) (8 + 0) (frF 0 (fun _ => 0)) n5 n6) (Grw.cat_ok (Grw.cat_ok (fun _ => rfl) _ _ _ _) _ _ _ _) (show ((Grw.cat (Grw.cat D0 (8 + 2) (frF 2 (bytsOf [1, 2])) n3 n4) (8 + 0) (frF 0 (fun _ => 0)) n5 n6)).n ≤ 100000000 from (show 0 + (8 + 2) + (8 + 0) ≤ 100000000 from by omega)))) (sk trivial))) (fun (n11 n12 n13 : Nat) => And.intro (sk (And.intro (And.intro trivial (mk_build (P := Tryd.prog) (t := 22) (e := 5) one5 1 #[(0, (u8 3))] #[(u8 3)] (by kernel_rfl) (by decide) (by kernel_rfl))) (And.intro (And.intro trivial (torn_lit (F := famT) (fun z hz => hz) n1 (Grw.cat (Grw.cat D0 (8 + 2) (frF 2 (bytsOf [1, 2])) n3 n4) (8 + 0) (frF 0 (fun _ => 0)) n5 n6) (Grw.cat_ok (Grw.cat_ok (fun _ => rfl) _ _ _ _) _ _ _ _) (show ((Grw.cat (Grw.cat D0 (8 + 2) (frF 2 (bytsOf [1, 2])) n3 n4) (8 + 0) (frF 0 (fun _ => 0)) n5 n6)).n ≤ 100000000 from (show 0 + (8 + 2) + (8 + 0) ≤ 100000000 from by omega)) n11 1 (bytsOf [3]) (cs := [(u8 3)]) 8 (by decide) rfl)) trivial))) (fun (n14 n15 n16 n17 n18 : Nat) => And.intro (sk (And.intro (And.intro trivial (disk_run (F := famT) n1 (Grw.cat (Grw.cat (Grw.cat D0 (8 + 2) (frF 2 (bytsOf [1, 2])) n3 n4) (8 + 0) (frF 0 (fun _ => 0)) n5 n6) (min (Int.toNat 8) (8 + 1)) (frF 1 (bytsOf [3])) n12 n13) (Grw.cat_ok (Grw.cat_ok (Grw.cat_ok (fun _ => rfl) _ _ _ _) _ _ _ _) _ _ _ _) (show ((Grw.cat (Grw.cat (Grw.cat D0 (8 + 2) (frF 2 (bytsOf [1, 2])) n3 n4) (8 + 0) (frF 0 (fun _ => 0)) n5 n6) (min (Int.toNat 8) (8 + 1)) (frF 1 (bytsOf [3])) n12 n13)).n ≤ 100000000 from (show 0 + (8 + 2) + (8 + 0) + (min (Int.toNat 8) (8 + 1)) ≤ 100000000 from by omega)))) (And.intro (And.intro trivial (open_cl (F := famT) (fun z hz => hz) (Grw.cat (Grw.cat (Grw.cat D0 (8 + 2) (frF 2 (bytsOf [1, 2])) n3 n4) (8 + 0) (frF 0 (fun _ => 0)) n5 n6) (min (Int.toNat 8) (8 + 1)) (frF 1 (bytsOf [3])) n12 n13) n14 n15 (Grw.cat_ok (Grw.cat_ok (Grw.cat_ok (fun _ => rfl) _ _ _ _) _ _ _ _) _ _ _ _) (show ((Grw.cat (Grw.cat (Grw.cat D0 (8 + 2) (frF 2 (bytsOf [1, 2])) n3 n4) (8 + 0) (frF 0 (fun _ => 0)) n5 n6) (min (Int.toNat 8) (8 + 1)) (frF 1 (bytsOf [3])) n12 n13)).n ≤ 100000000 from (show 0 + (8 + 2) + (8 + 0) + (min (Int.toNat 8) (8 + 1)) ≤ 100000000 from by omega)))) (sk trivial)))) (And.intro (sk (sk trivial)) (And.intro trivial (And.intro (@rfl Bool false) (And.intro (sk (And.intro (And.intro trivial (jlen_run (F := famT) (fun z hz => hz) n16 (opG (recD (Grw.cat (Grw.cat (Grw.cat D0 (8 + 2) (frF 2 (bytsOf [1, 2])) n3 n4) (8 + 0) (frF 0 (fun _ => 0)) n5 n6) (min (Int.toNat 8) (8 + 1)) (frF 1 (bytsOf [3])) n12 n13)) n17 n18) (opG_ok (recD_ok (Grw.cat_ok (Grw.cat_ok (Grw.cat_ok (fun _ => rfl) _ _ _ _) _ _ _ _) _ _ _ _) (show ((Grw.cat (Grw.cat (Grw.cat D0 (8 + 2) (frF 2 (bytsOf [1, 2])) n3 n4) (8 + 0) (frF 0 (fun _ => 0)) n5 n6) (min (Int.toNat 8) (8 + 1)) (frF 1 (bytsOf [3])) n12 n13)).n ≤ 9223372036854775807 from (show 0 + (8 + 2) + (8 + 0) + (min (Int.toNat 8) (8 + 1)) ≤ 9223372036854775807 from by have fo0 : (opG (recD (Grw.cat (Grw.cat (Grw.cat D0 (8 + 2) (frF 2 (bytsOf [1, 2])) n3 n4) (8 + 0) (frF 0 (fun _ => 0)) n5 n6) (min (Int.toNat 8) (8 + 1)) (frF 1 (bytsOf [3])) n12 n13)) 0 0).n ≤ 0 + (8 + 2) + (8 + 0) + (min (Int.toNat 8) (8 + 1)) := (opG_len _ _ _); omega))) _ _) (show ((opG (recD (Grw.cat (Grw.cat (Grw.cat D0 (8 + 2) (frF 2 (bytsOf [1, 2])) n3 n4) (8 + 0) (frF 0 (fun _ => 0)) n5 n6) (min (Int.toNat 8) (8 + 1)) (frF 1 (bytsOf [3])) n12 n13)) n17 n18)).n ≤ 100000000 from (show (opG (recD (Grw.cat (Grw.cat (Grw.cat D0 (8 + 2) (frF 2 (bytsOf [1, 2])) n3 n4) (8 + 0) (frF 0 (fun _ => 0)) n5 n6) (min (Int.toNat 8) (8 + 1)) (frF 1 (bytsOf [3])) n12 n13)) 0 0).n ≤ 100000000 from by have fo0 : (opG (recD (Grw.cat (Grw.cat (Grw.cat D0 (8 + 2) (frF 2 (bytsOf [1, 2])) n3 n4) (8 + 0) (frF 0 (fun _ => 0)) n5 n6) (min (Int.toNat 8) (8 + 1)) (frF 1 (bytsOf [3])) n12 n13)) 0 0).n ≤ 0 + (8 + 2) + (8 + 0) + (min (Int.toNat 8) (8 + 1)) := (opG_len _ _ _); omega)))) (sk trivial))) (fun (n19 n20 : Nat) => And.intro (sk (And.intro (And.intro trivial (mk_build (P := Tryd.prog) (t := 22) (e := 5) one5 2 #[(0, (u8 1)), (1, (u8 2))] #[(u8 1), (u8 2)] (by kernel_rfl) (by decide) (by kernel_rfl))) (And.intro (And.intro trivial (mk_build (P := Tryd.prog) (t := 24) (e := 22) one22 2 #[(0, (Value.slice (some ⟨n19, 0, none⟩) 2 2)), (1, (Value.slice none 0 0))] #[(Value.slice (some ⟨n19, 0, none⟩) 2 2), (Value.slice none 0 0)] (by kernel_rfl) (by decide) (by kernel_rfl))) (And.intro (And.intro trivial (lists_at (aw_same n3 n4 n5 n6 n19 n7 n8 n9 n20 n10) (lists_any (F := famT) (recS (gsOf (nR (Grw.cat (Grw.cat D0 (8 + 2) (frF 2 (bytsOf [1, 2])) n3 n4) (8 + 0) (frF 0 (fun _ => 0)) n5 n6).f (0 + (8 + 2) + (8 + 0))) (elF n7 n8 (jL (Grw.cat (Grw.cat D0 (8 + 2) (frF 2 (bytsOf [1, 2])) n3 n4) (8 + 0) (frF 0 (fun _ => 0)) n5 n6).f) (jf (Grw.cat (Grw.cat D0 (8 + 2) (frF 2 (bytsOf [1, 2])) n3 n4) (8 + 0) (frF 0 (fun _ => 0)) n5 n6).f)) n9 n10)) (bysO n20 2 2 (brow [(bytO n19 2 2 (bytsOf [1, 2])), (bytZ none 0)])) (recS_own (show 0 + (8 + 2) + (8 + 0) ≤ 9223372036854775807 from by have fo0 : (opG (recD (Grw.cat (Grw.cat (Grw.cat D0 (8 + 2) (frF 2 (bytsOf [1, 2])) n3 n4) (8 + 0) (frF 0 (fun _ => 0)) n5 n6) (min (Int.toNat 8) (8 + 1)) (frF 1 (bytsOf [3])) n12 n13)) 0 0).n ≤ 0 + (8 + 2) + (8 + 0) + (min (Int.toNat 8) (8 + 1)) := (opG_len _ _ _); omega)) (oks_own (Nat.le_refl _) (by decide) (brow2 (P := fun _ z => OkB z) (okb_own (Nat.le_refl _) (by decide)) okb_nil)) (bs := [roO (gsE slqC [Value.slice none 0 0] 1 (gsOf (nR (Grw.cat (Grw.cat D0 (8 + 2) (frF 2 (bytsOf [1, 2])) n3 n4) (8 + 0) (frF 0 (fun _ => 0)) n5 n6).f (0 + (8 + 2) + (8 + 0))) (elF n7 n8 (jL (Grw.cat (Grw.cat D0 (8 + 2) (frF 2 (bytsOf [1, 2])) n3 n4) (8 + 0) (frF 0 (fun _ => 0)) n5 n6).f) (jf (Grw.cat (Grw.cat D0 (8 + 2) (frF 2 (bytsOf [1, 2])) n3 n4) (8 + 0) (frF 0 (fun _ => 0)) n5 n6).f)) n9 n10)), roO (plO (nR (Grw.cat (Grw.cat D0 (8 + 2) (frF 2 (bytsOf [1, 2])) n3 n4) (8 + 0) (frF 0 (fun _ => 0)) n5 n6).f (0 + (8 + 2) + (8 + 0))) n7 n8 (jL (Grw.cat (Grw.cat D0 (8 + 2) (frF 2 (bytsOf [1, 2])) n3 n4) (8 + 0) (frF 0 (fun _ => 0)) n5 n6).f) (jf (Grw.cat (Grw.cat D0 (8 + 2) (frF 2 (bytsOf [1, 2])) n3 n4) (8 + 0) (frF 0 (fun _ => 0)) n5 n6).f)), some ⟨n20, false, 0, (.lit [(Value.slice (some ⟨n19, 0, none⟩) 2 2), (Value.slice none 0 0)])⟩, some ⟨n19, false, 0, (.lit [(u8 1), (u8 2)])⟩]) (fun w hw hb => hold_or (own_fam0 hb) (lit_fam rfl (hb 2 _ rfl) (brow2 (P := fun _ z => FamH (famB z) w) (holdb_own (holds_litB (hb 3 _ rfl) rfl)) (fun z hz => absurd hz.1 (Nat.lt_irrefl 0)))))))) (sk (And.intro (And.intro (@rfl Bool true) t2) (And.intro (And.intro (@rfl Bool true) (And.intro trivial (@is_eqln Tryd.prog 3 3 (.tmp 30) (.const (.int .i64 2))  (nR (opG (recD (Grw.cat (Grw.cat (Grw.cat D0 (8 + 2) (frF 2 (bytsOf [1, 2])) n3 n4) (8 + 0) (frF 0 (fun _ => 0)) n5 n6) (min (Int.toNat 8) (8 + 1)) (frF 1 (bytsOf [3])) n12 n13)) n17 n18).f ((opG (recD (Grw.cat (Grw.cat (Grw.cat D0 (8 + 2) (frF 2 (bytsOf [1, 2])) n3 n4) (8 + 0) (frF 0 (fun _ => 0)) n5 n6) (min (Int.toNat 8) (8 + 1)) (frF 1 (bytsOf [3])) n12 n13)) 0 0).n)) 2))) (And.intro (And.intro trivial (And.intro (fun (_ : true = true) => trivial) (fun (_ : true = false) => trivial))) (sk trivial))))))))) (And.intro trivial (@Exists.intro (List Nat) (fun (ns : List Nat) => ns.length = 0 ∧ ((Value.bool (selB true (decide ((nR (opG (recD (Grw.cat (Grw.cat (Grw.cat D0 (8 + 2) (frF 2 (bytsOf [1, 2])) n3 n4) (8 + 0) (frF 0 (fun _ => 0)) n5 n6) (min (Int.toNat 8) (8 + 1)) (frF 1 (bytsOf [3])) n12 n13)) n17 n18).f ((opG (recD (Grw.cat (Grw.cat (Grw.cat D0 (8 + 2) (frF 2 (bytsOf [1, 2])) n3 n4) (8 + 0) (frF 0 (fun _ => 0)) n5 n6) (min (Int.toNat 8) (8 + 1)) (frF 1 (bytsOf [3])) n12 n13)) 0 0).n)) = 2)) false)) : Value) = (fun (_ : List Nat) => Value.bool true) ns ∧ ([] : List (Option Blk)) = (fun (_ : List Nat) => []) ns) [] (And.intro (@rfl Nat 0) (And.intro ((show (Value.bool (selB true (decide ((nR (opG (recD (Grw.cat (Grw.cat (Grw.cat D0 (8 + 2) (frF 2 (bytsOf [1, 2])) n3 n4) (8 + 0) (frF 0 (fun _ => 0)) n5 n6) (min (Int.toNat 8) (8 + 1)) (frF 1 (bytsOf [3])) n12 n13)) n17 n18).f ((opG (recD (Grw.cat (Grw.cat (Grw.cat D0 (8 + 2) (frF 2 (bytsOf [1, 2])) n3 n4) (8 + 0) (frF 0 (fun _ => 0)) n5 n6) (min (Int.toNat 8) (8 + 1)) (frF 1 (bytsOf [3])) n12 n13)) 0 0).n)) = 2)) false)) = Value.bool true from congrArg Value.bool (aw_end n3 n4 n5 n6 n12 n13 n17 n18))) (@rfl (List (Option Blk)) [])))))))))))))))))))))
end Go.Proofs.YtagbdahcopkpjaaDoor
end
section
namespace Go.Eng
open Go.RowKit
set_option linter.unusedSimpArgs false
set_option linter.unusedVariables false
set_option maxRecDepth 100000
theorem RunsO.vtrue {F : Blk → Prop} {P : Program} {f : FuncId} {args : List Value} {bs : List (Option Blk)} {b : Bool} {out : List Nat → List (Option Blk)} (hb : b = true) (h : RunsO F P f args bs 0 (fun _ => Value.bool b) out) : RunsO F P f args bs 0 (fun _ => Value.bool true) out := hb ▸ h
theorem gs_src {α : Type} {C : α → List Value} {zc : List Value} {sz : Nat} (A : Grw α) (hA : A.ok) (hsz : 0 < sz) (hC : ∀ a, (C a).length = sz) (hz : zc.length = sz) :
    0 < A.n → ∃ k bo os S, gsA A = some ⟨k, bo + os, none⟩ ∧ roO (gsE C zc sz A) = some ⟨k, false, bo, S⟩ ∧ ∀ j, j < A.n * sz → S.get (os + j) = some (cf sz (fun k => C (A.f k)) j) := fun h0 => by
  have hz' := hA.pos h0
  refine ⟨A.nm, 0, 0, sprE sz (A.n + A.r) A.n (fun k => C (A.f k)) zc, gsA_own hz', by rw [gsE_own hz']; rfl, fun j hj => ?_⟩
  have h1 : j < (A.n + A.r) * sz := by rw [Nat.add_mul]; omega
  rw [Nat.zero_add]
  unfold sprE
  rw [tabE_in hsz (fun k _ => by split; exact hC _; exact hz) h1, cf_spr_lt hj]
end Go.Eng
end
section
namespace Go.Eng
open Go.RowKit
set_option linter.unusedSimpArgs false
set_option linter.unusedVariables false
set_option maxRecDepth 100000
theorem spr_castE {c n : Nat} {f g : Nat → Value} {z : Value} (h : ∀ k, k < n → g k = f k) : ∀ o v, (spr c n g z).get o = some v → (spr c n f z).get o = some v := by
  rw [spr_as h]; exact fun o v h => h
theorem eE_cat {xs : Nat → BytL} {i v : Nat} (hv : v = eE xs i + 8 + (xs i).wn) : ∀ k, k < i + 1 + 1 → nat (eE xs k) = nat (catU (eE xs) (i + 1) (fun _ => v) k) := fun k hk => by
  unfold catU
  by_cases h : k < i + 1
  · rw [if_pos h]
  · have : k = i + 1 := by omega
    subst this
    rw [if_neg h, hv]
    show nat (eE xs i + (8 + (xs i).wn)) = _
    rw [Nat.add_assoc]
theorem eE_one {xs : Nat → BytL} : ∀ o v, (spr (1 + 0) 1 (fun k => nat (eE xs k)) (nat 0)).get o = some v → (Cont.lit [int 0]).get o = some v := fun o v h => by
  by_cases ho : o < 1
  · rw [spr, tabF_in (by omega), if_pos ho] at h
    have : o = 0 := by omega
    subst this
    exact h
  · rw [spr, tabF_out (by omega)] at h; cases h
theorem br_zero {xs : Nat → BytL} : FrAll D0.f xs 0 := ⟨fun k hk => absurd hk (by omega), fun k hk => absurd hk (by omega)⟩
theorem br_step {xs : Nat → BytL} {i : Nat} {D : Grw UInt8} {a r : Nat} (h : FrAll D.f xs i) (hn : D.n = eE xs i) (hx : (xs i).wn ≤ 4000) :
    FrAll (Grw.cat D (8 + (xs i).wn) (frF (xs i).wn (xs i).wf) a r).f xs (i + 1) ∧ (Grw.cat D (8 + (xs i).wn) (frF (xs i).wn (xs i).wf) a r).n = eE xs (i + 1) :=
  ⟨h.push hx (show catU D.f D.n _ = _ by rw [hn]), show D.n + (8 + (xs i).wn) = eE xs i + (8 + (xs i).wn) by rw [hn]⟩
def bysT (x : BytS) (k : Nat) : BytS := ⟨x.wa, k, x.wc, x.wb, x.wo, x.wf⟩
theorem oks_to {x : BytS} {k : Nat} (h : OkS x) (hk : k ≤ x.wn) : OkS (bysT x k) := ⟨Nat.le_trans hk h.cap, fun h0 => h.ad (Nat.lt_of_lt_of_le h0 hk), Nat.le_trans hk h.len, fun j hj => h.el j (Nat.lt_of_lt_of_le hj hk)⟩
theorem fams_to {x : BytS} {k : Nat} (hk : k ≤ x.wn) {w : World} (h : FamH (famS x) w) : FamH (famS (bysT x k)) w := fun b hb => by
  rcases hb with ⟨h0, rfl⟩ | ⟨j, hj, hb⟩
  · have h1 := h (bysB x) (.inl ⟨Nat.lt_of_lt_of_le h0 hk, rfl⟩)
    refine ⟨h1.1.recont rfl fun o v hv => ?_, rfl⟩
    have hv' : (tabF k fun j => slqV (x.wf j)).get o = some v := hv
    show (tabF x.wn fun j => slqV (x.wf j)).get o = some v
    have h0' : 0 < k := h0
    by_cases ho : o < k
    · rw [tabF_in ho] at hv'; rw [tabF_in (by omega)]; exact hv'
    · rw [tabF_out ho] at hv'; cases hv'
  · exact h b (.inr ⟨j, Nat.lt_of_lt_of_le hj hk, hb⟩)
theorem spr_noroom {n r : Nat} {g : Nat → Value} {z : Value} : ∀ o v, (tabF n g).get o = some v → (spr (n + r) n g z).get o = some v := fun o v h => by
  by_cases ho : o < n
  · rw [tabF_in ho] at h
    rw [spr, tabF_in (by omega), if_pos ho]; exact h
  · rw [tabF_out ho] at h; cases h
theorem srun_ldS {P : Program} {t : TypeId} {α : Type} (K : α → Value) (g : Nat → α) (z : Value) (ha : aggB P t = some false) (b n r i : Nat) (hi : i < n) : SRuns P (ldSem t (.pointer (some ⟨b, 0 + i * 1, none⟩))) [⟨b, false, 0, spr (n + r) n (fun k => K (g k)) z⟩] 0 (fun _ => K (g i)) (fun _ => [none]) := by
  intro w hm hap
  have hS : Holds ⟨b, false, 0, spr (n + r) n (fun k => K (g k)) z⟩ w := hm _ (by simp)
  have hc := hS.cell i (K (g i)) (by show (spr (n + r) n (fun k => K (g k)) z).get i = _; rw [spr, tabF_in (by omega), if_pos hi])
  refine ⟨[], w, rfl, .inl ?_, ?_⟩
  · have hr := run_loadAt_one (P := P) (t := t) (w := w) (b := b) (o := 0 + i * 1) (v := K (g i)) ha (by rw [Nat.mul_one]; exact hc)
    show (Instr.loadAt t _ >>= fun v => Sem.pure (Next.value v)).run P w = _
    rw [Sem.run_bind, hr]; rfl
  · exact ⟨fun p b hpb => by rcases p with _ | p <;> simp [listMem] at hpb, fun p q b c _ hpb => by rcases p with _ | p <;> simp [listMem] at hpb, (Adv.refl _ _).weak fun p b hpb => by rcases p with _ | p <;> simp [listMem] at hpb⟩
theorem br_eq {f : Nat → UInt8} {xs : Nat → BytL} {i K : Nat} (h : FrAll f xs i) (e : i = K) : FrAll f xs K := e ▸ h
theorem gs_to {α : Type} {A : Grw α} (h : A.ok) {i : Nat} (hi : i ≤ A.n) : i ≤ gsC A := Nat.le_trans hi (gs_le h)
theorem famTS_one {x : BytS} {i : Nat} (hi : i < x.wn) : ∀ z, famB (x.wf i) z → famTS x z := fun z hz => .inr (.inr ⟨i, hi, hz⟩)
end Go.Eng
end
section
namespace Go.Eng
open Go.RowKit
set_option linter.unusedSimpArgs false
set_option linter.unusedVariables false
set_option maxRecDepth 100000
theorem ofInt8 (a : UInt8) : BitVec.ofInt 8 (a.toNat : Int) = a.toBitVec := by
  apply BitVec.eq_of_toNat_eq
  rw [BitVec.toNat_ofInt]
  have := a.toNat_lt
  show ((a.toNat : Int) % ((2 ^ 8 : Nat) : Int)).toNat = a.toNat
  omega
theorem is_xor8 {P : Program} {t t' : TypeId} {x y : Operand} {a b : UInt8} : IsOp P (.binOp .xor t x y t') [u8 a, u8 b] (u8 (a ^^^ b)) := isOp_bin guard_int (by
  show some (Value.int .u8 (IntKind.u8.wrap (((BitVec.ofInt 8 (a.toNat : Int)) ^^^ (BitVec.ofInt 8 (b.toNat : Int))).toNat))) = _
  rw [wrap_u8, ofInt8, ofInt8, u8]; congr 2
  have := (a ^^^ b).toNat_lt
  have h : (a.toBitVec ^^^ b.toBitVec).toNat = (a ^^^ b).toNat := rfl
  rw [h]; omega)
theorem app_clone {P : Program} {t ty e : TypeId} (ht : P.underlying t = some (.slice e)) (h1 : AggC P e [u8 0] 1 1) (b : Nat) (D : Grw UInt8) (hD : D.ok) (hb : D.n ≤ 140737488355328) :
    SRunsO P (appendSem t ty (.slice (some ⟨b, 0, none⟩) 0 0) (gsV D)) [some ⟨b, true, 0, sprE 1 (0 + 0) 0 (fun k => u8C ((fun _ => 0) k)) [u8 0]⟩, roO (gsE u8C [u8 0] 1 D)] 2 (fun ns => .slice (some ⟨ns.getD 0 0, 0, none⟩) D.n (D.n + ns.getD 1 0)) (fun ns => [some ⟨ns.getD 0 0, true, 0, spr (D.n + ns.getD 1 0) D.n (fun k => u8 (D.f k)) (u8 0)⟩, none]) := by
  have h := mkG_catE (P := P) (t := t) (ty := ty) (e := e) ht h1 (⟨false, b, 0, 0, fun _ => 0⟩ : Grw UInt8) (fun h => by cases h) (C := u8C) (fun _ => ⟨rfl, rfl⟩) D.f D.n (gsA D) (gsC D) (roO (gsE u8C [u8 0] 1 D)) (gs_src D hD (by decide) (fun _ => rfl) rfl) (show (0 + D.n) * 1 ≤ 140737488355328 ∧ 0 + D.n ≤ 9223372036854775807 by omega)
  have e0 : ∀ a r, Grw.cat (⟨false, b, 0, 0, fun _ => 0⟩ : Grw UInt8) D.n D.f a r = ⟨false, a, D.n, r, D.f⟩ := fun a r => by
    unfold Grw.cat
    rw [Bool.and_false, Nat.zero_add, catU_zero]
  have e1 : ∀ a r, gsE u8C [u8 0] 1 (⟨false, a, D.n, r, D.f⟩ : Grw UInt8) = some ⟨a, true, 0, spr (D.n + r) D.n (fun k => u8 (D.f k)) (u8 0)⟩ := fun a r => by rw [gsE_u8]; rfl
  simp only [e0, e1] at h
  exact h
theorem sp_congr {f : Nat → UInt8} {xs : Nat → BytL} {K w m : Nat} {y : UInt8} (h : FrAll f xs K) (hw : w ≤ K) (hm : eE xs w ≤ m) : FrAll (upd f m y) xs w := (h.less hw).congr fun i hi => by
  unfold upd; rw [if_neg (by omega)]
theorem sp_ge {f : Nat → UInt8} {xs : Nat → BytL} {w n : Nat} (h : FrAll f xs w) (hn : eE xs w ≤ n) : w ≤ nR f n ∧ eE xs w ≤ atK f (nR f n) := by
  have h1 : w ≤ nR f n := nR_ge fun j hj => fr_okK h hj (Nat.le_trans (eE_mono hj) hn)
  exact ⟨h1, by rw [← fr_at h w (Nat.le_refl _)]; exact atK_mono h1⟩
theorem sp_lists {x : BytS} {F : Nat → UInt8} {K c d nm r w : Nat} (h : FrAll F x.wf w) : listsB (bysT (recS (gsOf K (elF c d (jL F) (jf F)) nm r)) w) (bysT x w) = true :=
  lists_true rfl fun j hj => ⟨fr_jL h hj, fun i hi => fr_jf h hj (by rw [← fr_jL h hj]; exact hi)⟩
end Go.Eng
end
section
namespace Go.Proofs.YtagbdahcopkpjaaDoor
open Go Go.Eng
set_option linter.unusedVariables false
set_option linter.unusedSimpArgs false
set_option maxRecDepth 100000
set_option maxHeartbeats 1000000
theorem one3 : OneC Tryd.prog 3 (int 0) 8 := oneC_of (by kernel_rfl) rfl
end Go.Proofs.YtagbdahcopkpjaaDoor
end
