/-
  Many in one: EngN, EngO, LimbDiv, LimbShift, LimbLaws, LimbDigits, EngP, LimbRef, LimbRef2, EngQ.
-/
import Derived.Test.YtagbdahcopkpjaaDoorZJournalSpoilt3
import Derived.Laws.IdiomArrays
import Derived.OpenShut
import Derived.ProofKit
import Derived.WalkKit
section
namespace Go.Eng
open Go.ChangeShapes Go.WideShapes Go.ChangeAt Go.RowKit
theorem below_of_adv {m m' : Nat → Option Blk} {w w' : World} (h : Adv m w m' w') (hm : ∀ p b, m p = some b → b.own = false) : Below w.heap.size w w' :=
  ⟨h.os, h.tape, h.output, h.size, fun k hk => h.heap k hk fun ⟨p, b, h1, h2, _⟩ => by rw [hm p b h1] at h2; cases h2⟩
variable {H : Type} {enc : TypeId × Value → H} {P : Program}
def allRead (P : Program) (ts : List TypeId) : Bool := ts.all fun t => P.readableRec t && Nat.blt t P.types.size
theorem trodAll_stays (hl : laidOutB P = true) {W W' : World} {sp : Nat → Bool} : ∀ {ts : List TypeId} {vs : List Value} {ds : List (DataW H)} {ps : List MemPlace}, allRead P ts = true →
    DataW.TrodAll enc P W 0 (fun _ => true) true ts vs ds ps → (∀ x ∈ ps, W.sameAt W' x) → (∀ x ∈ ps, sp x.block = true) → DataW.TrodAll enc P W' 0 sp true ts vs ds ps
  | [], vs, ds, ps, _, h, _, _ => by
    obtain ⟨rfl, rfl, rfl⟩ := trodAll_nil h
    rfl
  | t :: ts, vs, ds, ps, hr, h, hs, hp => by
    obtain ⟨v, vs', d, ds', p, q, rfl, rfl, rfl, h1, h2⟩ := trodAll_cons h
    simp only [allRead, List.all_cons, Bool.and_eq_true] at hr
    have ht : t < P.types.size := by have := hr.1.2; rw [Nat.blt_eq] at this; exact this
    exact ⟨p, q, WideElems.Trod_stays hl hr.1.1 ht h1 (fun x hx => hs x (by simp [hx])) (fun x hx => hp x (by simp [hx])),
      trodAll_stays hl hr.2 h2 (fun x hx => hs x (by simp [hx])) (fun x hx => hp x (by simp [hx])), rfl⟩
theorem law_post {f : Func} {s : ChangeSpec} {tb : TypeId} (hl : laidOutB P = true) (hts : allRead P f.params.toList = true) (hrt : f.resultTypes = #[tb]) (hb : P.underlying tb = some .bool) (hvars : s.vars = [])
    {W W' : World} {args : Array Value} {ds gs : List (DataW H)} {before : List MemPlace} (hW : DataW.Whole enc P f.params.toList s.vars false W args.toList ds gs before)
    (hfn : (s.fn H (ds ++ gs)).results = [.lit (.bool true)] ∧ (s.fn H (ds ++ gs)).args = ds ∧ (s.fn H (ds ++ gs)).vars = []) (hbel : Below W.heap.size W W') :
    s.post enc P f false true false false W args (.bool true) W' := by
  have hlt := hW.lt
  obtain ⟨p, q, hA, hV, hpq, hfz, hnd⟩ := hW
  rw [hvars] at hV
  obtain ⟨hgs, hq⟩ := trodVars_none hV
  have hsame : ∀ x ∈ p, W.sameAt W' x := fun x hx => hbel.same (hlt x (by rw [hpq]; simp [hx]))
  obtain ⟨h1, h2, h3⟩ := hfn
  have hrl : (Value.bool true).resultList f.resultTypes.size = [.bool true] := by rw [hrt]; rfl
  have hfree : ∀ x ∈ before, x.block < W.heap.size := fun x hx => hlt x hx
  refine ⟨ds, gs, before, [], p, [], ⟨p, q, hA, by rw [hvars]; exact hV, hpq, hfz, hnd⟩, ?_, ?_, ?_, World.keptBut_mono (fun _ h => h.elim) (Below.frame hbel (fun _ => False)), fun h => by cases h⟩
  · rw [h1, hrl, hrt]
    exact trodAll_cons_mk (shut_bool hb true) trodAll_mk0
  · rw [h2]
    exact trodAll_stays hl hts hA hsame (fun x hx => by simpa using hlt x (by rw [hpq]; simp [hx]))
  · rw [h3, hvars]; rfl
theorem open_i64 {r : Reach} {b0 : Nat} {W : World} {base : Nat} {sp : Nat → Bool} {held : Bool} {t : TypeId} {v : Value} {d : DataW H} {ps : List MemPlace} (ht : P.underlying t = some (.int .i64)) (hval : Value.okWide P W r b0 t v)
    (hd : DataW.Trod enc P W base sp held t v d ps) : ∃ x : Int, v = int x ∧ -9223372036854775808 ≤ x ∧ x ≤ 9223372036854775807 := by
  obtain ⟨n, rfl, _, _, hw⟩ := open_int ht hval hd
  have hx : -9223372036854775808 ≤ n ∧ n ≤ 9223372036854775807 := by simpa [Lit.wf, IntKind.min, IntKind.max, IntKind.signed, IntKind.bits] using hw
  exact ⟨n, rfl, hx.1, hx.2⟩
end Go.Eng
end
section
namespace Go.Eng
def nat (n : Nat) : Value := .int .i64 (n : Int)
section nats
variable {P : Program} {t t' : TypeId} {x y : Operand} (a b : Nat)
theorem is_addn (h : a + b ≤ 9223372036854775807) : IsOp P (.binOp .add t x y t') [nat a, nat b] (nat (a + b)) := isOp_bin guard_int (by
  show some (Value.int .i64 (IntKind.i64.wrap ((a : Int) + b))) = _
  rw [wrap_i64 _ (by omega)]; rfl)
theorem is_subn (h : b ≤ a ∧ a - b ≤ 9223372036854775807) : IsOp P (.binOp .sub t x y t') [nat a, nat b] (nat (a - b)) := isOp_bin guard_int (by
  show some (Value.int .i64 (IntKind.i64.wrap ((a : Int) - b))) = _
  rw [wrap_i64 _ (by omega)]
  have : ((a : Int) - b) = ((a - b : Nat) : Int) := by omega
  rw [this]; rfl)
theorem is_muln (h : a * b ≤ 9223372036854775807) : IsOp P (.binOp .mul t x y t') [nat a, nat b] (nat (a * b)) := isOp_bin guard_int (by
  show some (Value.int .i64 (IntKind.i64.wrap ((a : Int) * b))) = _
  have : ((a : Int) * b) = ((a * b : Nat) : Int) := by push_cast; rfl
  rw [this, wrap_i64 _ (by omega)]; rfl)
theorem is_quon (h : 0 < b ∧ a ≤ 9223372036854775807) : IsOp P (.binOp .quo t x y t') [nat a, nat b] (nat (a / b)) := isOp_bin guard_int (by
  show pureRun P (Op.intDiv .quo .i64 (a : Int) (b : Int)) = _
  unfold Op.intDiv
  rw [if_neg (by omega)]
  show some (Value.int .i64 (IntKind.i64.wrap ((a : Int).tdiv b))) = _
  have : ((a : Int).tdiv b) = ((a / b : Nat) : Int) := by rw [Int.tdiv_eq_ediv_of_nonneg (by omega)]; push_cast; rfl
  have h2 : a / b ≤ a := Nat.div_le_self _ _
  rw [this]
  generalize a / b = q at h2 ⊢
  rw [wrap_i64 _ (by omega)]; rfl)
theorem is_remn (h : 0 < b) : IsOp P (.binOp .rem t x y t') [nat a, nat b] (nat (a % b)) := isOp_bin guard_int (by
  show pureRun P (Op.intDiv .rem .i64 (a : Int) (b : Int)) = _
  unfold Op.intDiv
  rw [if_neg (by omega)]
  show some (Value.int .i64 ((a : Int).tmod b)) = _
  have : ((a : Int).tmod b) = ((a % b : Nat) : Int) := by rw [Int.tmod_eq_emod_of_nonneg (by omega)]; push_cast; rfl
  rw [this]; rfl)
theorem is_lssn : IsOp P (.binOp .lss t x y t') [nat a, nat b] (.bool (decide (a < b))) := isOp_bin guard_int (by
  show some (Value.bool (decide ((a : Int) < b))) = _
  congr 2; simp)
theorem is_leqn : IsOp P (.binOp .leq t x y t') [nat a, nat b] (.bool (decide (a ≤ b))) := isOp_bin guard_int (by
  show some (Value.bool (decide ((a : Int) ≤ b))) = _
  congr 2; simp)
theorem is_gtrn : IsOp P (.binOp .gtr t x y t') [nat a, nat b] (.bool (decide (b < a))) := isOp_bin guard_int (by
  show some (Value.bool (decide ((a : Int) > b))) = _
  congr 2; simp)
theorem is_geqn : IsOp P (.binOp .geq t x y t') [nat a, nat b] (.bool (decide (b ≤ a))) := isOp_bin guard_int (by
  show some (Value.bool (decide ((a : Int) ≥ b))) = _
  congr 2; simp)
theorem is_eqln : IsOp P (.binOp .eql t x y t') [nat a, nat b] (.bool (decide (a = b))) := isOp_bin guard_int (by
  show some (Value.bool ((a : Int) == b)) = _
  congr 2; rw [Bool.eq_iff_iff]; simp; omega)
theorem is_neqn : IsOp P (.binOp .neq t x y t') [nat a, nat b] (.bool (!decide (a = b))) := isOp_bin guard_int (by
  show some (Value.bool (!((a : Int) == b))) = _
  congr 3; rw [Bool.eq_iff_iff]; simp; omega)
end nats
section places
variable {P : Program} {t e : TypeId} {x y : Operand} {sz : Nat}
theorem isOp_index {vx vy v : Value} (h : pureRun P (Instr.indexAt t vx vy) = some v) : IsOp P (.indexAddr t x y) [vx, vy] v := by
  intro ρ o ho hv
  rw [ho] at hv
  simp only [Op.operands, List.map_cons, List.map_nil, List.cons.injEq, and_true] at hv
  obtain ⟨rfl, rfl⟩ := hv
  unfold execOp
  rw [ho]
  simp only
  show pureRun P (Sem.bind (Instr.indexAt t (ρ x) (ρ y)) fun v => Sem.pure (Next.value v)) = _
  rw [pureRun_bind, h]
  rfl
theorem add_none (n o k : Nat) : (⟨n, o, none⟩ : Addr).add k = ⟨n, o + k, none⟩ := by unfold Addr.add; split <;> simp_all
theorem is_ixArr {len : Nat} (ht : P.underlying t = some (.array len e)) (hs : sizeB P e = some sz) (n o i : Nat) (hi : i < len) : IsOp P (.indexAddr t x y) [ptr n o, nat i] (ptr n (o + i * sz)) := isOp_index (by
  have hi' : 0 ≤ (i : Int) ∧ (i : Int) < (len : Int) := by omega
  simp only [Instr.indexAt, ptr, nat, Instr.sureAddr, pureRun_bind', asIntOf, pureRun, pure, pureRun_underlying ht, hi', and_self, if_true, pureRun_sizeOf hs, add_none, Int.toNat_natCast])
theorem is_ixSl (ht : P.underlying t = some (.slice e)) (hs : sizeB P e = some sz) (n o len cap i : Nat) (hi : i < len) : IsOp P (.indexAddr t x y) [.slice (some ⟨n, o, none⟩) len cap, nat i] (ptr n (o + i * sz)) := isOp_index (by
  have hi' : 0 ≤ (i : Int) ∧ (i : Int) < (len : Int) := by omega
  simp only [Instr.indexAt, ptr, nat, Instr.sureAddr, pureRun_bind', asIntOf, pureRun, pure, pureRun_underlying ht, hi', and_self, if_true, pureRun_sizeOf hs, add_none, Int.toNat_natCast])
end places
section convs
variable {P : Program} {s d : TypeId} {x : Operand}
theorem conv_int {k k' : IntKind} (hs : P.underlying s = some (.int k)) (hd : P.underlying d = some (.int k')) (n : Int) : IsOp P (.convert s d x) [.int k n] (.int k' (k'.wrap n)) := isOp_conv (by
  unfold convert
  rw [pureRun_bind', pureRun_underlying hs]
  simp only
  rw [pureRun_bind', pureRun_underlying hd]
  rfl)
theorem wrap_u8 (n : Int) : IntKind.u8.wrap n = n % 256 := by simp [IntKind.wrap, IntKind.bits, IntKind.signed]
theorem wrap_u32 (n : Int) : IntKind.u32.wrap n = n % 4294967296 := by simp [IntKind.wrap, IntKind.bits, IntKind.signed]
theorem conv_u64_u8 (hs : P.underlying s = some (.int .u64)) (hd : P.underlying d = some (.int .u8)) (a : UInt64) : IsOp P (.convert s d x) [u64 a] (u8 a.toUInt8) := by
  have h := conv_int (x := x) hs hd a.toNat
  rw [wrap_u8] at h
  have : ((a.toNat : Int) % 256) = (a.toUInt8.toNat : Int) := by simp
  rw [this] at h; exact h
theorem conv_u8_int (hs : P.underlying s = some (.int .u8)) (hd : P.underlying d = some (.int .i64)) (a : UInt8) : IsOp P (.convert s d x) [u8 a] (nat a.toNat) := by
  have h1 := conv_int (x := x) hs hd a.toNat
  have := a.toNat_lt
  rw [wrap_i64 _ (by omega)] at h1; exact h1
theorem conv_int_u64 (hs : P.underlying s = some (.int .i64)) (hd : P.underlying d = some (.int .u64)) (n : Nat) : IsOp P (.convert s d x) [nat n] (u64 (.ofNat n)) := by
  have h := conv_int (x := x) hs hd n
  rw [wrap_u64] at h
  have : ((n : Int) % 18446744073709551616) = ((UInt64.ofNat n).toNat : Int) := by rw [UInt64.toNat_ofNat']; rfl
  rw [this] at h; exact h
theorem conv_int_u8 (hs : P.underlying s = some (.int .i64)) (hd : P.underlying d = some (.int .u8)) (n : Nat) : IsOp P (.convert s d x) [nat n] (u8 (.ofNat n)) := by
  have h := conv_int (x := x) hs hd n
  rw [wrap_u8] at h
  have : ((n : Int) % 256) = ((UInt8.ofNat n).toNat : Int) := by rw [UInt8.toNat_ofNat']; rfl
  rw [this] at h; exact h
end convs
def N4.get (x : N4) (i : Nat) : UInt64 := match i with
  | 0 => x.a
  | 1 => x.b
  | 2 => x.c
  | 3 => x.d
  | _ => 0
def N4.set (x : N4) (i : Nat) (v : UInt64) : N4 := match i with
  | 0 => { x with a := v }
  | 1 => { x with b := v }
  | 2 => { x with c := v }
  | 3 => { x with d := v }
  | _ => x
def N8.get (x : N8) (i : Nat) : UInt64 := match i with
  | 0 => x.lo.a
  | 1 => x.lo.b
  | 2 => x.lo.c
  | 3 => x.lo.d
  | 4 => x.hi.a
  | 5 => x.hi.b
  | 6 => x.hi.c
  | 7 => x.hi.d
  | _ => 0
def upd {α : Type} (f : Nat → α) (i : Nat) (v : α) : Nat → α := fun k => if k = i then v else f k
def tabF (n : Nat) (g : Nat → Value) : Cont := .tab n 1 fun k => [g k]
def litF (n : Nat) (g : Nat → Value) : Cont := .lit ((List.range n).map g)
def vecV (n : Nat) (g : Nat → Value) : Value := .agg ((List.range n).map g).toArray
theorem get_tabF (n : Nat) (g : Nat → Value) (o : Nat) : (tabF n g).get o = (litF n g).get o := by
  by_cases h : o < n
  · simp [tabF, litF, Cont.get, Nat.mod_one, h]
  · simp [tabF, litF, Cont.get, h]
theorem to_tabF (n : Nat) (g : Nat → Value) : ∀ o v, (tabF n g).get o = some v → (litF n g).get o = some v := fun o v h => by rw [← get_tabF]; exact h
theorem to_litF (n : Nat) (g : Nat → Value) : ∀ o v, (litF n g).get o = some v → (tabF n g).get o = some v := fun o v h => by rw [get_tabF]; exact h
theorem store_tabF {α : Type} (n : Nat) (K : α → Value) (f : Nat → α) (i : Nat) (v : α) : (tabF n fun k => K (f k)).store (.tab i 0) [K v] = some (tabF n fun k => K (upd f i v k)) := by
  show some (Cont.tab n 1 fun k => if k = i then [K v] else [K (f k)]) = _
  congr 1
  unfold tabF
  congr 1
  funext k
  by_cases h : k = i
  · subst h; simp [upd]
  · simp [upd, h]
theorem bnot_t {b : Bool} (h : (!b) = true) : b = false := by cases b <;> first | rfl | cases h
theorem bnot_f {b : Bool} (h : (!b) = false) : b = true := by cases b <;> first | rfl | cases h
end Go.Eng
end
section
namespace Go.Eng
def N8.val (x : N8) : Nat := x.lo.val + 2 ^ 256 * x.hi.val
def N4.ofNat (n : Nat) : N4 := ⟨.ofNat n, .ofNat (n / 2 ^ 64), .ofNat (n / 2 ^ 128), .ofNat (n / 2 ^ 192)⟩
end Go.Eng
end
section
namespace Go.Eng
end Go.Eng
end
section
namespace Go.Eng
end Go.Eng
end
section
namespace Go.Eng
theorem vecV_ext {n : Nat} {f g : Nat → Value} (h : ∀ k, k < n → f k = g k) : vecV n f = vecV n g := by
  unfold vecV
  congr 2
  exact List.map_congr_left fun k hk => h k (List.mem_range.1 hk)
def N8.set (x : N8) (i : Nat) (v : UInt64) : N8 := match decide (i < 4) with
  | true => { x with lo := x.lo.set i v }
  | false => { x with hi := x.hi.set (i - 4) v }
def N8.ofNat (n : Nat) : N8 := ⟨N4.ofNat n, N4.ofNat (n / 2 ^ 256)⟩
end Go.Eng
end
section
namespace Go.Eng
theorem is_shrn {P : Program} {t t' : TypeId} {x y : Operand} (a n : Nat) (ha : a ≤ 9223372036854775807) : IsOp P (.binOp .shr t x y t') [nat a, nat n] (nat (a / 2 ^ n)) := isOp_bin guard_int (by
  show pureRun P (Op.shift .shr .i64 (a : Int) .i64 (n : Int)) = _
  unfold Op.shift
  rw [if_neg (by omega)]
  show some (Value.int .i64 (Int.fdiv (a : Int) (2 ^ min (n : Int).toNat 64))) = _
  congr 1
  rw [Int.toNat_natCast]
  have key : ∀ m : Nat, Int.fdiv (a : Int) (2 ^ m) = ((a / 2 ^ m : Nat) : Int) := fun m => by
    rw [Int.fdiv_eq_ediv_of_nonneg _ (Int.pow_nonneg (by omega))]
    push_cast; rfl
  show Value.int .i64 _ = _
  rw [key, nat]
  congr 2
  by_cases h : n ≤ 64
  · rw [Nat.min_eq_left h]
  · rw [Nat.min_eq_right (by omega), Nat.div_eq_of_lt (show a < 2 ^ 64 by omega), Nat.div_eq_of_lt]
    exact Nat.lt_of_lt_of_le (show a < 2 ^ 64 by omega) (Nat.pow_le_pow_right (by omega) (by omega)))
section wides
open Go.ChangeShapes Go.WideShapes Go.ChangeAt Go.RowKit
variable {H : Type} {enc : TypeId × Value → H} {P : Program}
end wides
end Go.Eng
end
section
namespace Go.Eng
end Go.Eng
namespace Go.Eng
end Go.Eng
end
section
namespace Go.Eng
theorem is_rem64 {P : Program} {t t' : TypeId} {x y : Operand} (a b : UInt64) (hb : b.toNat ≠ 0) : IsOp P (.binOp .rem t x y t') [u64 a, u64 b] (u64 (a % b)) := isOp_bin guard_int (by
  show pureRun P (Op.intDiv .rem .u64 (a.toNat : Int) (b.toNat : Int)) = _
  unfold Op.intDiv
  rw [if_neg (by omega)]
  show some (Value.int .u64 ((a.toNat : Int).tmod b.toNat)) = _
  have : ((a.toNat : Int).tmod b.toNat) = (((a % b).toNat : Nat) : Int) := by rw [Int.tmod_eq_emod_of_nonneg (by omega), UInt64.toNat_mod]; push_cast; rfl
  rw [this]; rfl)
end Go.Eng
end
section
namespace Go.Eng
theorem Post.trans {m m' m'' : Nat → Option Blk} {w w' w'' : World} (h : Post m w m' w') (k : Post m' w' m'' w'') : Post m w m'' w'' := ⟨k.holds, k.apart, h.adv.trans k.adv⟩
theorem Post.drew {m : Nat → Option Blk} {w : World} (h : ∀ p b, m p = some b → Holds b w) (ha : Apart m) : Post m w m w.drew :=
  ⟨fun p b hp => (h p b hp).drew, ha, ⟨rfl, rfl, rfl, Nat.le_refl _, fun _ _ _ => rfl, fun _ h => .inl h, fun _ _ h _ => h⟩⟩
theorem listMem_set0 (x x' : Blk) (y : Option Blk) : memApply (listMem [some x, y]) [(0, some x')] = listMem [some x', y] := by
  funext p
  rcases p with _ | p <;> rfl
def copySem (dT sT ty : TypeId) (x y : Value) : Sem Next := do pure (.value (← Builtin.copy_ #[dT, sT] ty #[x, y]))
end Go.Eng
end
