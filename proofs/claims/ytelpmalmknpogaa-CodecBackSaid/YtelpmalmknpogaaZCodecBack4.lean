/-
  Many in one: EngN, EngO, LimbDiv, LimbShift, LimbLaws, LimbDigits, LimbRef, EngP, LimbRef2, EngQ.
-/
import Derived.Test.YtelpmalmknpogaaZCodecBack3
import Derived.Laws.IdiomArrays
import Derived.OpenShut
import Derived.ProofKit
import Derived.WalkKit
section
namespace Go.Eng
open Go.ChangeShapes Go.WideShapes Go.ChangeAt Go.RowKit
theorem below_of_adv {m m' : Nat → Option Blk} {w w' : World} (h : Adv m w m' w') (hm : ∀ p b, m p = some b → b.own = false) : Below w.heap.size w w' :=
  ⟨h.os, h.tape, h.output, h.size, fun k hk => h.heap k hk fun ⟨p, b, h1, h2, _⟩ => by rw [hm p b h1] at h2; cases h2⟩
variable {H : Type} {enc : TypeId × Value → H} {P : Program}
def allRead (P : Program) (ts : List TypeId) : Bool := ts.all fun t => P.readableRec t && Nat.blt t P.types.size
theorem trodAll_stays (hl : laidOutB P = true) {W W' : World} {sp : Nat → Bool} : ∀ {ts : List TypeId} {vs : List Value} {ds : List (DataW H)} {ps : List MemPlace}, allRead P ts = true →
    DataW.TrodAll enc P W 0 (fun _ => true) true ts vs ds ps → (∀ x ∈ ps, W.sameAt W' x) → (∀ x ∈ ps, sp x.block = true) → DataW.TrodAll enc P W' 0 sp true ts vs ds ps
  | [], vs, ds, ps, _, h, _, _ => by
    obtain ⟨rfl, rfl, rfl⟩ := trodAll_nil h
    rfl
  | t :: ts, vs, ds, ps, hr, h, hs, hp => by
    obtain ⟨v, vs', d, ds', p, q, rfl, rfl, rfl, h1, h2⟩ := trodAll_cons h
    simp only [allRead, List.all_cons, Bool.and_eq_true] at hr
    have ht : t < P.types.size := by have := hr.1.2; rw [Nat.blt_eq] at this; exact this
    exact ⟨p, q, WideElems.Trod_stays hl hr.1.1 ht h1 (fun x hx => hs x (by simp [hx])) (fun x hx => hp x (by simp [hx])),
      trodAll_stays hl hr.2 h2 (fun x hx => hs x (by simp [hx])) (fun x hx => hp x (by simp [hx])), rfl⟩
theorem law_post {f : Func} {s : ChangeSpec} {tb : TypeId} (hl : laidOutB P = true) (hts : allRead P f.params.toList = true) (hrt : f.resultTypes = #[tb]) (hb : P.underlying tb = some .bool) (hvars : s.vars = [])
    {W W' : World} {args : Array Value} {ds gs : List (DataW H)} {before : List MemPlace} (hW : DataW.Whole enc P f.params.toList s.vars false W args.toList ds gs before)
    (hfn : (s.fn H (ds ++ gs)).results = [.lit (.bool true)] ∧ (s.fn H (ds ++ gs)).args = ds ∧ (s.fn H (ds ++ gs)).vars = []) (hbel : Below W.heap.size W W') :
    s.post enc P f false true false false W args (.bool true) W' := by
  have hlt := hW.lt
  obtain ⟨p, q, hA, hV, hpq, hfz, hnd⟩ := hW
  rw [hvars] at hV
  obtain ⟨hgs, hq⟩ := trodVars_none hV
  have hsame : ∀ x ∈ p, W.sameAt W' x := fun x hx => hbel.same (hlt x (by rw [hpq]; simp [hx]))
  obtain ⟨h1, h2, h3⟩ := hfn
  have hrl : (Value.bool true).resultList f.resultTypes.size = [.bool true] := by rw [hrt]; rfl
  have hfree : ∀ x ∈ before, x.block < W.heap.size := fun x hx => hlt x hx
  refine ⟨ds, gs, before, [], p, [], ⟨p, q, hA, by rw [hvars]; exact hV, hpq, hfz, hnd⟩, ?_, ?_, ?_, World.keptBut_mono (fun _ h => h.elim) (Below.frame hbel (fun _ => False)), fun h => by cases h⟩
  · rw [h1, hrl, hrt]
    exact trodAll_cons_mk (shut_bool hb true) trodAll_mk0
  · rw [h2]
    exact trodAll_stays hl hts hA hsame (fun x hx => by simpa using hlt x (by rw [hpq]; simp [hx]))
  · rw [h3, hvars]; rfl
theorem u64_of {n : Int} (h : (Lit.int .u64 n).wf = true) : ∃ x : UInt64, Value.int .u64 n = u64 x := by
  have hx : 0 ≤ n ∧ n ≤ 18446744073709551615 := by simpa [Lit.wf, IntKind.min, IntKind.max, IntKind.signed, IntKind.bits] using h
  refine ⟨.ofNat n.toNat, ?_⟩
  unfold u64
  rw [UInt64.toNat_ofNat', Nat.mod_eq_of_lt (by omega)]
  congr 1
  omega
theorem open_i64 {r : Reach} {b0 : Nat} {W : World} {base : Nat} {sp : Nat → Bool} {held : Bool} {t : TypeId} {v : Value} {d : DataW H} {ps : List MemPlace} (ht : P.underlying t = some (.int .i64)) (hval : Value.okWide P W r b0 t v)
    (hd : DataW.Trod enc P W base sp held t v d ps) : ∃ x : Int, v = int x ∧ -9223372036854775808 ≤ x ∧ x ≤ 9223372036854775807 := by
  obtain ⟨n, rfl, _, _, hw⟩ := open_int ht hval hd
  have hx : -9223372036854775808 ≤ n ∧ n ≤ 9223372036854775807 := by simpa [Lit.wf, IntKind.min, IntKind.max, IntKind.signed, IntKind.bits] using hw
  exact ⟨n, rfl, hx.1, hx.2⟩
theorem list4 {α : Type} (l : List α) (h : l.length = 4) : ∃ a b c d, l = [a, b, c, d] := by
  match l, h with
  | [a, b, c, d], _ => exact ⟨a, b, c, d, rfl⟩
theorem nat4_of_row {W : World} {base : Nat} {sp : Nat → Bool} {held : Bool} {t e : TypeId} (ht : P.underlying t = some (.array 4 e)) (he : P.underlying e = some (.int .u64)) (hc : P.cellsOf e = 1)
    {cs : List Value} (hl : cs.length = 4) {fuel : Nat} {z : DataW H × List MemPlace} (hf : DataW.trod enc P W base sp held fuel t cs = some z) : ∃ x : N4, cs = [u64 x.a, u64 x.b, u64 x.c, u64 x.d] := by
  obtain ⟨c0, c1, c2, c3, rfl⟩ := list4 cs hl
  obtain ⟨y0, y1, y2, y3, m, hx, hy0, hy1, hy2, hy3⟩ := trod_array4 ht hc hf
  obtain ⟨x0, e0, _, w0⟩ := DataW.trod_int he hy0
  obtain ⟨x1, e1, _, w1⟩ := DataW.trod_int he hy1
  obtain ⟨x2, e2, _, w2⟩ := DataW.trod_int he hy2
  obtain ⟨x3, e3, _, w3⟩ := DataW.trod_int he hy3
  simp at e0 e1 e2 e3
  subst e0 e1 e2 e3
  obtain ⟨a, ha⟩ := u64_of w0
  obtain ⟨b, hb⟩ := u64_of w1
  obtain ⟨c, hc⟩ := u64_of w2
  obtain ⟨d, hd⟩ := u64_of w3
  rw [ha, hb, hc, hd]
  exact ⟨⟨a, b, c, d⟩, rfl⟩
end Go.Eng
end
section
namespace Go.Eng
def nat (n : Nat) : Value := .int .i64 (n : Int)
section nats
variable {P : Program} {t t' : TypeId} {x y : Operand} (a b : Nat)
theorem is_addn (h : a + b ≤ 9223372036854775807) : IsOp P (.binOp .add t x y t') [nat a, nat b] (nat (a + b)) := isOp_bin guard_int (by
  show some (Value.int .i64 (IntKind.i64.wrap ((a : Int) + b))) = _
  rw [wrap_i64 _ (by omega)]; rfl)
theorem is_subn (h : b ≤ a ∧ a - b ≤ 9223372036854775807) : IsOp P (.binOp .sub t x y t') [nat a, nat b] (nat (a - b)) := isOp_bin guard_int (by
  show some (Value.int .i64 (IntKind.i64.wrap ((a : Int) - b))) = _
  rw [wrap_i64 _ (by omega)]
  have : ((a : Int) - b) = ((a - b : Nat) : Int) := by omega
  rw [this]; rfl)
theorem is_muln (h : a * b ≤ 9223372036854775807) : IsOp P (.binOp .mul t x y t') [nat a, nat b] (nat (a * b)) := isOp_bin guard_int (by
  show some (Value.int .i64 (IntKind.i64.wrap ((a : Int) * b))) = _
  have : ((a : Int) * b) = ((a * b : Nat) : Int) := by push_cast; rfl
  rw [this, wrap_i64 _ (by omega)]; rfl)
theorem is_quon (h : 0 < b ∧ a ≤ 9223372036854775807) : IsOp P (.binOp .quo t x y t') [nat a, nat b] (nat (a / b)) := isOp_bin guard_int (by
  show pureRun P (Op.intDiv .quo .i64 (a : Int) (b : Int)) = _
  unfold Op.intDiv
  rw [if_neg (by omega)]
  show some (Value.int .i64 (IntKind.i64.wrap ((a : Int).tdiv b))) = _
  have : ((a : Int).tdiv b) = ((a / b : Nat) : Int) := by rw [Int.tdiv_eq_ediv_of_nonneg (by omega)]; push_cast; rfl
  have h2 : a / b ≤ a := Nat.div_le_self _ _
  rw [this]
  generalize a / b = q at h2 ⊢
  rw [wrap_i64 _ (by omega)]; rfl)
theorem is_remn (h : 0 < b) : IsOp P (.binOp .rem t x y t') [nat a, nat b] (nat (a % b)) := isOp_bin guard_int (by
  show pureRun P (Op.intDiv .rem .i64 (a : Int) (b : Int)) = _
  unfold Op.intDiv
  rw [if_neg (by omega)]
  show some (Value.int .i64 ((a : Int).tmod b)) = _
  have : ((a : Int).tmod b) = ((a % b : Nat) : Int) := by rw [Int.tmod_eq_emod_of_nonneg (by omega)]; push_cast; rfl
  rw [this]; rfl)
theorem is_lssn : IsOp P (.binOp .lss t x y t') [nat a, nat b] (.bool (decide (a < b))) := isOp_bin guard_int (by
  show some (Value.bool (decide ((a : Int) < b))) = _
  congr 2; simp)
theorem is_gtrn : IsOp P (.binOp .gtr t x y t') [nat a, nat b] (.bool (decide (b < a))) := isOp_bin guard_int (by
  show some (Value.bool (decide ((a : Int) > b))) = _
  congr 2; simp)
theorem is_geqn : IsOp P (.binOp .geq t x y t') [nat a, nat b] (.bool (decide (b ≤ a))) := isOp_bin guard_int (by
  show some (Value.bool (decide ((a : Int) ≥ b))) = _
  congr 2; simp)
theorem is_eqln : IsOp P (.binOp .eql t x y t') [nat a, nat b] (.bool (decide (a = b))) := isOp_bin guard_int (by
  show some (Value.bool ((a : Int) == b)) = _
  congr 2; rw [Bool.eq_iff_iff]; simp; omega)
theorem is_neqn : IsOp P (.binOp .neq t x y t') [nat a, nat b] (.bool (!decide (a = b))) := isOp_bin guard_int (by
  show some (Value.bool (!((a : Int) == b))) = _
  congr 3; rw [Bool.eq_iff_iff]; simp; omega)
end nats
section places
variable {P : Program} {t e : TypeId} {x y : Operand} {sz : Nat}
theorem isOp_index {vx vy v : Value} (h : pureRun P (Instr.indexAt t vx vy) = some v) : IsOp P (.indexAddr t x y) [vx, vy] v := by
  intro ρ o ho hv
  rw [ho] at hv
  simp only [Op.operands, List.map_cons, List.map_nil, List.cons.injEq, and_true] at hv
  obtain ⟨rfl, rfl⟩ := hv
  unfold execOp
  rw [ho]
  simp only
  show pureRun P (Sem.bind (Instr.indexAt t (ρ x) (ρ y)) fun v => Sem.pure (Next.value v)) = _
  rw [pureRun_bind, h]
  rfl
theorem add_none (n o k : Nat) : (⟨n, o, none⟩ : Addr).add k = ⟨n, o + k, none⟩ := by unfold Addr.add; split <;> simp_all
theorem is_ixArr {len : Nat} (ht : P.underlying t = some (.array len e)) (hs : sizeB P e = some sz) (n o i : Nat) (hi : i < len) : IsOp P (.indexAddr t x y) [ptr n o, nat i] (ptr n (o + i * sz)) := isOp_index (by
  have hi' : 0 ≤ (i : Int) ∧ (i : Int) < (len : Int) := by omega
  simp only [Instr.indexAt, ptr, nat, Instr.sureAddr, pureRun_bind', asIntOf, pureRun, pure, pureRun_underlying ht, hi', and_self, if_true, pureRun_sizeOf hs, add_none, Int.toNat_natCast])
theorem is_ixSl (ht : P.underlying t = some (.slice e)) (hs : sizeB P e = some sz) (n o len cap i : Nat) (hi : i < len) : IsOp P (.indexAddr t x y) [.slice (some ⟨n, o, none⟩) len cap, nat i] (ptr n (o + i * sz)) := isOp_index (by
  have hi' : 0 ≤ (i : Int) ∧ (i : Int) < (len : Int) := by omega
  simp only [Instr.indexAt, ptr, nat, Instr.sureAddr, pureRun_bind', asIntOf, pureRun, pure, pureRun_underlying ht, hi', and_self, if_true, pureRun_sizeOf hs, add_none, Int.toNat_natCast])
theorem is_ixStr (ht : P.underlying t = some .string) (s : ByteArray) (f : UInt8 → UInt8) (hf : ∀ i : UInt8, s[i.toNat]? = some (f i)) (i : UInt8) : IsOp P (.index t x y) [.string s, u8 i] (u8 (f i)) := by
  intro ρ o ho hv
  rw [ho] at hv
  simp only [Op.operands, List.map_cons, List.map_nil, List.cons.injEq, and_true] at hv
  obtain ⟨h1, h2⟩ := hv
  unfold execOp
  rw [ho]
  simp only
  show pureRun P (Sem.bind (Instr.index t (ρ x) (ρ y)) fun v => Sem.pure (Next.value v)) = _
  rw [pureRun_bind, h1, h2]
  have h0 : (0 : Int) ≤ (i.toNat : Int) := by omega
  have e : pureRun P (Instr.index t (.string s) (u8 i)) = some (u8 (f i)) := by
    simp only [Instr.index, u8, pureRun_bind', asIntOf, pureRun, pure, pureRun_underlying ht, h0, if_true, Int.toNat_natCast, hf i]
  rw [e]
  rfl
end places
section convs
variable {P : Program} {s d : TypeId} {x : Operand}
theorem conv_int {k k' : IntKind} (hs : P.underlying s = some (.int k)) (hd : P.underlying d = some (.int k')) (n : Int) : IsOp P (.convert s d x) [.int k n] (.int k' (k'.wrap n)) := isOp_conv (by
  unfold convert
  rw [pureRun_bind', pureRun_underlying hs]
  simp only
  rw [pureRun_bind', pureRun_underlying hd]
  rfl)
theorem wrap_u8 (n : Int) : IntKind.u8.wrap n = n % 256 := by simp [IntKind.wrap, IntKind.bits, IntKind.signed]
theorem conv_u8_u64 (hs : P.underlying s = some (.int .u8)) (hd : P.underlying d = some (.int .u64)) (a : UInt8) : IsOp P (.convert s d x) [u8 a] (u64 a.toUInt64) := by
  have h := conv_int (x := x) hs hd a.toNat
  rw [wrap_u64] at h
  have : ((a.toNat : Int) % 18446744073709551616) = (a.toUInt64.toNat : Int) := by have := a.toNat_lt; simp; omega
  rw [this] at h; exact h
theorem conv_u64_u8 (hs : P.underlying s = some (.int .u64)) (hd : P.underlying d = some (.int .u8)) (a : UInt64) : IsOp P (.convert s d x) [u64 a] (u8 a.toUInt8) := by
  have h := conv_int (x := x) hs hd a.toNat
  rw [wrap_u8] at h
  have : ((a.toNat : Int) % 256) = (a.toUInt8.toNat : Int) := by simp
  rw [this] at h; exact h
theorem conv_u64_int (hs : P.underlying s = some (.int .u64)) (hd : P.underlying d = some (.int .i64)) (a : UInt64) (h : a.toNat ≤ 9223372036854775807) : IsOp P (.convert s d x) [u64 a] (nat a.toNat) := by
  have h1 := conv_int (x := x) hs hd a.toNat
  rw [wrap_i64 _ (by omega)] at h1; exact h1
theorem conv_u8_int (hs : P.underlying s = some (.int .u8)) (hd : P.underlying d = some (.int .i64)) (a : UInt8) : IsOp P (.convert s d x) [u8 a] (nat a.toNat) := by
  have h1 := conv_int (x := x) hs hd a.toNat
  have := a.toNat_lt
  rw [wrap_i64 _ (by omega)] at h1; exact h1
theorem conv_int_u64 (hs : P.underlying s = some (.int .i64)) (hd : P.underlying d = some (.int .u64)) (n : Nat) : IsOp P (.convert s d x) [nat n] (u64 (.ofNat n)) := by
  have h := conv_int (x := x) hs hd n
  rw [wrap_u64] at h
  have : ((n : Int) % 18446744073709551616) = ((UInt64.ofNat n).toNat : Int) := by rw [UInt64.toNat_ofNat']; rfl
  rw [this] at h; exact h
theorem conv_int_u8 (hs : P.underlying s = some (.int .i64)) (hd : P.underlying d = some (.int .u8)) (n : Nat) : IsOp P (.convert s d x) [nat n] (u8 (.ofNat n)) := by
  have h := conv_int (x := x) hs hd n
  rw [wrap_u8] at h
  have : ((n : Int) % 256) = ((UInt8.ofNat n).toNat : Int) := by rw [UInt8.toNat_ofNat']; rfl
  rw [this] at h; exact h
end convs
def N4.get (x : N4) (i : Nat) : UInt64 := match i with
  | 0 => x.a
  | 1 => x.b
  | 2 => x.c
  | 3 => x.d
  | _ => 0
def N4.set (x : N4) (i : Nat) (v : UInt64) : N4 := match i with
  | 0 => { x with a := v }
  | 1 => { x with b := v }
  | 2 => { x with c := v }
  | 3 => { x with d := v }
  | _ => x
def N8.get (x : N8) (i : Nat) : UInt64 := match i with
  | 0 => x.lo.a
  | 1 => x.lo.b
  | 2 => x.lo.c
  | 3 => x.lo.d
  | 4 => x.hi.a
  | 5 => x.hi.b
  | 6 => x.hi.c
  | 7 => x.hi.d
  | _ => 0
def tab4 (x : N4) : Cont := .tab 4 1 fun k => [u64 (x.get k)]
def lit4 (x : N4) : Cont := .lit [u64 x.a, u64 x.b, u64 x.c, u64 x.d]
theorem get_tab4 (x : N4) (o : Nat) : (tab4 x).get o = (lit4 x).get o := by
  rcases o with _ | _ | _ | _ | o <;> simp [tab4, lit4, Cont.get, N4.get, Nat.mod_one]
theorem to_tab4 (x : N4) : ∀ o v, (tab4 x).get o = some v → (lit4 x).get o = some v := fun o v h => by rw [← get_tab4]; exact h
theorem to_lit4 (x : N4) : ∀ o v, (lit4 x).get o = some v → (tab4 x).get o = some v := fun o v h => by rw [get_tab4]; exact h
theorem store_tab4 (x : N4) (i : Nat) (v : UInt64) (hi : i < 4) : (tab4 x).store (.tab i 0) [u64 v] = some (tab4 (x.set i v)) := by
  show some (Cont.tab 4 1 fun k => if k = i then [u64 v] else [u64 (x.get k)]) = _
  congr 1
  unfold tab4
  congr 1
  funext k
  by_cases h : k = i
  · subst h
    rw [if_pos rfl]
    rcases k with _ | _ | _ | _ | k <;> first | rfl | omega
  · rw [if_neg h]
    rcases i with _ | _ | _ | _ | i <;> rcases k with _ | _ | _ | _ | k <;> first | rfl | omega
def upd {α : Type} (f : Nat → α) (i : Nat) (v : α) : Nat → α := fun k => if k = i then v else f k
def tabF (n : Nat) (g : Nat → Value) : Cont := .tab n 1 fun k => [g k]
def litF (n : Nat) (g : Nat → Value) : Cont := .lit ((List.range n).map g)
def vecV (n : Nat) (g : Nat → Value) : Value := .agg ((List.range n).map g).toArray
theorem get_tabF (n : Nat) (g : Nat → Value) (o : Nat) : (tabF n g).get o = (litF n g).get o := by
  by_cases h : o < n
  · simp [tabF, litF, Cont.get, Nat.mod_one, h]
  · simp [tabF, litF, Cont.get, h]
theorem to_tabF (n : Nat) (g : Nat → Value) : ∀ o v, (tabF n g).get o = some v → (litF n g).get o = some v := fun o v h => by rw [← get_tabF]; exact h
theorem to_litF (n : Nat) (g : Nat → Value) : ∀ o v, (litF n g).get o = some v → (tabF n g).get o = some v := fun o v h => by rw [get_tabF]; exact h
theorem store_tabF {α : Type} (n : Nat) (K : α → Value) (f : Nat → α) (i : Nat) (v : α) : (tabF n fun k => K (f k)).store (.tab i 0) [K v] = some (tabF n fun k => K (upd f i v k)) := by
  show some (Cont.tab n 1 fun k => if k = i then [K v] else [K (f k)]) = _
  congr 1
  unfold tabF
  congr 1
  funext k
  by_cases h : k = i
  · subst h; simp [upd]
  · simp [upd, h]
theorem bnot_t {b : Bool} (h : (!b) = true) : b = false := by cases b <;> first | rfl | cases h
theorem bnot_f {b : Bool} (h : (!b) = false) : b = true := by cases b <;> first | rfl | cases h
end Go.Eng
end
section
namespace Go.Eng
def N8.val (x : N8) : Nat := x.lo.val + 2 ^ 256 * x.hi.val
theorem N8.val_lt (x : N8) : x.val < 2 ^ 512 := by
  have h1 := x.lo.val_lt
  have h2 := x.hi.val_lt
  unfold N8.val
  omega
def N4.ofNat (n : Nat) : N4 := ⟨.ofNat n, .ofNat (n / 2 ^ 64), .ofNat (n / 2 ^ 128), .ofNat (n / 2 ^ 192)⟩
theorem N4.val_ofNat (n : Nat) : (N4.ofNat n).val = n % 2 ^ 256 := by
  simp only [N4.ofNat, N4.val, UInt64.toNat_ofNat']
  omega
theorem N4.ofNat_val (x : N4) : N4.ofNat x.val = x := N4.ext_val (by rw [N4.val_ofNat, Nat.mod_eq_of_lt x.val_lt])
theorem N4.eq_ofNat {x : N4} {n : Nat} (h : x.val = n) : x = N4.ofNat n := by rw [← h, N4.ofNat_val]
def bitLen (n : Nat) : Nat := match decide (n = 0) with
  | true => 0
  | false => n.log2 + 1
theorem bitLen_pos {n : Nat} (h : n ≠ 0) : bitLen n = n.log2 + 1 := by unfold bitLen; rw [decide_eq_false h]
theorem bitLen_lt (n : Nat) : n < 2 ^ bitLen n := by
  by_cases h : n = 0
  · subst h; exact Nat.one_pos
  · rw [bitLen_pos h]; exact Nat.lt_log2_self
theorem bitLen_le {n : Nat} (h : n ≠ 0) : 2 ^ (bitLen n - 1) ≤ n := by
  rw [bitLen_pos h]; exact Nat.log2_self_le h
theorem bitLen_le_of_lt {n k : Nat} (h : n < 2 ^ k) : bitLen n ≤ k := by
  by_cases h0 : n = 0
  · subst h0; exact Nat.zero_le _
  · rw [bitLen_pos h0]
    have := (Nat.log2_lt h0).2 h
    omega
theorem bitLen_unique {n k : Nat} (h1 : n < 2 ^ (k + 1)) (h2 : 2 ^ k ≤ n) : bitLen n = k + 1 := by
  have hn : n ≠ 0 := by have := Nat.two_pow_pos k; omega
  have a := bitLen_le_of_lt h1
  have b : ¬ bitLen n ≤ k := fun hb => by
    have c := bitLen_lt n
    have d := Nat.pow_le_pow_right (n := 2) (by omega) hb
    omega
  omega
theorem bitLen_shift {n k : Nat} (h : 2 ^ k ≤ n) : bitLen n = k + bitLen (n / 2 ^ k) := by
  have hp := Nat.two_pow_pos k
  have hq : n / 2 ^ k ≠ 0 := by
    have := Nat.div_pos h hp
    omega
  have h1 := bitLen_lt (n / 2 ^ k)
  have h2 := bitLen_le hq
  have h0 : bitLen (n / 2 ^ k) ≠ 0 := by rw [bitLen_pos hq]; omega
  obtain ⟨j, hj⟩ : ∃ j, bitLen (n / 2 ^ k) = j + 1 := ⟨bitLen (n / 2 ^ k) - 1, by omega⟩
  rw [hj] at h1 h2 ⊢
  rw [show k + (j + 1) = (k + j) + 1 by omega]
  refine bitLen_unique ?_ ?_
  · rw [show k + j + 1 = k + (j + 1) by omega, Nat.pow_add, Nat.mul_comm]
    exact (Nat.div_lt_iff_lt_mul hp).1 h1
  · rw [Nat.pow_add, Nat.mul_comm]
    exact (Nat.le_div_iff_mul_le hp).1 h2
def len1 (x : UInt64) : Nat := bitLen x.toNat
theorem len1_le (x : UInt64) : len1 x ≤ 64 := bitLen_le_of_lt x.toNat_lt
def len8 (x : UInt8) : UInt8 := .ofNat (bitLen x.toNat)
theorem len8_toNat (x : UInt8) : (len8 x).toNat = bitLen x.toNat := by
  have : bitLen x.toNat ≤ 8 := bitLen_le_of_lt x.toNat_lt
  unfold len8
  rw [UInt8.toNat_ofNat']
  omega
theorem len8_le (x : UInt8) : (len8 x).toNat ≤ 8 := by rw [len8_toNat]; exact bitLen_le_of_lt x.toNat_lt
def tabLen8 : ByteArray := ⟨#[0, 1, 2, 2, 3, 3, 3, 3, 4, 4, 4, 4, 4, 4, 4, 4, 5, 5, 5, 5, 5, 5, 5, 5, 5, 5, 5, 5, 5, 5, 5, 5, 6, 6, 6, 6, 6, 6, 6, 6, 6, 6, 6, 6, 6, 6, 6, 6, 6, 6, 6, 6, 6, 6, 6, 6, 6, 6, 6, 6, 6, 6, 6, 6, 7, 7, 7, 7, 7, 7, 7, 7, 7, 7, 7, 7, 7, 7, 7, 7, 7, 7, 7, 7, 7, 7, 7, 7, 7, 7, 7, 7, 7, 7, 7, 7, 7, 7, 7, 7, 7, 7, 7, 7, 7, 7, 7, 7, 7, 7, 7, 7, 7, 7, 7, 7, 7, 7, 7, 7, 7, 7, 7, 7, 7, 7, 7, 7, 8, 8, 8, 8, 8, 8, 8, 8, 8, 8, 8, 8, 8, 8, 8, 8, 8, 8, 8, 8, 8, 8, 8, 8, 8, 8, 8, 8, 8, 8, 8, 8, 8, 8, 8, 8, 8, 8, 8, 8, 8, 8, 8, 8, 8, 8, 8, 8, 8, 8, 8, 8, 8, 8, 8, 8, 8, 8, 8, 8, 8, 8, 8, 8, 8, 8, 8, 8, 8, 8, 8, 8, 8, 8, 8, 8, 8, 8, 8, 8, 8, 8, 8, 8, 8, 8, 8, 8, 8, 8, 8, 8, 8, 8, 8, 8, 8, 8, 8, 8, 8, 8, 8, 8, 8, 8, 8, 8, 8, 8, 8, 8, 8, 8, 8, 8, 8, 8, 8, 8, 8, 8, 8, 8, 8, 8, 8, 8]⟩
theorem tabLen8_get (i : UInt8) : tabLen8[i.toNat]? = some (len8 i) := by
  have h : ∀ k : Fin 256, tabLen8[k.val]? = some (len8 (.ofNat k.val)) := by decide +kernel
  have := h ⟨i.toNat, i.toNat_lt⟩
  simpa using this
theorem shr_len {x : UInt64} {k : Nat} (h : 2 ^ k ≤ x.toNat) : len1 x = k + len1 (shr64 x k) := by
  unfold len1
  rw [shr64_toNat]
  exact bitLen_shift h
theorem len1_small {x : UInt64} (h : x.toNat < 256) : (len8 x.toUInt8).toNat = len1 x := by
  rw [len8_toNat, len1, UInt64.toNat_toUInt8, Nat.mod_eq_of_lt h]
theorem le_of_dec {c x : UInt64} (h : decide (c ≤ x) = true) : c.toNat ≤ x.toNat := UInt64.le_iff_toNat_le.1 (of_decide_eq_true h)
theorem lt_of_dec {c x : UInt64} (h : decide (c ≤ x) = false) : x.toNat < c.toNat := by
  have := of_decide_eq_false h
  rw [UInt64.le_iff_toNat_le] at this; omega
theorem shr_bd {x : UInt64} (k n : Nat) (h : x.toNat < 2 ^ (n + k)) : (shr64 x k).toNat < 2 ^ n := by
  rw [shr64_toNat, Nat.div_lt_iff_lt_mul (Nat.two_pow_pos k), ← Nat.pow_add]; exact h
def len4 (a : N4) : Nat := match !(a.d == 0) with
  | true => 192 + len1 a.d
  | false => match !(a.c == 0) with
    | true => 128 + len1 a.c
    | false => match !(a.b == 0) with
      | true => 64 + len1 a.b
      | false => match !(a.a == 0) with
        | true => 0 + len1 a.a
        | false => 0
theorem beq_zero64 {x : UInt64} (h : (!(x == 0)) = false) : x.toNat = 0 := by
  have : (x == 0) = true := bnot_f h
  rw [beq_iff_eq] at this; subst this; rfl
theorem bne_zero64 {x : UInt64} (h : (!(x == 0)) = true) : 0 < x.toNat := by
  have : (x == 0) = false := bnot_t h
  have h2 : x ≠ 0 := by simpa using this
  rcases Nat.eq_zero_or_pos x.toNat with h0 | h0
  · exact absurd (UInt64.toNat_inj.1 (by rw [h0]; rfl)) h2
  · exact h0
theorem bitLen_two {lo hi k : Nat} (hlo : lo < 2 ^ k) (hhi : 0 < hi) : bitLen (lo + 2 ^ k * hi) = k + bitLen hi := by
  have hp := Nat.two_pow_pos k
  have h : 2 ^ k ≤ lo + 2 ^ k * hi := Nat.le_trans (Nat.le_mul_of_pos_right _ hhi) (Nat.le_add_left _ _)
  rw [bitLen_shift h, Nat.add_mul_div_left _ _ hp, Nat.div_eq_of_lt hlo, Nat.zero_add]
theorem len4_val (a : N4) : len4 a = bitLen a.val := by
  have h1 := a.a.toNat_lt
  have h2 := a.b.toNat_lt
  have h3 := a.c.toNat_lt
  unfold len4 N4.val
  cases hd : (!(a.d == 0)) with
  | true =>
    have := bitLen_two (lo := a.a.toNat + 2 ^ 64 * a.b.toNat + 2 ^ 128 * a.c.toNat) (hi := a.d.toNat) (k := 192) (by omega) (bne_zero64 hd)
    simp only; rw [this]; rfl
  | false =>
    have d0 := beq_zero64 hd
    simp only
    cases hc : (!(a.c == 0)) with
    | true =>
      have := bitLen_two (lo := a.a.toNat + 2 ^ 64 * a.b.toNat) (hi := a.c.toNat) (k := 128) (by omega) (bne_zero64 hc)
      simp only; rw [d0, Nat.mul_zero, Nat.add_zero, this]; rfl
    | false =>
      have c0 := beq_zero64 hc
      simp only
      cases hb : (!(a.b == 0)) with
      | true =>
        have := bitLen_two (lo := a.a.toNat) (hi := a.b.toNat) (k := 64) (by omega) (bne_zero64 hb)
        simp only; rw [d0, c0, Nat.mul_zero, Nat.add_zero, this]; rfl
      | false =>
        have b0 := beq_zero64 hb
        simp only
        cases ha : (!(a.a == 0)) with
        | true => simp only; rw [d0, c0, b0]; simp [len1]
        | false => simp only; rw [d0, c0, b0, beq_zero64 ha]; rfl
theorem len4_le (a : N4) : len4 a ≤ 256 := by rw [len4_val]; exact bitLen_le_of_lt a.val_lt
theorem N4.set_val (q : N4) (j : Nat) (v : UInt64) (hj : j < 4) : (q.set j v).val + 2 ^ (64 * j) * (q.get j).toNat = q.val + 2 ^ (64 * j) * v.toNat := by
  unfold N4.val
  rcases j with _ | _ | _ | _ | j <;> first | (simp only [N4.set, N4.get]; omega) | omega
end Go.Eng
end
section
namespace Go.Eng
theorem or_parts {h l k : Nat} (hl : l < 2 ^ k) : l ||| (2 ^ k * h) = l + 2 ^ k * h := by
  rw [Nat.or_comm, ← Nat.two_pow_add_eq_or_of_lt hl h, Nat.add_comm]
end Go.Eng
end
section
namespace Go.Eng
end Go.Eng
end
section
namespace Go.Eng
def dig (n k : Nat) : Nat := n / 256 ^ k % 256
theorem dig_lt (n k : Nat) : dig n k < 256 := Nat.mod_lt _ (by omega)
theorem vecV_ext {n : Nat} {f g : Nat → Value} (h : ∀ k, k < n → f k = g k) : vecV n f = vecV n g := by
  unfold vecV
  congr 2
  exact List.map_congr_left fun k hk => h k (List.mem_range.1 hk)
def numOf (f : Nat → Nat) : Nat → Nat
  | 0 => 0
  | k + 1 => numOf f k + f k * 256 ^ k
theorem numOf_lt {f : Nat → Nat} : ∀ {k : Nat}, (∀ i, i < k → f i < 256) → numOf f k < 256 ^ k
  | 0, _ => Nat.one_pos
  | k + 1, h => by
    have ih := numOf_lt (f := f) (k := k) fun i hi => h i (by omega)
    have hk := h k (by omega)
    have : f k * 256 ^ k ≤ 255 * 256 ^ k := Nat.mul_le_mul_right _ (by omega)
    simp only [numOf]
    rw [Nat.pow_succ]
    omega
theorem numOf_congr {f g : Nat → Nat} : ∀ {k : Nat}, (∀ i, i < k → f i = g i) → numOf f k = numOf g k
  | 0, _ => rfl
  | k + 1, h => by
    simp only [numOf]
    rw [numOf_congr (k := k) fun i hi => h i (by omega), h k (by omega)]
theorem numOf_dig (n : Nat) : ∀ k, numOf (dig n) k = n % 256 ^ k
  | 0 => by simp [numOf, Nat.mod_one]
  | k + 1 => by
    simp only [numOf]
    rw [numOf_dig n k, dig, Nat.pow_succ, Nat.mod_mul, Nat.mul_comm]
theorem and255 (x : UInt64) : (x &&& 255).toNat = x.toNat % 256 := by
  rw [UInt64.toNat_and]; exact Nat.and_two_pow_sub_one_eq_mod _ 8
theorem and255_le (x : UInt64) : (x &&& 255).toNat ≤ 9223372036854775807 := by rw [and255]; omega
theorem pow256 (i : Nat) : 256 ^ i = 2 ^ (8 * i) := by rw [Nat.pow_mul]
theorem byte_low {w q r : Nat} (hr : r < 8) : (w + 2 ^ 64 * q) / 2 ^ (8 * r) % 256 = w / 2 ^ (8 * r) % 256 := by
  have e : 2 ^ 64 * q = 2 ^ (8 * r) * (256 * (2 ^ (8 * (7 - r)) * q)) := by
    rw [← Nat.mul_assoc 256, ← Nat.mul_assoc, show 256 = 2 ^ 8 from rfl, ← Nat.pow_add, ← Nat.pow_add]
    congr 2; omega
  rw [e, Nat.add_mul_div_left _ _ (Nat.two_pow_pos _)]
  omega
theorem word_of (a : N4) (j : Nat) (hj : j < 4) : ∃ q, a.val / 2 ^ (64 * j) = (a.get j).toNat + 2 ^ 64 * q := by
  have h1 := a.a.toNat_lt
  have h2 := a.b.toNat_lt
  have h3 := a.c.toNat_lt
  have h4 := a.d.toNat_lt
  unfold N4.val
  rcases j with _ | _ | _ | _ | j
  · exact ⟨a.b.toNat + 2 ^ 64 * a.c.toNat + 2 ^ 128 * a.d.toNat, by show _ = a.a.toNat + _; omega⟩
  · exact ⟨a.c.toNat + 2 ^ 64 * a.d.toNat, by show _ = a.b.toNat + _; omega⟩
  · exact ⟨a.d.toNat, by show _ = a.c.toNat + _; omega⟩
  · exact ⟨0, by show _ = a.d.toNat + _; omega⟩
  · omega
theorem byte_val (a : N4) (i : Nat) (hi : i < 32) : (shr64 (a.get (i / 8)) (8 * (i % 8)) &&& 255).toNat = dig a.val i := by
  rw [and255, shr64_toNat, dig, pow256]
  have hr : i % 8 < 8 := Nat.mod_lt _ (by omega)
  have ei : 8 * i = 64 * (i / 8) + 8 * (i % 8) := by omega
  obtain ⟨q, hq⟩ := word_of a (i / 8) (by omega)
  rw [ei, Nat.pow_add, ← Nat.div_div_eq_div_mul, hq, byte_low hr]
def digV (n : Nat) : Value := vecV 64 fun k => nat (dig n k)
theorem digs_zero (n : Nat) : ∀ k, (fun _ => 0 : Nat → Nat) k = if k < 0 then dig n k else 0 := fun k => by simp
theorem digs_step {f : Nat → Nat} {n i v : Nat} (h : ∀ k, f k = if k < i then dig n k else 0) (hv : v = dig n i) : ∀ k, upd f i v k = if k < i + 1 then dig n k else 0 := fun k => by
  unfold upd
  by_cases hk : k = i
  · subst hk; simp [hv]
  · rw [if_neg hk, h k]
    by_cases h1 : k < i
    · rw [if_pos h1, if_pos (by omega)]
    · rw [if_neg h1, if_neg (by omega)]
theorem dig_zero {n k : Nat} (h : n < 256 ^ k) : dig n k = 0 := by unfold dig; rw [Nat.div_eq_of_lt h]
theorem digs_end {f : Nat → Nat} {n m : Nat} (h : ∀ k, f k = if k < m then dig n k else 0) (hn : n < 256 ^ m) : vecV 64 (fun k => nat (f k)) = digV n := vecV_ext fun k _ => by
  rw [h k]
  by_cases hk : k < m
  · rw [if_pos hk]
  · rw [if_neg hk, dig_zero (Nat.lt_of_lt_of_le hn (Nat.pow_le_pow_right (by omega) (by omega)))]
def N8.set (x : N8) (i : Nat) (v : UInt64) : N8 := match decide (i < 4) with
  | true => { x with lo := x.lo.set i v }
  | false => { x with hi := x.hi.set (i - 4) v }
theorem N8.get_lo (x : N8) {i : Nat} (h : i < 4) : x.get i = x.lo.get i := by rcases i with _ | _ | _ | _ | i <;> first | rfl | omega
theorem N8.get_hi (x : N8) {i : Nat} (h : i < 4) : x.get (i + 4) = x.hi.get i := by rcases i with _ | _ | _ | _ | i <;> first | rfl | omega
theorem N8.set_val (q : N8) (j : Nat) (v : UInt64) (hj : j < 8) : (q.set j v).val + 2 ^ (64 * j) * (q.get j).toNat = q.val + 2 ^ (64 * j) * v.toNat := by
  unfold N8.set N8.val
  by_cases h : j < 4
  · rw [decide_eq_true h, q.get_lo h]
    have := q.lo.set_val j v h
    simp only
    omega
  · obtain ⟨k, rfl⟩ : ∃ k, j = k + 4 := ⟨j - 4, by omega⟩
    rw [decide_eq_false h, q.get_hi (show k < 4 by omega), Nat.add_sub_cancel]
    have := q.hi.set_val k v (by omega)
    simp only
    rw [show 64 * (k + 4) = 256 + 64 * k by omega, Nat.pow_add, Nat.mul_assoc, Nat.mul_assoc]
    omega
def N8.ofNat (n : Nat) : N8 := ⟨N4.ofNat n, N4.ofNat (n / 2 ^ 256)⟩
theorem N8.val_ofNat (n : Nat) : (N8.ofNat n).val = n % 2 ^ 512 := by
  simp only [N8.ofNat, N8.val, N4.val_ofNat]
  omega
theorem N4.eq_of_val {x y : N4} (h : x.val = y.val) : x = y := N4.ext_val h
theorem N8.eq_of_val {x y : N8} (h : x.val = y.val) : x = y := N8.ext_val h
theorem N8.eq_ofNat {x : N8} {n : Nat} (h : x.val = n) : x = N8.ofNat n := N8.eq_of_val (by rw [N8.val_ofNat, Nat.mod_eq_of_lt (by rw [← h]; exact x.val_lt), h])
end Go.Eng
end
section
namespace Go.Eng
end Go.Eng
namespace Go.Eng
end Go.Eng
end
section
namespace Go.Eng
section wides
open Go.ChangeShapes Go.WideShapes Go.ChangeAt Go.RowKit
variable {H : Type} {enc : TypeId × Value → H} {P : Program}
end wides
end Go.Eng
end
section
namespace Go.Eng
theorem is_rem64 {P : Program} {t t' : TypeId} {x y : Operand} (a b : UInt64) (hb : b.toNat ≠ 0) : IsOp P (.binOp .rem t x y t') [u64 a, u64 b] (u64 (a % b)) := isOp_bin guard_int (by
  show pureRun P (Op.intDiv .rem .u64 (a.toNat : Int) (b.toNat : Int)) = _
  unfold Op.intDiv
  rw [if_neg (by omega)]
  show some (Value.int .u64 ((a.toNat : Int).tmod b.toNat)) = _
  have : ((a.toNat : Int).tmod b.toNat) = (((a % b).toNat : Nat) : Int) := by rw [Int.tmod_eq_emod_of_nonneg (by omega), UInt64.toNat_mod]; push_cast; rfl
  rw [this]; rfl)
end Go.Eng
end
section
namespace Go.Eng
theorem Post.trans {m m' m'' : Nat → Option Blk} {w w' w'' : World} (h : Post m w m' w') (k : Post m' w' m'' w'') : Post m w m'' w'' := ⟨k.holds, k.apart, h.adv.trans k.adv⟩
theorem Post.drew {m : Nat → Option Blk} {w : World} (h : ∀ p b, m p = some b → Holds b w) (ha : Apart m) : Post m w m w.drew :=
  ⟨fun p b hp => (h p b hp).drew, ha, ⟨rfl, rfl, rfl, Nat.le_refl _, fun _ _ _ => rfl, fun _ h => .inl h, fun _ _ h _ => h⟩⟩
theorem listMem_set0 (x x' : Blk) (y : Option Blk) : memApply (listMem [some x, y]) [(0, some x')] = listMem [some x', y] := by
  funext p
  rcases p with _ | p <;> rfl
end Go.Eng
end
