/-
  Many in one: EngN, EngO, LimbDiv, LimbShift, LimbLaws, LimbDigits, EngP, EngQ, LimbRef, LimbRef2.
-/
import Derived.Test.YtpjllbgipcfedaaZVotesOne3
import Derived.Laws.IdiomArrays
import Derived.OpenShut
import Derived.ProofKit
import Derived.WalkKit
section
namespace Go.Eng
open Go.ChangeShapes Go.WideShapes Go.ChangeAt Go.RowKit
theorem below_of_adv {m m' : Nat → Option Blk} {w w' : World} (h : Adv m w m' w') (hm : ∀ p b, m p = some b → b.own = false) : Below w.heap.size w w' :=
  ⟨h.os, h.tape, h.output, h.size, fun k hk => h.heap k hk fun ⟨p, b, h1, h2, _⟩ => by rw [hm p b h1] at h2; cases h2⟩
variable {H : Type} {enc : TypeId × Value → H} {P : Program}
def allRead (P : Program) (ts : List TypeId) : Bool := ts.all fun t => P.readableRec t && Nat.blt t P.types.size
theorem trodAll_stays (hl : laidOutB P = true) {W W' : World} {sp : Nat → Bool} : ∀ {ts : List TypeId} {vs : List Value} {ds : List (DataW H)} {ps : List MemPlace}, allRead P ts = true →
    DataW.TrodAll enc P W 0 (fun _ => true) true ts vs ds ps → (∀ x ∈ ps, W.sameAt W' x) → (∀ x ∈ ps, sp x.block = true) → DataW.TrodAll enc P W' 0 sp true ts vs ds ps
  | [], vs, ds, ps, _, h, _, _ => by
    obtain ⟨rfl, rfl, rfl⟩ := trodAll_nil h
    rfl
  | t :: ts, vs, ds, ps, hr, h, hs, hp => by
    obtain ⟨v, vs', d, ds', p, q, rfl, rfl, rfl, h1, h2⟩ := trodAll_cons h
    simp only [allRead, List.all_cons, Bool.and_eq_true] at hr
    have ht : t < P.types.size := by have := hr.1.2; rw [Nat.blt_eq] at this; exact this
    exact ⟨p, q, WideElems.Trod_stays hl hr.1.1 ht h1 (fun x hx => hs x (by simp [hx])) (fun x hx => hp x (by simp [hx])),
      trodAll_stays hl hr.2 h2 (fun x hx => hs x (by simp [hx])) (fun x hx => hp x (by simp [hx])), rfl⟩
theorem law_post {f : Func} {s : ChangeSpec} {tb : TypeId} (hl : laidOutB P = true) (hts : allRead P f.params.toList = true) (hrt : f.resultTypes = #[tb]) (hb : P.underlying tb = some .bool) (hvars : s.vars = [])
    {W W' : World} {args : Array Value} {ds gs : List (DataW H)} {before : List MemPlace} (hW : DataW.Whole enc P f.params.toList s.vars false W args.toList ds gs before)
    (hfn : (s.fn H (ds ++ gs)).results = [.lit (.bool true)] ∧ (s.fn H (ds ++ gs)).args = ds ∧ (s.fn H (ds ++ gs)).vars = []) (hbel : Below W.heap.size W W') :
    s.post enc P f false true false false W args (.bool true) W' := by
  have hlt := hW.lt
  obtain ⟨p, q, hA, hV, hpq, hfz, hnd⟩ := hW
  rw [hvars] at hV
  obtain ⟨hgs, hq⟩ := trodVars_none hV
  have hsame : ∀ x ∈ p, W.sameAt W' x := fun x hx => hbel.same (hlt x (by rw [hpq]; simp [hx]))
  obtain ⟨h1, h2, h3⟩ := hfn
  have hrl : (Value.bool true).resultList f.resultTypes.size = [.bool true] := by rw [hrt]; rfl
  have hfree : ∀ x ∈ before, x.block < W.heap.size := fun x hx => hlt x hx
  refine ⟨ds, gs, before, [], p, [], ⟨p, q, hA, by rw [hvars]; exact hV, hpq, hfz, hnd⟩, ?_, ?_, ?_, World.keptBut_mono (fun _ h => h.elim) (Below.frame hbel (fun _ => False)), fun h => by cases h⟩
  · rw [h1, hrl, hrt]
    exact trodAll_cons_mk (shut_bool hb true) trodAll_mk0
  · rw [h2]
    exact trodAll_stays hl hts hA hsame (fun x hx => by simpa using hlt x (by rw [hpq]; simp [hx]))
  · rw [h3, hvars]; rfl
theorem u64_of {n : Int} (h : (Lit.int .u64 n).wf = true) : ∃ x : UInt64, Value.int .u64 n = u64 x := by
  have hx : 0 ≤ n ∧ n ≤ 18446744073709551615 := by simpa [Lit.wf, IntKind.min, IntKind.max, IntKind.signed, IntKind.bits] using h
  refine ⟨.ofNat n.toNat, ?_⟩
  unfold u64
  rw [UInt64.toNat_ofNat', Nat.mod_eq_of_lt (by omega)]
  congr 1
  omega
end Go.Eng
end
section
namespace Go.Eng
def nat (n : Nat) : Value := .int .i64 (n : Int)
section nats
variable {P : Program} {t t' : TypeId} {x y : Operand} (a b : Nat)
theorem is_addn (h : a + b ≤ 9223372036854775807) : IsOp P (.binOp .add t x y t') [nat a, nat b] (nat (a + b)) := isOp_bin guard_int (by
  show some (Value.int .i64 (IntKind.i64.wrap ((a : Int) + b))) = _
  rw [wrap_i64 _ (by omega)]; rfl)
theorem is_subn (h : b ≤ a ∧ a - b ≤ 9223372036854775807) : IsOp P (.binOp .sub t x y t') [nat a, nat b] (nat (a - b)) := isOp_bin guard_int (by
  show some (Value.int .i64 (IntKind.i64.wrap ((a : Int) - b))) = _
  rw [wrap_i64 _ (by omega)]
  have : ((a : Int) - b) = ((a - b : Nat) : Int) := by omega
  rw [this]; rfl)
theorem is_lssn : IsOp P (.binOp .lss t x y t') [nat a, nat b] (.bool (decide (a < b))) := isOp_bin guard_int (by
  show some (Value.bool (decide ((a : Int) < b))) = _
  congr 2; simp)
theorem is_leqn : IsOp P (.binOp .leq t x y t') [nat a, nat b] (.bool (decide (a ≤ b))) := isOp_bin guard_int (by
  show some (Value.bool (decide ((a : Int) ≤ b))) = _
  congr 2; simp)
theorem is_gtrn : IsOp P (.binOp .gtr t x y t') [nat a, nat b] (.bool (decide (b < a))) := isOp_bin guard_int (by
  show some (Value.bool (decide ((a : Int) > b))) = _
  congr 2; simp)
end nats
section places
variable {P : Program} {t e : TypeId} {x y : Operand} {sz : Nat}
theorem isOp_index {vx vy v : Value} (h : pureRun P (Instr.indexAt t vx vy) = some v) : IsOp P (.indexAddr t x y) [vx, vy] v := by
  intro ρ o ho hv
  rw [ho] at hv
  simp only [Op.operands, List.map_cons, List.map_nil, List.cons.injEq, and_true] at hv
  obtain ⟨rfl, rfl⟩ := hv
  unfold execOp
  rw [ho]
  simp only
  show pureRun P (Sem.bind (Instr.indexAt t (ρ x) (ρ y)) fun v => Sem.pure (Next.value v)) = _
  rw [pureRun_bind, h]
  rfl
theorem add_none (n o k : Nat) : (⟨n, o, none⟩ : Addr).add k = ⟨n, o + k, none⟩ := by unfold Addr.add; split <;> simp_all
theorem is_ixSl (ht : P.underlying t = some (.slice e)) (hs : sizeB P e = some sz) (n o len cap i : Nat) (hi : i < len) : IsOp P (.indexAddr t x y) [.slice (some ⟨n, o, none⟩) len cap, nat i] (ptr n (o + i * sz)) := isOp_index (by
  have hi' : 0 ≤ (i : Int) ∧ (i : Int) < (len : Int) := by omega
  simp only [Instr.indexAt, ptr, nat, Instr.sureAddr, pureRun_bind', asIntOf, pureRun, pure, pureRun_underlying ht, hi', and_self, if_true, pureRun_sizeOf hs, add_none, Int.toNat_natCast])
theorem is_ixStr (ht : P.underlying t = some .string) (s : ByteArray) (f : UInt8 → UInt8) (hf : ∀ i : UInt8, s[i.toNat]? = some (f i)) (i : UInt8) : IsOp P (.index t x y) [.string s, u8 i] (u8 (f i)) := by
  intro ρ o ho hv
  rw [ho] at hv
  simp only [Op.operands, List.map_cons, List.map_nil, List.cons.injEq, and_true] at hv
  obtain ⟨h1, h2⟩ := hv
  unfold execOp
  rw [ho]
  simp only
  show pureRun P (Sem.bind (Instr.index t (ρ x) (ρ y)) fun v => Sem.pure (Next.value v)) = _
  rw [pureRun_bind, h1, h2]
  have h0 : (0 : Int) ≤ (i.toNat : Int) := by omega
  have e : pureRun P (Instr.index t (.string s) (u8 i)) = some (u8 (f i)) := by
    simp only [Instr.index, u8, pureRun_bind', asIntOf, pureRun, pure, pureRun_underlying ht, h0, if_true, Int.toNat_natCast, hf i]
  rw [e]
  rfl
end places
section convs
variable {P : Program} {s d : TypeId} {x : Operand}
theorem conv_int {k k' : IntKind} (hs : P.underlying s = some (.int k)) (hd : P.underlying d = some (.int k')) (n : Int) : IsOp P (.convert s d x) [.int k n] (.int k' (k'.wrap n)) := isOp_conv (by
  unfold convert
  rw [pureRun_bind', pureRun_underlying hs]
  simp only
  rw [pureRun_bind', pureRun_underlying hd]
  rfl)
theorem wrap_u8 (n : Int) : IntKind.u8.wrap n = n % 256 := by simp [IntKind.wrap, IntKind.bits, IntKind.signed]
theorem conv_u64_u8 (hs : P.underlying s = some (.int .u64)) (hd : P.underlying d = some (.int .u8)) (a : UInt64) : IsOp P (.convert s d x) [u64 a] (u8 a.toUInt8) := by
  have h := conv_int (x := x) hs hd a.toNat
  rw [wrap_u8] at h
  have : ((a.toNat : Int) % 256) = (a.toUInt8.toNat : Int) := by simp
  rw [this] at h; exact h
theorem conv_u8_int (hs : P.underlying s = some (.int .u8)) (hd : P.underlying d = some (.int .i64)) (a : UInt8) : IsOp P (.convert s d x) [u8 a] (nat a.toNat) := by
  have h1 := conv_int (x := x) hs hd a.toNat
  have := a.toNat_lt
  rw [wrap_i64 _ (by omega)] at h1; exact h1
theorem conv_int_u64 (hs : P.underlying s = some (.int .i64)) (hd : P.underlying d = some (.int .u64)) (n : Nat) : IsOp P (.convert s d x) [nat n] (u64 (.ofNat n)) := by
  have h := conv_int (x := x) hs hd n
  rw [wrap_u64] at h
  have : ((n : Int) % 18446744073709551616) = ((UInt64.ofNat n).toNat : Int) := by rw [UInt64.toNat_ofNat']; rfl
  rw [this] at h; exact h
end convs
def N4.get (x : N4) (i : Nat) : UInt64 := match i with
  | 0 => x.a
  | 1 => x.b
  | 2 => x.c
  | 3 => x.d
  | _ => 0
def N4.set (x : N4) (i : Nat) (v : UInt64) : N4 := match i with
  | 0 => { x with a := v }
  | 1 => { x with b := v }
  | 2 => { x with c := v }
  | 3 => { x with d := v }
  | _ => x
def N8.get (x : N8) (i : Nat) : UInt64 := match i with
  | 0 => x.lo.a
  | 1 => x.lo.b
  | 2 => x.lo.c
  | 3 => x.lo.d
  | 4 => x.hi.a
  | 5 => x.hi.b
  | 6 => x.hi.c
  | 7 => x.hi.d
  | _ => 0
def upd {α : Type} (f : Nat → α) (i : Nat) (v : α) : Nat → α := fun k => if k = i then v else f k
def tabF (n : Nat) (g : Nat → Value) : Cont := .tab n 1 fun k => [g k]
def litF (n : Nat) (g : Nat → Value) : Cont := .lit ((List.range n).map g)
def vecV (n : Nat) (g : Nat → Value) : Value := .agg ((List.range n).map g).toArray
theorem bnot_t {b : Bool} (h : (!b) = true) : b = false := by cases b <;> first | rfl | cases h
theorem bnot_f {b : Bool} (h : (!b) = false) : b = true := by cases b <;> first | rfl | cases h
end Go.Eng
end
section
namespace Go.Eng
def N8.val (x : N8) : Nat := x.lo.val + 2 ^ 256 * x.hi.val
theorem N8.val_lt (x : N8) : x.val < 2 ^ 512 := by
  have h1 := x.lo.val_lt
  have h2 := x.hi.val_lt
  unfold N8.val
  omega
def N4.ofNat (n : Nat) : N4 := ⟨.ofNat n, .ofNat (n / 2 ^ 64), .ofNat (n / 2 ^ 128), .ofNat (n / 2 ^ 192)⟩
def bitLen (n : Nat) : Nat := match decide (n = 0) with
  | true => 0
  | false => n.log2 + 1
theorem bitLen_pos {n : Nat} (h : n ≠ 0) : bitLen n = n.log2 + 1 := by unfold bitLen; rw [decide_eq_false h]
theorem bitLen_lt (n : Nat) : n < 2 ^ bitLen n := by
  by_cases h : n = 0
  · subst h; exact Nat.one_pos
  · rw [bitLen_pos h]; exact Nat.lt_log2_self
theorem bitLen_le {n : Nat} (h : n ≠ 0) : 2 ^ (bitLen n - 1) ≤ n := by
  rw [bitLen_pos h]; exact Nat.log2_self_le h
theorem bitLen_le_of_lt {n k : Nat} (h : n < 2 ^ k) : bitLen n ≤ k := by
  by_cases h0 : n = 0
  · subst h0; exact Nat.zero_le _
  · rw [bitLen_pos h0]
    have := (Nat.log2_lt h0).2 h
    omega
theorem bitLen_unique {n k : Nat} (h1 : n < 2 ^ (k + 1)) (h2 : 2 ^ k ≤ n) : bitLen n = k + 1 := by
  have hn : n ≠ 0 := by have := Nat.two_pow_pos k; omega
  have a := bitLen_le_of_lt h1
  have b : ¬ bitLen n ≤ k := fun hb => by
    have c := bitLen_lt n
    have d := Nat.pow_le_pow_right (n := 2) (by omega) hb
    omega
  omega
theorem bitLen_shift {n k : Nat} (h : 2 ^ k ≤ n) : bitLen n = k + bitLen (n / 2 ^ k) := by
  have hp := Nat.two_pow_pos k
  have hq : n / 2 ^ k ≠ 0 := by
    have := Nat.div_pos h hp
    omega
  have h1 := bitLen_lt (n / 2 ^ k)
  have h2 := bitLen_le hq
  have h0 : bitLen (n / 2 ^ k) ≠ 0 := by rw [bitLen_pos hq]; omega
  obtain ⟨j, hj⟩ : ∃ j, bitLen (n / 2 ^ k) = j + 1 := ⟨bitLen (n / 2 ^ k) - 1, by omega⟩
  rw [hj] at h1 h2 ⊢
  rw [show k + (j + 1) = (k + j) + 1 by omega]
  refine bitLen_unique ?_ ?_
  · rw [show k + j + 1 = k + (j + 1) by omega, Nat.pow_add, Nat.mul_comm]
    exact (Nat.div_lt_iff_lt_mul hp).1 h1
  · rw [Nat.pow_add, Nat.mul_comm]
    exact (Nat.le_div_iff_mul_le hp).1 h2
def len1 (x : UInt64) : Nat := bitLen x.toNat
theorem len1_le (x : UInt64) : len1 x ≤ 64 := bitLen_le_of_lt x.toNat_lt
def len8 (x : UInt8) : UInt8 := .ofNat (bitLen x.toNat)
theorem len8_toNat (x : UInt8) : (len8 x).toNat = bitLen x.toNat := by
  have : bitLen x.toNat ≤ 8 := bitLen_le_of_lt x.toNat_lt
  unfold len8
  rw [UInt8.toNat_ofNat']
  omega
theorem len8_le (x : UInt8) : (len8 x).toNat ≤ 8 := by rw [len8_toNat]; exact bitLen_le_of_lt x.toNat_lt
def tabLen8 : ByteArray := ⟨#[0, 1, 2, 2, 3, 3, 3, 3, 4, 4, 4, 4, 4, 4, 4, 4, 5, 5, 5, 5, 5, 5, 5, 5, 5, 5, 5, 5, 5, 5, 5, 5, 6, 6, 6, 6, 6, 6, 6, 6, 6, 6, 6, 6, 6, 6, 6, 6, 6, 6, 6, 6, 6, 6, 6, 6, 6, 6, 6, 6, 6, 6, 6, 6, 7, 7, 7, 7, 7, 7, 7, 7, 7, 7, 7, 7, 7, 7, 7, 7, 7, 7, 7, 7, 7, 7, 7, 7, 7, 7, 7, 7, 7, 7, 7, 7, 7, 7, 7, 7, 7, 7, 7, 7, 7, 7, 7, 7, 7, 7, 7, 7, 7, 7, 7, 7, 7, 7, 7, 7, 7, 7, 7, 7, 7, 7, 7, 7, 8, 8, 8, 8, 8, 8, 8, 8, 8, 8, 8, 8, 8, 8, 8, 8, 8, 8, 8, 8, 8, 8, 8, 8, 8, 8, 8, 8, 8, 8, 8, 8, 8, 8, 8, 8, 8, 8, 8, 8, 8, 8, 8, 8, 8, 8, 8, 8, 8, 8, 8, 8, 8, 8, 8, 8, 8, 8, 8, 8, 8, 8, 8, 8, 8, 8, 8, 8, 8, 8, 8, 8, 8, 8, 8, 8, 8, 8, 8, 8, 8, 8, 8, 8, 8, 8, 8, 8, 8, 8, 8, 8, 8, 8, 8, 8, 8, 8, 8, 8, 8, 8, 8, 8, 8, 8, 8, 8, 8, 8, 8, 8, 8, 8, 8, 8, 8, 8, 8, 8, 8, 8, 8, 8, 8, 8, 8, 8]⟩
theorem tabLen8_get (i : UInt8) : tabLen8[i.toNat]? = some (len8 i) := by
  have h : ∀ k : Fin 256, tabLen8[k.val]? = some (len8 (.ofNat k.val)) := by decide +kernel
  have := h ⟨i.toNat, i.toNat_lt⟩
  simpa using this
theorem shr_len {x : UInt64} {k : Nat} (h : 2 ^ k ≤ x.toNat) : len1 x = k + len1 (shr64 x k) := by
  unfold len1
  rw [shr64_toNat]
  exact bitLen_shift h
theorem len1_small {x : UInt64} (h : x.toNat < 256) : (len8 x.toUInt8).toNat = len1 x := by
  rw [len8_toNat, len1, UInt64.toNat_toUInt8, Nat.mod_eq_of_lt h]
theorem le_of_dec {c x : UInt64} (h : decide (c ≤ x) = true) : c.toNat ≤ x.toNat := UInt64.le_iff_toNat_le.1 (of_decide_eq_true h)
theorem lt_of_dec {c x : UInt64} (h : decide (c ≤ x) = false) : x.toNat < c.toNat := by
  have := of_decide_eq_false h
  rw [UInt64.le_iff_toNat_le] at this; omega
theorem shr_bd {x : UInt64} (k n : Nat) (h : x.toNat < 2 ^ (n + k)) : (shr64 x k).toNat < 2 ^ n := by
  rw [shr64_toNat, Nat.div_lt_iff_lt_mul (Nat.two_pow_pos k), ← Nat.pow_add]; exact h
def len4 (a : N4) : Nat := match !(a.d == 0) with
  | true => 192 + len1 a.d
  | false => match !(a.c == 0) with
    | true => 128 + len1 a.c
    | false => match !(a.b == 0) with
      | true => 64 + len1 a.b
      | false => match !(a.a == 0) with
        | true => 0 + len1 a.a
        | false => 0
theorem beq_zero64 {x : UInt64} (h : (!(x == 0)) = false) : x.toNat = 0 := by
  have : (x == 0) = true := bnot_f h
  rw [beq_iff_eq] at this; subst this; rfl
theorem bne_zero64 {x : UInt64} (h : (!(x == 0)) = true) : 0 < x.toNat := by
  have : (x == 0) = false := bnot_t h
  have h2 : x ≠ 0 := by simpa using this
  rcases Nat.eq_zero_or_pos x.toNat with h0 | h0
  · exact absurd (UInt64.toNat_inj.1 (by rw [h0]; rfl)) h2
  · exact h0
theorem bitLen_two {lo hi k : Nat} (hlo : lo < 2 ^ k) (hhi : 0 < hi) : bitLen (lo + 2 ^ k * hi) = k + bitLen hi := by
  have hp := Nat.two_pow_pos k
  have h : 2 ^ k ≤ lo + 2 ^ k * hi := Nat.le_trans (Nat.le_mul_of_pos_right _ hhi) (Nat.le_add_left _ _)
  rw [bitLen_shift h, Nat.add_mul_div_left _ _ hp, Nat.div_eq_of_lt hlo, Nat.zero_add]
theorem len4_val (a : N4) : len4 a = bitLen a.val := by
  have h1 := a.a.toNat_lt
  have h2 := a.b.toNat_lt
  have h3 := a.c.toNat_lt
  unfold len4 N4.val
  cases hd : (!(a.d == 0)) with
  | true =>
    have := bitLen_two (lo := a.a.toNat + 2 ^ 64 * a.b.toNat + 2 ^ 128 * a.c.toNat) (hi := a.d.toNat) (k := 192) (by omega) (bne_zero64 hd)
    simp only; rw [this]; rfl
  | false =>
    have d0 := beq_zero64 hd
    simp only
    cases hc : (!(a.c == 0)) with
    | true =>
      have := bitLen_two (lo := a.a.toNat + 2 ^ 64 * a.b.toNat) (hi := a.c.toNat) (k := 128) (by omega) (bne_zero64 hc)
      simp only; rw [d0, Nat.mul_zero, Nat.add_zero, this]; rfl
    | false =>
      have c0 := beq_zero64 hc
      simp only
      cases hb : (!(a.b == 0)) with
      | true =>
        have := bitLen_two (lo := a.a.toNat) (hi := a.b.toNat) (k := 64) (by omega) (bne_zero64 hb)
        simp only; rw [d0, c0, Nat.mul_zero, Nat.add_zero, this]; rfl
      | false =>
        have b0 := beq_zero64 hb
        simp only
        cases ha : (!(a.a == 0)) with
        | true => simp only; rw [d0, c0, b0]; simp [len1]
        | false => simp only; rw [d0, c0, b0, beq_zero64 ha]; rfl
end Go.Eng
end
section
namespace Go.Eng
end Go.Eng
end
section
namespace Go.Eng
end Go.Eng
end
section
namespace Go.Eng
def N8.set (x : N8) (i : Nat) (v : UInt64) : N8 := match decide (i < 4) with
  | true => { x with lo := x.lo.set i v }
  | false => { x with hi := x.hi.set (i - 4) v }
def N8.ofNat (n : Nat) : N8 := ⟨N4.ofNat n, N4.ofNat (n / 2 ^ 256)⟩
end Go.Eng
end
section
namespace Go.Eng
theorem is_move_nat {P : Program} {x : Operand} (e : Int) (m : Nat) (he : e = (m : Int)) : IsOp P (.move x) [int e] (nat m) := by
  subst he
  intro ρ o ho hv
  rw [ho] at hv
  simp only [Op.operands, List.map_cons, List.map_nil, List.cons.injEq, and_true] at hv
  unfold execOp
  rw [ho]
  simp only [hv]
  rfl
section wides
open Go.ChangeShapes Go.WideShapes Go.ChangeAt Go.RowKit
variable {H : Type} {enc : TypeId × Value → H} {P : Program}
end wides
end Go.Eng
end
section
namespace Go.Eng
theorem Post.trans {m m' m'' : Nat → Option Blk} {w w' w'' : World} (h : Post m w m' w') (k : Post m' w' m'' w'') : Post m w m'' w'' := ⟨k.holds, k.apart, h.adv.trans k.adv⟩
theorem Post.drew {m : Nat → Option Blk} {w : World} (h : ∀ p b, m p = some b → Holds b w) (ha : Apart m) : Post m w m w.drew :=
  ⟨fun p b hp => (h p b hp).drew, ha, ⟨rfl, rfl, rfl, Nat.le_refl _, fun _ _ _ => rfl, fun _ h => .inl h, fun _ _ h _ => h⟩⟩
theorem listMem_set0 (x x' : Blk) (y : Option Blk) : memApply (listMem [some x, y]) [(0, some x')] = listMem [some x', y] := by
  funext p
  rcases p with _ | p <;> rfl
end Go.Eng
end
section
namespace Go.Eng
end Go.Eng
namespace Go.Eng
end Go.Eng
end
section
namespace Go.Eng
end Go.Eng
end
