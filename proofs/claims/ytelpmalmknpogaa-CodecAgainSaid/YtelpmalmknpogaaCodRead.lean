/-
  Layer 8: what a Reader's calls come to.
-/
import Derived.Test.YtelpmalmknpogaaCodDef
set_option linter.unusedSimpArgs false
set_option linter.unusedVariables false
set_option maxRecDepth 100000
namespace Go.Eng
def u64i (m : Int) : UInt64 := UInt64.ofNat (m % 18446744073709551616).toNat
theorem conv_i64_u64 {P : Program} {s d : TypeId} {x : Operand} (hs : P.underlying s = some (.int .i64)) (hd : P.underlying d = some (.int .u64)) (m : Int) : IsOp P (.convert s d x) [int m] (u64 (u64i m)) := by
  have h := conv_int (x := x) hs hd m
  have e : (IntKind.u64.wrap m) = ((u64i m).toNat : Int) := by
    unfold u64i
    rw [UInt64.toNat_ofNat']
    have h0 : IntKind.u64.wrap m = m % 18446744073709551616 := by simp [IntKind.wrap, IntKind.signed, IntKind.bits]
    rw [h0]
    omega
  rw [e] at h; exact h
theorem u64i_nat {m : Int} (h : 0 ≤ m) (h2 : m ≤ 9223372036854775807) : (u64i m).toNat = m.toNat := by
  unfold u64i; rw [UInt64.toNat_ofNat']; omega
/-- The first error stays. -/
theorem rsE_ne {q : BytL} {e : Int} {l : UInt64} (h : e ≠ 0) : rsE q e l = e := if_neg h
theorem rsV_le (q : BytL) (e : Int) (l : UInt64) : (rsV q e l).toNat ≤ l.toNat := by
  unfold rsV
  split
  · rename_i h
    obtain ⟨_, _, _, _, h5, _⟩ := wrE_zero (failE_zero h).2
    rw [UInt64.lt_iff_toNat_lt] at h5
    omega
  · exact Nat.zero_le _
/-- How many there are. -/
def ctE1 (e m : Int) : Int := if m < 0 then failE e 2 else e
def ctV (q : BytL) (e m : Int) : Nat := (rsV q (ctE1 e m) (u64i m)).toNat
def ctQ (q : BytL) (e m : Int) : BytL := rsQ q (ctE1 e m) (u64i m)
def ctE (q : BytL) (e m : Int) (z : Nat) : Int := if (ctQ q e m).wn / z < ctV q e m then failE (rsE q (ctE1 e m) (u64i m)) 3 else rsE q (ctE1 e m) (u64i m)
def ctN (q : BytL) (e m : Int) (z : Nat) : Nat := if (ctQ q e m).wn / z < ctV q e m then 0 else ctV q e m
theorem ctE1_ne {e m : Int} (h : m < 0) : ctE1 e m ≠ 0 := by
  unfold ctE1 failE; rw [if_pos h]; split <;> omega
theorem ctV_le {q : BytL} {e m : Int} (h2 : m ≤ 9223372036854775807) : ctV q e m ≤ 9223372036854775807 := by
  unfold ctV
  by_cases h : m < 0
  · have h1 : rsV q (ctE1 e m) (u64i m) = 0 := if_neg (by rw [rsE_ne (ctE1_ne h)]; exact ctE1_ne h)
    rw [h1]; exact Nat.zero_le _
  · have h3 := rsV_le q (ctE1 e m) (u64i m)
    rw [u64i_nat (by omega) h2] at h3
    omega
theorem ctN_le (q : BytL) (e m : Int) {z : Nat} (hz : 0 < z) : ctN q e m z * z ≤ (ctQ q e m).wn := by
  unfold ctN
  split
  · omega
  · rename_i h
    have := Nat.div_mul_le_self (ctQ q e m).wn z
    exact Nat.le_trans (Nat.mul_le_mul_right z (by omega)) this
theorem rsQ_wn (q : BytL) (e : Int) (l : UInt64) : (rsQ q e l).wn ≤ q.wn := by
  unfold rsQ
  split
  · exact Nat.sub_le _ _
  · exact Nat.le_refl _
theorem ctQ_wn (q : BytL) (e m : Int) : (ctQ q e m).wn ≤ q.wn := rsQ_wn _ _ _
/-- Bytes are taken. -/
def tkE (q : BytL) (e : Int) (n : Nat) : Int := if q.wn < n then failE e 3 else e
def tkQ (q : BytL) (e : Int) (n : Nat) : BytL := if tkE q e n = 0 then bytF q n else q
theorem tkE_zero {q : BytL} {e : Int} {n : Nat} (h : tkE q e n = 0) : e = 0 ∧ n ≤ q.wn := by
  unfold tkE at h
  by_cases h1 : q.wn < n
  · rw [if_pos h1] at h; exact absurd (failE_zero h).2 (by decide)
  · rw [if_neg h1] at h; exact ⟨h, by omega⟩
theorem tk_in {q : BytL} {e : Int} {n : Nat} (h : tkE q e n = 0) : tkQ q e n = bytF q n := if_pos h
theorem tk_out {q : BytL} {e : Int} {n : Nat} (h : tkE q e n ≠ 0) : tkQ q e n = q := if_neg h
theorem okb_tk {q : BytL} (hq : OkB q) (e : Int) (n : Nat) : OkB (tkQ q e n) := by
  unfold tkQ
  split
  · rename_i h; exact okb_from hq (tkE_zero h).2
  · exact hq
theorem holdb_tk {q : BytL} {e : Int} {n : Nat} {w : World} (h : FamH (famB q) w) : FamH (famB (tkQ q e n)) w := by
  unfold tkQ
  split
  · rename_i h0; exact holdb_from (tkE_zero h0).2 h
  · exact h
theorem tk_wb {q : BytL} {e : Int} {n : Nat} : (tkQ q e n).wb = q.wb := by unfold tkQ; split <;> rfl
theorem tkQ_wn (q : BytL) (e : Int) (n : Nat) : (tkQ q e n).wn ≤ q.wn := by
  unfold tkQ
  split
  · exact Nat.sub_le _ _
  · exact Nat.le_refl _
/-- A slice of no bytes. -/
def zA (b : Bool) (n : Nat) : Option Addr := match b with
  | true => none
  | false => some ⟨n, 0, none⟩
def zV (b : Bool) (n : Nat) : Value := .slice (zA b n) 0 0
/-- A number is read. -/
def rnV (q : BytL) (e : Int) : N4 := if tkE q e 32 = 0 then ofN q.wf 32 else N4.mk 0 0 0 0
/-- Bytes are read: how many, which ones. -/
def rbN (q : BytL) (e m : Int) : Nat := if tkE (ctQ q e m) (ctE q e m 1) (ctN q e m 1) = 0 then ctN q e m 1 else 0
def rbE (q : BytL) (e m : Int) : Int := tkE (ctQ q e m) (ctE q e m 1) (ctN q e m 1)
def rbQ (q : BytL) (e m : Int) : BytL := tkQ (ctQ q e m) (ctE q e m 1) (ctN q e m 1)
end Go.Eng
namespace Go.Eng
theorem ct_in {q : BytL} {e m : Int} {z : Nat} (h : (rsQ q (ctE1 e m) (u64i m)).wn / z < (rsV q (ctE1 e m) (u64i m)).toNat) : ctE q e m z = failE (rsE q (ctE1 e m) (u64i m)) 3 ∧ ctN q e m z = 0 := ⟨if_pos h, if_pos h⟩
theorem ct_out {q : BytL} {e m : Int} {z : Nat} (h : ¬ (rsQ q (ctE1 e m) (u64i m)).wn / z < (rsV q (ctE1 e m) (u64i m)).toNat) : ctE q e m z = rsE q (ctE1 e m) (u64i m) ∧ ctN q e m z = (rsV q (ctE1 e m) (u64i m)).toNat := ⟨if_neg h, if_neg h⟩
theorem okb_ct {q : BytL} (hq : OkB q) (e m : Int) : OkB (ctQ q e m) := okb_rs hq _ _
theorem holdb_ct {q : BytL} {e m : Int} {w : World} (h : FamH (famB q) w) : FamH (famB (ctQ q e m)) w := holdb_rs h
theorem ct_wb {q : BytL} {e m : Int} : (ctQ q e m).wb = q.wb := rs_wb
theorem rb_wn (q : BytL) (e m : Int) : (rbQ q e m).wn ≤ q.wn := Nat.le_trans (tkQ_wn _ _ _) (ctQ_wn _ _ _)
theorem okb_rb {q : BytL} (hq : OkB q) (e m : Int) : OkB (rbQ q e m) := okb_tk (okb_ct hq e m) _ _
theorem holdb_rb {q : BytL} {e m : Int} {w : World} (h : FamH (famB q) w) : FamH (famB (rbQ q e m)) w := holdb_tk (holdb_ct h)
theorem rb_wb {q : BytL} {e m : Int} : (rbQ q e m).wb = q.wb := tk_wb.trans ct_wb
theorem rn_in {q : BytL} {e : Int} (h : tkE q e 32 = 0) : rnV q e = ofN q.wf 32 := if_pos h
theorem rn_out {q : BytL} {e : Int} (h : tkE q e 32 ≠ 0) : rnV q e = N4.mk 0 0 0 0 := if_neg h
/-- Numbers are read, one after the other. -/
def nsE (q : BytL) (e : Int) : Nat → BytL × Int
  | 0 => (q, e)
  | k + 1 => (tkQ (nsE q e k).1 (nsE q e k).2 32, tkE (nsE q e k).1 (nsE q e k).2 32)
def nsV (q : BytL) (e : Int) (k : Nat) : N4 := rnV (nsE q e k).1 (nsE q e k).2
theorem okb_ns {q : BytL} (hq : OkB q) (e : Int) : ∀ k, OkB (nsE q e k).1
  | 0 => hq
  | k + 1 => okb_tk (okb_ns hq e k) _ _
theorem holdb_ns {q : BytL} {e : Int} {w : World} (h : FamH (famB q) w) : ∀ k, FamH (famB (nsE q e k).1) w
  | 0 => h
  | k + 1 => holdb_tk (holdb_ns h k)
theorem ns_wb {q : BytL} {e : Int} : ∀ k, (nsE q e k).1.wb = q.wb
  | 0 => rfl
  | k + 1 => tk_wb.trans (ns_wb k)
theorem ns_wn {q : BytL} {e : Int} : ∀ k, (nsE q e k).1.wn ≤ q.wn
  | 0 => Nat.le_refl _
  | k + 1 => Nat.le_trans (tkQ_wn _ _ _) (ns_wn k)
end Go.Eng
namespace Go.Eng
def rbZ (q : BytL) (e m : Int) : Bool := if rbE q e m = 0 then (ctQ q e m).wa.isNone else true
theorem rb_bad {q : BytL} {e m : Int} (h : tkE (ctQ q e m) (ctE q e m 1) (ctN q e m 1) ≠ 0) : rbN q e m = 0 ∧ rbZ q e m = true := ⟨if_neg h, if_neg h⟩
theorem rb_good {q : BytL} {e m : Int} (h : tkE (ctQ q e m) (ctE q e m 1) (ctN q e m 1) = 0) : rbN q e m = ctN q e m 1 ∧ rbZ q e m = (ctQ q e m).wa.isNone := ⟨if_pos h, if_pos h⟩
end Go.Eng
namespace Go.Eng
theorem slqV_from {q : BytL} {A : Option Addr} {k : Nat} (hA : q.wa = A) : slqV (bytF q k) = .slice (fromA A q.wc k 1) (q.wn - k) (q.wc - k) := by subst hA; rfl
end Go.Eng
namespace Go.Eng
def rsN (q : BytL) (e m : Int) : Nat := ctN q e m 32
def rsQ2 (q : BytL) (e m : Int) : BytL := (nsE (ctQ q e m) (ctE q e m 32) (ctN q e m 32)).1
def rsE2 (q : BytL) (e m : Int) : Int := (nsE (ctQ q e m) (ctE q e m 32) (ctN q e m 32)).2
def nsG (q : BytL) (e : Int) (i : Nat) : Nat → N4 := fun k => if k < i then nsV q e k else N4.mk 0 0 0 0
def rsF (q : BytL) (e m : Int) : Nat → N4 := nsG (ctQ q e m) (ctE q e m 32) (ctN q e m 32)
theorem okb_n2 {q : BytL} (hq : OkB q) (e m : Int) : OkB (rsQ2 q e m) := okb_ns (okb_ct hq e m) _ _
theorem holdb_n2 {q : BytL} {e m : Int} {w : World} (h : FamH (famB q) w) : FamH (famB (rsQ2 q e m)) w := holdb_ns (holdb_ct h) _
theorem n2_wb {q : BytL} {e m : Int} : (rsQ2 q e m).wb = q.wb := (ns_wb _).trans ct_wb
theorem n2_wn (q : BytL) (e m : Int) : (rsQ2 q e m).wn ≤ q.wn := Nat.le_trans (ns_wn _) (ctQ_wn _ _ _)
theorem ns_step {q : BytL} {e : Int} {i : Nat} {Q : BytL} {E : Int} {g : Nat → N4} (h1 : Q = (nsE q e i).1) (h2 : E = (nsE q e i).2) (h3 : g = nsG q e i) :
    tkQ Q E 32 = (nsE q e (i + 1)).1 ∧ tkE Q E 32 = (nsE q e (i + 1)).2 ∧ upd g i (rnV Q E) = nsG q e (i + 1) := by
  subst h1 h2 h3
  refine ⟨rfl, rfl, ?_⟩
  funext k
  unfold upd nsG
  by_cases h : k = i
  · subst h; rw [if_pos rfl, if_pos (by omega)]; rfl
  · rw [if_neg h]
    by_cases h2 : k < i
    · rw [if_pos h2, if_pos (by omega)]
    · rw [if_neg h2, if_neg (by omega)]
theorem nsG_zero (q : BytL) (e : Int) : (fun _ => N4.mk 0 0 0 0) = nsG q e 0 := by funext k; unfold nsG; rw [if_neg (by omega)]
end Go.Eng
