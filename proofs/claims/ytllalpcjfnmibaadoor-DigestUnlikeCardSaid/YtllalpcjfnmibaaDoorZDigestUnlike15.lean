/-
  Many in one: Digest10, DigInp.
-/
import Derived.Test.YtllalpcjfnmibaaDoorZDigestUnlike14
import Derived.Lib.Bytes
section
namespace Go.Eng
set_option linter.unusedSimpArgs false
set_option linter.unusedVariables false
set_option maxRecDepth 100000
theorem famLs_sub {l l' : List BytL} (h : ∀ q ∈ l, q ∈ l') (x : Blk) (hx : famLs l x) : famLs l' x := Or.elim hx .inl fun ⟨q, h1, h2⟩ => .inr ⟨q, h q h1, h2⟩
theorem famLs_holds {l : List BytL} {w : World} (hT : FamH famT w) (h : ∀ q ∈ l, FamH (famB q) w) : FamH (famLs l) w := fun b hb => by
  rcases hb with hb | ⟨q, h1, h2⟩
  · exact hT b hb
  · exact h q h1 b h2
def strE (s u : ByteArray) : Bool := s.toList == u.toList
theorem is_eqlStr {P : Program} {t t' : TypeId} {x y : Operand} (s u : ByteArray) : IsOp P (.binOp .eql t x y t') [.string s, .string u] (.bool (strE s u)) := isOp_bin rfl rfl
theorem strE_same (s u : ByteArray) : strE s u = sameS (chrF s) s.size (chrF u) u.size := by
  unfold strE
  rw [ByteArray.toList_eq, ByteArray.toList_eq]
  have hs : s.data.toList.length = s.size := by rw [Array.length_toList]; rfl
  have hu : u.data.toList.length = u.size := by rw [Array.length_toList]; rfl
  rw [Bool.eq_iff_iff, beq_iff_eq]
  constructor
  · intro h
    have hl : s.size = u.size := by rw [← hs, ← hu, h]
    refine sameS_all hl fun k _ => ?_
    unfold chrF
    rw [h]
  · intro h
    obtain ⟨hl, hk⟩ := of_decide_eq_true h
    apply List.ext_getElem?
    intro k
    by_cases hk' : k < s.size
    · have := hk k hk'
      unfold chrF at this
      rw [List.getD_eq_getElem?_getD, List.getD_eq_getElem?_getD, List.getElem?_eq_getElem (by omega), List.getElem?_eq_getElem (by omega)] at this
      rw [List.getElem?_eq_getElem (by omega), List.getElem?_eq_getElem (by omega)]
      exact congrArg some this
    · rw [List.getElem?_eq_none (by omega), List.getElem?_eq_none (by omega)]
theorem sameS_of {f g : Nat → UInt8} {n m : Nat} (h : sameS f n g m = true) : n = m ∧ ∀ k, k < n → f k = g k := of_decide_eq_true h
theorem cat_apart {f g f' g' : Nat → UInt8} {n m : Nat} {N : Nat} (hN : n + m ≤ N) (h : ∀ k, k < N → catU f n f' k = catU g n g' k) : (∀ k, k < n → f k = g k) ∧ ∀ k, k < m → f' k = g' k := by
  refine ⟨fun k hk => ?_, fun k hk => ?_⟩
  · have := h k (by omega)
    unfold catU at this
    rw [if_pos hk, if_pos hk] at this; exact this
  · have := h (n + k) (by omega)
    unfold catU at this
    rw [if_neg (by omega), if_neg (by omega), Nat.add_sub_cancel_left] at this; exact this
theorem cat_same {f g f' g' : Nat → UInt8} {n N : Nat} (h1 : ∀ k, k < n → f k = g k) (h2 : ∀ k, n + k < N → f' k = g' k) : ∀ k, k < N → catU f n f' k = catU g n g' k := fun k hk => by
  unfold catU
  by_cases h : k < n
  · rw [if_pos h, if_pos h]; exact h1 k h
  · rw [if_neg h, if_neg h]; exact h2 (k - n) (by omega)
theorem eight_inj {a b : Nat} (ha : a < 256) (hb : b < 256) (h : ∀ k, k < 8 → eightF (UInt64.ofNat a) k = eightF (UInt64.ofNat b) k) : a = b := by
  have h7 := h 7 (by decide)
  unfold eightF dig at h7
  have ea : (UInt64.ofNat a).toNat = a := by rw [UInt64.toNat_ofNat']; omega
  have eb : (UInt64.ofNat b).toNat = b := by rw [UInt64.toNat_ofNat']; omega
  rw [ea, eb] at h7
  have h8 := congrArg UInt8.toNat h7
  simp only [UInt8.toNat_ofNat'] at h8
  simp at h8
  omega
theorem cat_low {f g : Nat → UInt8} {n k : Nat} (h : k < n) : catU f n g k = f k := by unfold catU; rw [if_pos h]
def inp1 (t : Nat → UInt8) (n : Nat) : Nat → UInt8 := catU (eightF (UInt64.ofNat n)) 8 t
def inp2 (t : Nat → UInt8) (n : Nat) (a : Nat → UInt8) (m : Nat) : Nat → UInt8 := catU (catU (inp1 t n) (8 + n) (eightF (UInt64.ofNat m))) (8 + n + 8) a
def inp3 (t : Nat → UInt8) (n : Nat) (a : Nat → UInt8) (m : Nat) (b : Nat → UInt8) (l : Nat) : Nat → UInt8 := catU (catU (inp2 t n a m) (8 + n + 8 + m) (eightF (UInt64.ofNat l))) (8 + n + 8 + m + 8) b
theorem inp_apart {t u a c b d : Nat → UInt8} {n n' m m' l l' : Nat} (hn : n ≤ 100 ∧ n' ≤ 100 ∧ m ≤ 100 ∧ m' ≤ 100 ∧ l ≤ 100 ∧ l' ≤ 100)
    (h : sameS (inp3 t n a m b l) (8 + n + 8 + m + 8 + l) (inp3 u n' c m' d l') (8 + n' + 8 + m' + 8 + l') = true) :
    sameS t n u n' = true ∧ sameS a m c m' = true ∧ sameS b l d l' = true := by
  obtain ⟨hN, hk⟩ := sameS_of h
  have e1 : n = n' := eight_inj (by omega) (by omega) fun k h8 => by
    have := hk k (by omega)
    unfold inp3 inp2 inp1 at this
    rw [cat_low (by omega), cat_low (by omega), cat_low (by omega), cat_low (by omega), cat_low h8, cat_low (by omega), cat_low (by omega), cat_low (by omega), cat_low (by omega), cat_low h8] at this
    exact this
  subst e1
  have h3 : ∀ k, k < 8 + n + 8 → catU (inp1 t n) (8 + n) (eightF (UInt64.ofNat m)) k = catU (inp1 u n) (8 + n) (eightF (UInt64.ofNat m')) k := fun k h8 => by
    have := hk k (by omega)
    unfold inp3 inp2 at this
    rw [cat_low (by omega), cat_low (by omega), cat_low h8, cat_low (show k < 8 + n + 8 + m' + 8 by omega), cat_low (show k < 8 + n + 8 + m' by omega), cat_low h8] at this
    exact this
  obtain ⟨h4, h5⟩ := cat_apart (Nat.le_refl _) h3
  have e2 : m = m' := eight_inj (by omega) (by omega) h5
  subst e2
  have h6 : ∀ k, k < 8 + n + 8 + m + 8 → catU (inp2 t n a m) (8 + n + 8 + m) (eightF (UInt64.ofNat l)) k = catU (inp2 u n c m) (8 + n + 8 + m) (eightF (UInt64.ofNat l')) k := fun k h8 => by
    have := hk k (by omega)
    unfold inp3 at this
    rw [cat_low h8, cat_low h8] at this
    exact this
  obtain ⟨h7, h8⟩ := cat_apart (Nat.le_refl _) h6
  have e3 : l = l' := eight_inj (by omega) (by omega) h8
  subst e3
  exact ⟨sameS_all rfl (cat_apart (Nat.le_refl _) h4).2, sameS_all rfl (cat_apart (Nat.le_refl _) h7).2, sameS_all rfl (cat_apart (Nat.le_refl _) hk).2⟩
theorem inp_alike {t u a c b d : Nat → UInt8} {n n' m m' l l' : Nat} (h1 : sameS t n u n' = true) (h2 : sameS a m c m' = true) (h3 : sameS b l d l' = true) :
    digOf (inp3 t n a m b l) (8 + n + 8 + m + 8 + l) = digOf (inp3 u n' c m' d l') (8 + n' + 8 + m' + 8 + l') := by
  obtain ⟨rfl, k1⟩ := sameS_of h1
  obtain ⟨rfl, k2⟩ := sameS_of h2
  obtain ⟨rfl, k3⟩ := sameS_of h3
  refine digOf_congr (cat_same (cat_same (cat_same (cat_same (cat_same (fun _ _ => rfl) fun k hk => k1 k (by omega)) fun _ _ => rfl) fun k hk => k2 k (by omega)) fun _ _ => rfl) fun k hk => k3 k (by omega))
theorem sel3 {a b c : Bool} (h : selB (selB a b false) c false = true) : a = true ∧ b = true ∧ c = true := by
  cases a <;> cases b <;> cases c <;> simp_all [selB]
theorem sel3_mk {a b c : Bool} (h : a = true ∧ b = true ∧ c = true) : selB (selB a b false) c false = true := by
  obtain ⟨rfl, rfl, rfl⟩ := h; rfl
theorem unlike_a {A X : Bool} (hAX : A = true → X = true) (h : selB A true (!X) = true) : (X == A) = true := by
  cases A <;> cases X <;> simp_all [selB]
theorem unlike_b {A X S : Bool} (hSA : S = true → A = true) (h : selB A true (!X) = false) : selB (!S) X false = true := by
  cases A <;> cases X <;> cases S <;> simp_all [selB]
section
variable {t u : ByteArray} {a b c d : BytL}
theorem unlike_to (h : selB (selB (strE t u) (sameS a.wf a.wn c.wf c.wn) false) (sameS b.wf b.wn d.wf d.wn) false = true) :
    sameS (digOf (inp3 (chrF t) t.size a.wf a.wn b.wf b.wn) (8 + t.size + 8 + a.wn + 8 + b.wn)) 32 (digOf (inp3 (chrF u) u.size c.wf c.wn d.wf d.wn) (8 + u.size + 8 + c.wn + 8 + d.wn)) 32 = true := by
  obtain ⟨h1, h2, h3⟩ := sel3 h
  rw [strE_same] at h1
  exact same_of (inp_alike h1 h2 h3)
theorem unlike_from (hn : t.size ≤ 100 ∧ u.size ≤ 100 ∧ a.wn ≤ 100 ∧ c.wn ≤ 100 ∧ b.wn ≤ 100 ∧ d.wn ≤ 100)
    (h : sameS (inp3 (chrF t) t.size a.wf a.wn b.wf b.wn) (8 + t.size + 8 + a.wn + 8 + b.wn) (inp3 (chrF u) u.size c.wf c.wn d.wf d.wn) (8 + u.size + 8 + c.wn + 8 + d.wn) = true) :
    selB (selB (strE t u) (sameS a.wf a.wn c.wf c.wn) false) (sameS b.wf b.wn d.wf d.wn) false = true := by
  obtain ⟨h1, h2, h3⟩ := inp_apart hn h
  exact sel3_mk ⟨by rw [strE_same]; exact h1, h2, h3⟩
end
end Go.Eng
end
section
namespace Go.Proofs.YtllalpcjfnmibaaDoor
open Go Go.Eng
set_option linter.unusedVariables false
set_option linter.unusedSimpArgs false
set_option maxRecDepth 100000
set_option maxHeartbeats 1000000
theorem input_2 (p : Nat) (t : ByteArray) (a b : BytL) (ht : t.size ≤ 200) (ha : OkB a) (han : a.wn ≤ 200) (hb : OkB b) (hbn : b.wn ≤ 200) : RunsF (famLs [a, b]) Tryd.prog 27 [(Value.string t), (Value.slice (some ⟨p, 0, none⟩) 2 2)] [⟨p, false, 0, (.lit [(Value.slice a.wa a.wn a.wc), (Value.slice b.wa b.wn b.wc)])⟩] 2 (fun (ns : List Nat) => (Value.slice (some ⟨(ns.getD 0 0), 0, none⟩) (8 + t.size + 8 + a.wn + 8 + b.wn) (8 + t.size + 8 + a.wn + 8 + b.wn + (ns.getD 1 0)))) (fun (ns : List Nat) => [some ⟨p, false, 0, (.lit [(Value.slice a.wa a.wn a.wc), (Value.slice b.wa b.wn b.wc)])⟩, some ⟨(ns.getD 0 0), true, 0, (spr (8 + t.size + 8 + a.wn + 8 + b.wn + (ns.getD 1 0)) (8 + t.size + 8 + a.wn + 8 + b.wn) (fun k => u8 (catU (catU (catU (catU (catU (eightF (UInt64.ofNat t.size)) 8 (chrF t)) (8 + t.size) (eightF (UInt64.ofNat a.wn))) (8 + t.size + 8) a.wf) (8 + t.size + 8 + a.wn) (eightF (UInt64.ofNat b.wn))) (8 + t.size + 8 + a.wn + 8) b.wf k)) (u8 0))⟩]) :=
  runsF_of_ev (F := (famLs [a, b])) mix Tryd.func27 rfl rfl 400 (.reg [(0, .g)] (.regn [(0, .g), (1, (.as (nat t.size))), (2, (.as (u64 (UInt64.ofNat t.size)))), (3, (.call [] 2 1 (fun ns => Value.slice (some ⟨ns.getD 0 0, 0, none⟩) 8 (8 + ns.getD 1 0)) (fun ns => [some ⟨(ns.getD 0 0), true, 0, (spr (8 + (ns.getD 1 0)) 8 (fun k => u8 (eightF (UInt64.ofNat t.size) k)) (u8 0))⟩]))), (4, .g), (5, (.oth [(1, false)] 2 0 (fun ns => Value.slice (some ⟨(ns.getD 0 0), 0, none⟩) (8 + t.size) (8 + t.size + (ns.getD 1 0))) (fun ns => [some ⟨(ns.getD 0 0), true, 0, (spr (8 + t.size + (ns.getD 1 0)) (8 + t.size) (fun k => u8 (catU (eightF (UInt64.ofNat t.size)) 8 (chrF t) k)) (u8 0))⟩]))), (6, .g)] (more (fun n1 => more (fun n2 => more (fun n3 => more (fun n4 => fun _ => (.reg [(0, .g)] (.unroll (.reg [(0, .g), (1, .g), (2, (.as (int 2))), (3, .g)] (.yes (.regn [(0, .g), (1, .g), (2, .g), (3, (.as (ptr p (0 + 0 * 1)))), (4, (.ld 0 (.lit 0))), (5, (.as (nat a.wn))), (6, (.as (u64 (UInt64.ofNat a.wn)))), (7, (.call [] 2 1 (fun ns => Value.slice (some ⟨ns.getD 0 0, 0, none⟩) 8 (8 + ns.getD 1 0)) (fun ns => [some ⟨(ns.getD 0 0), true, 0, (spr (8 + (ns.getD 1 0)) 8 (fun k => u8 (eightF (UInt64.ofNat a.wn) k)) (u8 0))⟩]))), (8, (.oth [(1, false), (2, true)] 2 0 (fun ns => Value.slice (some ⟨(ns.getD 0 0), 0, none⟩) (8 + t.size + 8) (8 + t.size + 8 + (ns.getD 1 0))) (fun ns => [some ⟨(ns.getD 0 0), true, 0, (spr (8 + t.size + 8 + (ns.getD 1 0)) (8 + t.size + 8) (fun k => u8 (catU (catU (eightF (UInt64.ofNat t.size)) 8 (chrF t)) (8 + t.size) (eightF (UInt64.ofNat a.wn)) k)) (u8 0))⟩, none]))), (9, .g)] (more (fun n5 => more (fun n6 => more (fun n7 => more (fun n8 => fun _ => (.regn [(0, .g), (1, .g), (2, .g), (3, (.as (ptr p (0 + 0 * 1)))), (4, (.ld 0 (.lit 0))), (5, (.othF [(1, false)] 2 0 (fun ns => Value.slice (some ⟨(ns.getD 0 0), 0, none⟩) (8 + t.size + 8 + a.wn) (8 + t.size + 8 + a.wn + (ns.getD 1 0))) (fun ns => [some ⟨(ns.getD 0 0), true, 0, (spr (8 + t.size + 8 + a.wn + (ns.getD 1 0)) (8 + t.size + 8 + a.wn) (fun k => u8 (catU (catU (catU (eightF (UInt64.ofNat t.size)) 8 (chrF t)) (8 + t.size) (eightF (UInt64.ofNat a.wn))) (8 + t.size + 8) a.wf k)) (u8 0))⟩]))), (6, .g)] (more (fun n9 => more (fun n10 => fun _ => (.reg [(0, .g), (1, .g), (2, .g)] (.unroll (.reg [(0, .g), (1, .g), (2, (.as (int 2))), (3, .g)] (.yes (.regn [(0, .g), (1, .g), (2, .g), (3, (.as (ptr p (0 + 1 * 1)))), (4, (.ld 0 (.lit 1))), (5, (.as (nat b.wn))), (6, (.as (u64 (UInt64.ofNat b.wn)))), (7, (.call [] 2 1 (fun ns => Value.slice (some ⟨ns.getD 0 0, 0, none⟩) 8 (8 + ns.getD 1 0)) (fun ns => [some ⟨(ns.getD 0 0), true, 0, (spr (8 + (ns.getD 1 0)) 8 (fun k => u8 (eightF (UInt64.ofNat b.wn) k)) (u8 0))⟩]))), (8, (.oth [(1, false), (3, true)] 2 0 (fun ns => Value.slice (some ⟨(ns.getD 0 0), 0, none⟩) (8 + t.size + 8 + a.wn + 8) (8 + t.size + 8 + a.wn + 8 + (ns.getD 1 0))) (fun ns => [some ⟨(ns.getD 0 0), true, 0, (spr (8 + t.size + 8 + a.wn + 8 + (ns.getD 1 0)) (8 + t.size + 8 + a.wn + 8) (fun k => u8 (catU (catU (catU (catU (eightF (UInt64.ofNat t.size)) 8 (chrF t)) (8 + t.size) (eightF (UInt64.ofNat a.wn))) (8 + t.size + 8) a.wf) (8 + t.size + 8 + a.wn) (eightF (UInt64.ofNat b.wn)) k)) (u8 0))⟩, none]))), (9, .g)] (more (fun n11 => more (fun n12 => more (fun n13 => more (fun n14 => fun _ => (.regn [(0, .g), (1, .g), (2, .g), (3, (.as (ptr p (0 + 1 * 1)))), (4, (.ld 0 (.lit 1))), (5, (.othF [(1, false)] 2 0 (fun ns => Value.slice (some ⟨(ns.getD 0 0), 0, none⟩) (8 + t.size + 8 + a.wn + 8 + b.wn) (8 + t.size + 8 + a.wn + 8 + b.wn + (ns.getD 1 0))) (fun ns => [some ⟨(ns.getD 0 0), true, 0, (spr (8 + t.size + 8 + a.wn + 8 + b.wn + (ns.getD 1 0)) (8 + t.size + 8 + a.wn + 8 + b.wn) (fun k => u8 (catU (catU (catU (catU (catU (eightF (UInt64.ofNat t.size)) 8 (chrF t)) (8 + t.size) (eightF (UInt64.ofNat a.wn))) (8 + t.size + 8) a.wf) (8 + t.size + 8 + a.wn) (eightF (UInt64.ofNat b.wn))) (8 + t.size + 8 + a.wn + 8) b.wf k)) (u8 0))⟩]))), (6, .g)] (more (fun n15 => more (fun n16 => fun _ => (.reg [(0, .g), (1, .g), (2, .g)] (.unroll (.reg [(0, .g), (1, .g), (2, (.as (int 2))), (3, .g)] (.no (.reg [(0, .g), (1, .g)] .done)))))))))))))))))))))))))))))))))))))))) [] [1] rfl
    (Eq.mp (by kernel_rfl) (And.intro (sk trivial) (fun (n1 n2 n3 n4 : Nat) => And.intro (sk (And.intro (And.intro trivial (is_lenStr (P := Tryd.prog) (t := 9) (x := (.tmp 7)) (by kernel_rfl) t)) (And.intro (And.intro trivial (@conv_int_u64 Tryd.prog 3 34 (.tmp 8) (by kernel_rfl) (by kernel_rfl) t.size)) (And.intro (And.intro trivial (reight_runs (UInt64.ofNat t.size))) (sk (And.intro (And.intro trivial (mk_append_str (P := Tryd.prog) (t := 22) (tx := 9) (ty := 22) (e := 5) (by kernel_rfl) (by kernel_rfl) one5 n1 8 n2 (eightF (UInt64.ofNat t.size)) t (show (8 + t.size) * 1 ≤ 140737488355328 ∧ 8 + t.size ≤ 9223372036854775807 from by have f0 : t.size ≤ 200 := ht; have f1 : a.wn ≤ 200 := han; have f2 : b.wn ≤ 200 := hbn; omega))) (sk trivial))))))) (And.intro (sk trivial) (And.intro (sk (sk (And.intro (And.intro trivial (@is_len Tryd.prog 28 22 (.tmp 14) (by kernel_rfl) (some ⟨p, 0, none⟩) 2 2)) (sk trivial)))) (And.intro trivial (And.intro (@rfl Bool true) (fun (n5 n6 n7 n8 : Nat) => And.intro (sk (sk (sk (And.intro (And.intro trivial (@is_ixSl Tryd.prog 28 22 (.tmp 20) (.tmp 21) 1 (by kernel_rfl) (by kernel_rfl) p 0 2 2 0 (show 0 < 2 from by have f0 : t.size ≤ 200 := ht; have f1 : a.wn ≤ 200 := han; have f2 : b.wn ≤ 200 := hbn; omega))) (And.intro (And.intro trivial (ad p 0)) (And.intro (And.intro trivial (@is_len Tryd.prog 22 5 (.tmp 23) (by kernel_rfl) a.wa a.wn a.wc)) (And.intro (And.intro trivial (@conv_int_u64 Tryd.prog 3 34 (.tmp 24) (by kernel_rfl) (by kernel_rfl) a.wn)) (And.intro (And.intro trivial (reight_runs (UInt64.ofNat a.wn))) (And.intro (And.intro trivial (SRuns.dark [false, true] (mk_append (P := Tryd.prog) (t := 22) (ty := 22) (e := 5) (by kernel_rfl) one5 n3 (8 + t.size) n4 n5 0 0 8 (8 + n6) u8 (catU (eightF (UInt64.ofNat t.size)) 8 (chrF t)) (eightF (UInt64.ofNat a.wn)) (spr (8 + n6) 8 (fun k => u8 (eightF (UInt64.ofNat a.wn) k)) (u8 0)) (spr_src) (fun _ => rfl) (show (8 + t.size + 8) * 1 ≤ 140737488355328 ∧ 8 + t.size + 8 ≤ 9223372036854775807 from by have f0 : t.size ≤ 200 := ht; have f1 : a.wn ≤ 200 := han; have f2 : b.wn ≤ 200 := hbn; omega)))) (sk trivial)))))))))) (fun (n9 n10 : Nat) => And.intro (sk (sk (sk (And.intro (And.intro trivial (@is_ixSl Tryd.prog 28 22 (.tmp 29) (.tmp 30) 1 (by kernel_rfl) (by kernel_rfl) p 0 2 2 0 (show 0 < 2 from by have f0 : t.size ≤ 200 := ht; have f1 : a.wn ≤ 200 := han; have f2 : b.wn ≤ 200 := hbn; omega))) (And.intro (And.intro trivial (ad p 0)) (And.intro (And.intro trivial (srunF_append_rec (P := Tryd.prog) (t := 22) (ty := 22) (e := 5) (by kernel_rfl) one5 n7 (8 + t.size + 8) n8 (catU (catU (eightF (UInt64.ofNat t.size)) 8 (chrF t)) (8 + t.size) (eightF (UInt64.ofNat a.wn))) a ha (fun zz hz => (famLs_el (l := [a, b]) (q := a) (by simp)) zz (Or.inr hz)) (show (8 + t.size + 8 + a.wn) * 1 ≤ 140737488355328 ∧ 8 + t.size + 8 + a.wn ≤ 9223372036854775807 from by have f0 : t.size ≤ 200 := ht; have f1 : a.wn ≤ 200 := han; have f2 : b.wn ≤ 200 := hbn; omega))) (sk trivial))))))) (And.intro (sk (sk (sk trivial))) (And.intro (sk (sk (And.intro (And.intro trivial (@is_len Tryd.prog 28 22 (.tmp 14) (by kernel_rfl) (some ⟨p, 0, none⟩) 2 2)) (sk trivial)))) (And.intro trivial (And.intro (@rfl Bool true) (fun (n11 n12 n13 n14 : Nat) => And.intro (sk (sk (sk (And.intro (And.intro trivial (@is_ixSl Tryd.prog 28 22 (.tmp 20) (.tmp 21) 1 (by kernel_rfl) (by kernel_rfl) p 0 2 2 1 (show 1 < 2 from by have f0 : t.size ≤ 200 := ht; have f1 : a.wn ≤ 200 := han; have f2 : b.wn ≤ 200 := hbn; omega))) (And.intro (And.intro trivial (ad p 1)) (And.intro (And.intro trivial (@is_len Tryd.prog 22 5 (.tmp 23) (by kernel_rfl) b.wa b.wn b.wc)) (And.intro (And.intro trivial (@conv_int_u64 Tryd.prog 3 34 (.tmp 24) (by kernel_rfl) (by kernel_rfl) b.wn)) (And.intro (And.intro trivial (reight_runs (UInt64.ofNat b.wn))) (And.intro (And.intro trivial (SRuns.dark [false, true] (mk_append (P := Tryd.prog) (t := 22) (ty := 22) (e := 5) (by kernel_rfl) one5 n9 (8 + t.size + 8 + a.wn) n10 n11 0 0 8 (8 + n12) u8 (catU (catU (catU (eightF (UInt64.ofNat t.size)) 8 (chrF t)) (8 + t.size) (eightF (UInt64.ofNat a.wn))) (8 + t.size + 8) a.wf) (eightF (UInt64.ofNat b.wn)) (spr (8 + n12) 8 (fun k => u8 (eightF (UInt64.ofNat b.wn) k)) (u8 0)) (spr_src) (fun _ => rfl) (show (8 + t.size + 8 + a.wn + 8) * 1 ≤ 140737488355328 ∧ 8 + t.size + 8 + a.wn + 8 ≤ 9223372036854775807 from by have f0 : t.size ≤ 200 := ht; have f1 : a.wn ≤ 200 := han; have f2 : b.wn ≤ 200 := hbn; omega)))) (sk trivial)))))))))) (fun (n15 n16 : Nat) => And.intro (sk (sk (sk (And.intro (And.intro trivial (@is_ixSl Tryd.prog 28 22 (.tmp 29) (.tmp 30) 1 (by kernel_rfl) (by kernel_rfl) p 0 2 2 1 (show 1 < 2 from by have f0 : t.size ≤ 200 := ht; have f1 : a.wn ≤ 200 := han; have f2 : b.wn ≤ 200 := hbn; omega))) (And.intro (And.intro trivial (ad p 1)) (And.intro (And.intro trivial (srunF_append_rec (P := Tryd.prog) (t := 22) (ty := 22) (e := 5) (by kernel_rfl) one5 n13 (8 + t.size + 8 + a.wn + 8) n14 (catU (catU (catU (catU (eightF (UInt64.ofNat t.size)) 8 (chrF t)) (8 + t.size) (eightF (UInt64.ofNat a.wn))) (8 + t.size + 8) a.wf) (8 + t.size + 8 + a.wn) (eightF (UInt64.ofNat b.wn))) b hb (fun zz hz => (famLs_el (l := [a, b]) (q := b) (by simp)) zz (Or.inr hz)) (show (8 + t.size + 8 + a.wn + 8 + b.wn) * 1 ≤ 140737488355328 ∧ 8 + t.size + 8 + a.wn + 8 + b.wn ≤ 9223372036854775807 from by have f0 : t.size ≤ 200 := ht; have f1 : a.wn ≤ 200 := han; have f2 : b.wn ≤ 200 := hbn; omega))) (sk trivial))))))) (And.intro (sk (sk (sk trivial))) (And.intro (sk (sk (And.intro (And.intro trivial (@is_len Tryd.prog 28 22 (.tmp 14) (by kernel_rfl) (some ⟨p, 0, none⟩) 2 2)) (sk trivial)))) (And.intro trivial (And.intro (@rfl Bool false) (And.intro (sk (sk trivial)) (And.intro trivial (@Exists.intro (List Nat) (fun (ns : List Nat) => ns.length = 2 ∧ ((Value.slice (some ⟨n15, 0, none⟩) (8 + t.size + 8 + a.wn + 8 + b.wn) (8 + t.size + 8 + a.wn + 8 + b.wn + n16)) : Value) = (fun (ns : List Nat) => (Value.slice (some ⟨(ns.getD 0 0), 0, none⟩) (8 + t.size + 8 + a.wn + 8 + b.wn) (8 + t.size + 8 + a.wn + 8 + b.wn + (ns.getD 1 0)))) ns ∧ ([some ⟨p, false, 0, (.lit [(Value.slice a.wa a.wn a.wc), (Value.slice b.wa b.wn b.wc)])⟩, some ⟨n15, true, 0, (spr (8 + t.size + 8 + a.wn + 8 + b.wn + n16) (8 + t.size + 8 + a.wn + 8 + b.wn) (fun k => u8 (catU (catU (catU (catU (catU (eightF (UInt64.ofNat t.size)) 8 (chrF t)) (8 + t.size) (eightF (UInt64.ofNat a.wn))) (8 + t.size + 8) a.wf) (8 + t.size + 8 + a.wn) (eightF (UInt64.ofNat b.wn))) (8 + t.size + 8 + a.wn + 8) b.wf k)) (u8 0))⟩] : List (Option Blk)) = (fun (ns : List Nat) => [some ⟨p, false, 0, (.lit [(Value.slice a.wa a.wn a.wc), (Value.slice b.wa b.wn b.wc)])⟩, some ⟨(ns.getD 0 0), true, 0, (spr (8 + t.size + 8 + a.wn + 8 + b.wn + (ns.getD 1 0)) (8 + t.size + 8 + a.wn + 8 + b.wn) (fun k => u8 (catU (catU (catU (catU (catU (eightF (UInt64.ofNat t.size)) 8 (chrF t)) (8 + t.size) (eightF (UInt64.ofNat a.wn))) (8 + t.size + 8) a.wf) (8 + t.size + 8 + a.wn) (eightF (UInt64.ofNat b.wn))) (8 + t.size + 8 + a.wn + 8) b.wf k)) (u8 0))⟩]) ns) [n15, n16] (And.intro (@rfl Nat 2) (And.intro (@rfl Value (Value.slice (some ⟨n15, 0, none⟩) (8 + t.size + 8 + a.wn + 8 + b.wn) (8 + t.size + 8 + a.wn + 8 + b.wn + n16))) (@rfl (List (Option Blk)) [some ⟨p, false, 0, (.lit [(Value.slice a.wa a.wn a.wc), (Value.slice b.wa b.wn b.wc)])⟩, some ⟨n15, true, 0, (spr (8 + t.size + 8 + a.wn + 8 + b.wn + n16) (8 + t.size + 8 + a.wn + 8 + b.wn) (fun k => u8 (catU (catU (catU (catU (catU (eightF (UInt64.ofNat t.size)) 8 (chrF t)) (8 + t.size) (eightF (UInt64.ofNat a.wn))) (8 + t.size + 8) a.wf) (8 + t.size + 8 + a.wn) (eightF (UInt64.ofNat b.wn))) (8 + t.size + 8 + a.wn + 8) b.wf k)) (u8 0))⟩])))))))))))))))))))))))))
theorem dtagged_2 (p : Nat) (t : ByteArray) (a b : BytL) (ht : t.size ≤ 200) (ha : OkB a) (han : a.wn ≤ 200) (hb : OkB b) (hbn : b.wn ≤ 200) : RunsF (famLs [a, b]) Tryd.prog 12 [(Value.string t), (Value.slice (some ⟨p, 0, none⟩) 2 2)] [⟨p, false, 0, (.lit [(Value.slice a.wa a.wn a.wc), (Value.slice b.wa b.wn b.wc)])⟩] 0 (fun _ => vecV 32 fun k => u8 (digOf (catU (catU (catU (catU (catU (eightF (UInt64.ofNat t.size)) 8 (chrF t)) (8 + t.size) (eightF (UInt64.ofNat a.wn))) (8 + t.size + 8) a.wf) (8 + t.size + 8 + a.wn) (eightF (UInt64.ofNat b.wn))) (8 + t.size + 8 + a.wn + 8) b.wf) (8 + t.size + 8 + a.wn + 8 + b.wn) k)) (fun _ => [none]) := by
  have h := tagged_2 p t a b ht ha han hb hbn
  rw [show sumD _ = digOf (catU (catU (catU (catU (catU (eightF (UInt64.ofNat t.size)) 8 (chrF t)) (8 + t.size) (eightF (UInt64.ofNat a.wn))) (8 + t.size + 8) a.wf) (8 + t.size + 8 + a.wn) (eightF (UInt64.ofNat b.wn))) (8 + t.size + 8 + a.wn + 8) b.wf) (8 + t.size + 8 + a.wn + 8 + b.wn) from (show Stands _ (catU (catU (catU (catU (catU (eightF (UInt64.ofNat t.size)) 8 (chrF t)) (8 + t.size) (eightF (UInt64.ofNat a.wn))) (8 + t.size + 8) a.wf) (8 + t.size + 8 + a.wn) (eightF (UInt64.ofNat b.wn))) (8 + t.size + 8 + a.wn + 8) b.wf) (8 + t.size + 8 + a.wn + 8 + b.wn) from (stands_item (UInt64.ofNat b.wn) (stands_item (UInt64.ofNat a.wn) (stands_tag (UInt64.ofNat t.size) (by omega)) (by omega)) (by omega))).sum (by omega)] at h
  exact RunsF.darkF [true] h
end Go.Proofs.YtllalpcjfnmibaaDoor
end
