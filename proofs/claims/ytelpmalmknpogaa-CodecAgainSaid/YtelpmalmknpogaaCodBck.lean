/-
  Layer 8: what is read without an error is written so alone.
-/
import Derived.Test.YtelpmalmknpogaaCodAgn
set_option linter.unusedSimpArgs false
set_option linter.unusedVariables false
set_option maxRecDepth 100000
namespace Go.Eng
theorem dig_be {f : Nat → UInt8} {n j : Nat} (hj : j < n) : dig (beN f n n) j = (f (n - 1 - j)).toNat :=
  (dig_of_num (f := fun j => (f (n - 1 - j)).toNat) (fun i _ => (f _).toNat_lt) rfl j hj).symm
theorem u8_back (x : UInt8) : UInt8.ofNat x.toNat = x := UInt8.toNat_inj.1 (by rw [UInt8.toNat_ofNat', Nat.mod_eq_of_lt x.toNat_lt])
/-- A number's bytes are the bytes that it was read from. -/
theorem nat_again {f : Nat → UInt8} {k : Nat} (hk : k < 32) : bytesF (ofN f 32) k = f k := by
  have h0 : (ofN f 32).val = beN f 32 32 := by
    show (N4.ofNat (beN f 32 32)).val = _
    rw [N4.val_ofNat, Nat.mod_eq_of_lt (Nat.lt_of_lt_of_le (beN_lt f 32 32) (by decide))]
  unfold bytesF
  rw [if_pos hk, h0, dig_be (by omega), show 32 - 1 - (31 - k) = k by omega, u8_back]
theorem smV_val {f : Nat → UInt8} (h : (f 0).toNat ≤ 8) : (smV f).toNat = beN (fun k => f (k + 1)) (f 0).toNat (f 0).toNat := by
  have h1 := add1_8 (x := f 0) (by omega)
  unfold smV
  rw [h1, show 1 + (f 0).toNat - 1 = (f 0).toNat by omega]
  have hlt : beN (fun k => f (k + 1)) (f 0).toNat (f 0).toNat < 2 ^ 64 := Nat.lt_of_lt_of_le (beN_lt _ _ _) (by rw [pow256]; exact Nat.pow_le_pow_right (by omega) (by omega))
  have h2 : (ofN (fun k => f (k + 1)) (f 0).toNat) = N4.ofNat (beN (fun k => f (k + 1)) (f 0).toNat (f 0).toNat) := by
    unfold ofN
    rw [show decide (32 < (f 0).toNat) = false from decide_eq_false (by omega)]
  have h3 : (N4.ofNat (beN (fun k => f (k + 1)) (f 0).toNat (f 0).toNat)).val = beN (fun k => f (k + 1)) (f 0).toNat (f 0).toNat := by
    rw [N4.val_ofNat, Nat.mod_eq_of_lt (Nat.lt_trans hlt (by decide))]
  rw [h2]
  generalize N4.ofNat (beN (fun k => f (k + 1)) (f 0).toNat (f 0).toNat) = a at h3
  have ha := a.a.toNat_lt
  unfold N4.val at h3
  omega
theorem szU_smV {f : Nat → UInt8} (h : (f 0).toNat ≤ 8) (h1 : ¬ (0 < (f 0).toNat ∧ (f 1 == 0) = true)) : szU (smV f) = (f 0).toNat := by
  have hv := smV_val h
  have hlt : (smV f).toNat < 256 ^ (f 0).toNat := by rw [hv]; exact beN_lt _ _ _
  have hl := szU_lt (smV f)
  rcases Nat.lt_trichotomy (szU (smV f)) (f 0).toNat with h2 | h2 | h2
  · exfalso
    obtain ⟨s, hs⟩ : ∃ s, (f 0).toNat = s + 1 := ⟨(f 0).toNat - 1, by omega⟩
    have h3 : 1 ≤ (f 1).toNat := by
      rcases Nat.eq_zero_or_pos (f 1).toNat with h4 | h4
      · exact absurd ⟨by omega, by rw [beq_iff_eq]; exact UInt8.toNat_inj.1 h4⟩ h1
      · exact h4
    have h5 : 256 ^ s ≤ (smV f).toNat := by
      rw [hv, hs]
      show 256 ^ s ≤ numOf (fun j => (f (s + 1 - 1 - j + 1)).toNat) (s + 1)
      simp only [numOf]
      rw [show s + 1 - 1 - s + 1 = 1 by omega]
      have h6 : 1 * 256 ^ s ≤ (f 1).toNat * 256 ^ s := Nat.mul_le_mul_right _ h3
      omega
    have h6 : 256 ^ szU (smV f) ≤ 256 ^ s := Nat.pow_le_pow_right (by omega) (by omega)
    omega
  · exact h2
  · exfalso
    have h3 := szU_ge (x := smV f) (by omega)
    have h4 : 256 ^ (f 0).toNat ≤ 256 ^ (szU (smV f) - 1) := Nat.pow_le_pow_right (by omega) (by omega)
    omega
theorem small_again {f : Nat → UInt8} (h : (f 0).toNat ≤ 8) (h1 : ¬ (0 < (f 0).toNat ∧ (f 1 == 0) = true)) : smN (smV f) = (f 0).toNat + 1 ∧ ∀ k, k < smN (smV f) → smB (smV f) k = f k := by
  have hz := szU_smV h h1
  refine ⟨by unfold smN; rw [hz], fun k hk => ?_⟩
  unfold smN at hk
  rcases Nat.eq_zero_or_pos k with h0 | h0
  · subst h0
    unfold smB
    rw [if_pos rfl, hz, u8_back]
  · rw [smB_dig _ h0 (by omega), hz, smV_val h, dig_be (by omega), show (f 0).toNat - 1 - ((f 0).toNat - k) + 1 = k by omega, u8_back]
/-- What a question read, and what it is written as: so long as there is no error. -/
def AgS (Q Q' : BytL) (E E' : Int) (n : Nat) (g : Nat → UInt8) : Prop := E' = 0 → E = 0 ∧ n + Q'.wn = Q.wn ∧ (∀ k, k < n → g k = Q.wf k) ∧ ∀ k, Q'.wf k = Q.wf (n + k)
theorem ag_small (Q : BytL) (E : Int) (x : UInt64) : AgS Q (rsQ Q E x) E (rsE Q E x) (smN (rsV Q E x)) (smB (rsV Q E x)) := fun h => by
  obtain ⟨h1, h2⟩ := failE_zero h
  obtain ⟨a, b, c, d, _, e⟩ := wrE_zero h2
  obtain ⟨e1, e2⟩ := rs_in h
  obtain ⟨g1, g2⟩ := small_again b e
  rw [e1, e2, d]
  refine ⟨h1, ?_, g2, fun k => ?_⟩
  · rw [g1]; show _ + (Q.wn - _) = _; omega
  · rw [g1]; show Q.wf (k + _) = _; congr 1; omega
theorem ag_take {Q : BytL} {E : Int} {n : Nat} {g : Nat → UInt8} (hg : E = 0 → ∀ k, k < n → g k = Q.wf k) : AgS Q (tkQ Q E n) E (tkE Q E n) n g := fun h => by
  obtain ⟨h1, h2⟩ := tkE_zero h
  rw [tk_in h]
  refine ⟨h1, ?_, hg h1, fun k => ?_⟩
  · show _ + (Q.wn - n) = _; omega
  · show Q.wf (k + n) = _; congr 1; omega
theorem ag_nat (Q : BytL) (E : Int) : AgS Q (tkQ Q E 32) E (tkE Q E 32) 32 (bytesF (rnV Q E)) := fun h => ag_take (g := bytesF (rnV Q E)) (fun _ k hk => by rw [rn_in h]; exact nat_again hk) h
theorem ag_cat {Q Q1 Q2 : BytL} {E E1 E2 : Int} {n m : Nat} {f g : Nat → UInt8} (h1 : AgS Q Q1 E E1 n f) (h2 : AgS Q1 Q2 E1 E2 m g) : AgS Q Q2 E E2 (n + m) (catU f n g) := fun h => by
  obtain ⟨a1, a2, a3, a4⟩ := h2 h
  obtain ⟨b1, b2, b3, b4⟩ := h1 a1
  refine ⟨b1, by omega, fun k hk => ?_, fun k => by rw [a4, b4, Nat.add_assoc]⟩
  unfold catU
  by_cases h5 : k < n
  · rw [if_pos h5]; exact b3 k h5
  · rw [if_neg h5, a3 _ (by omega), b4, show n + (k - n) = k by omega]
theorem ctE1_zero {e m : Int} (h : ctE1 e m = 0) : e = 0 := by
  unfold ctE1 at h
  by_cases h1 : m < 0
  · rw [if_pos h1] at h; exact (failE_zero h).1
  · rw [if_neg h1] at h; exact h
theorem ag_count (Q : BytL) (E m : Int) {z : Nat} : AgS Q (ctQ Q E m) E (ctE Q E m z) (smN (UInt64.ofNat (ctN Q E m z))) (smB (UInt64.ofNat (ctN Q E m z))) := fun h => by
  by_cases h1 : (rsQ Q (ctE1 E m) (u64i m)).wn / z < (rsV Q (ctE1 E m) (u64i m)).toNat
  · rw [(ct_in h1).1] at h
    exact absurd (failE_zero h).2 (by decide)
  · obtain ⟨e1, e2⟩ := ct_out h1
    rw [e1] at h
    have h2 := ag_small Q (ctE1 E m) (u64i m) h
    rw [e2, UInt64.ofNat_toNat]
    exact ⟨ctE1_zero h2.1, h2.2⟩
theorem ag_bytes (Q : BytL) (E m : Int) : AgS Q (rbQ Q E m) E (rbE Q E m) (byN (rbN Q E m)) (byB (ctQ Q E m).wf (rbN Q E m)) := fun h => by
  rw [(rb_good h).1]
  exact ag_cat (ag_count Q E m (z := 1)) (ag_take (g := (ctQ Q E m).wf) fun _ _ _ => rfl) h
theorem ag_bytes0 {Q : BytL} {E m : Int} (h0 : rbN Q E m = 0) : AgS Q (rbQ Q E m) E (rbE Q E m) (byN 0) (byB (fun _ => 0) 0) := fun h => by
  obtain ⟨a1, a2, a3, a4⟩ := ag_bytes Q E m h
  rw [h0] at a2 a3 a4
  refine ⟨a1, a2, fun k hk => ?_, a4⟩
  rw [← a3 k hk]
  unfold byN at hk
  unfold byB catU
  rw [if_pos (by omega), if_pos (by omega)]
def nsB (q : BytL) (e : Int) (k : Nat) : Nat → UInt8 := nbF (fun _ => 0) 0 (nsV q e) k
theorem ag_ns (Q : BytL) (E : Int) : ∀ k, AgS Q (nsE Q E k).1 E (nsE Q E k).2 (32 * k) (nsB Q E k)
  | 0 => fun h => ⟨h, by show 32 * 0 + Q.wn = _; omega, fun k hk => absurd hk (by omega), fun k => by show Q.wf k = _; rw [show 32 * 0 + k = k by omega]⟩
  | k + 1 => by
    have h := ag_cat (ag_ns Q E k) (ag_nat (nsE Q E k).1 (nsE Q E k).2)
    have e : nsB Q E (k + 1) = catU (nsB Q E k) (32 * k) (bytesF (rnV (nsE Q E k).1 (nsE Q E k).2)) := by
      show catU (nsB Q E k) (0 + 32 * k) _ = _
      rw [Nat.zero_add]; rfl
    rw [e, show 32 * (k + 1) = 32 * k + 32 by omega]
    exact h
theorem ag_nats (Q : BytL) (E m : Int) : AgS Q (rsQ2 Q E m) E (rsE2 Q E m) (nwN (ctN Q E m 32)) (nwB (rsF Q E m) (ctN Q E m 32)) := fun h => by
  obtain ⟨a1, a2, a3, a4⟩ := ag_cat (ag_count Q E m (z := 32)) (ag_ns (ctQ Q E m) (ctE Q E m 32) (ctN Q E m 32)) h
  refine ⟨a1, a2, fun k hk => ?_, a4⟩
  rw [← a3 k hk]
  unfold nwN at hk
  unfold nwB catU
  by_cases h1 : k < smN (UInt64.ofNat (ctN Q E m 32))
  · rw [if_pos h1, if_pos h1]
  · rw [if_neg h1, if_neg h1]
    unfold nsB
    rw [nbF_at _ _ _ _ _ (by omega), if_neg (by omega), Nat.sub_zero]
    unfold rsF nsG
    rw [if_pos (by omega)]
/-- What stands behind some questions. -/
structure AgI (b Q : BytL) (E : Int) (A : Grw UInt8) : Prop where
  z : A.z = true → A.n = 0
  g : A.z = false → 0 < A.n
  s : E = 0 → A.n + Q.wn = b.wn ∧ (∀ k, k < A.n → A.f k = b.wf k) ∧ ∀ k, k < Q.wn → Q.wf k = b.wf (A.n + k)
theorem ag_own {b Q Q' : BytL} {E E' : Int} {A : Grw UInt8} {n nm r : Nat} {g : Nat → UInt8} (h : AgI b Q E A) (hn : 0 < n) (hs : AgS Q Q' E E' n g) : AgI b Q' E' ⟨false, nm, A.n + n, r, catU A.f A.n g⟩ := by
  refine ⟨fun h0 => (by cases h0), fun _ => (by show 0 < A.n + n; omega), fun he => ?_⟩
  obtain ⟨a1, a2, a3, a4⟩ := hs he
  obtain ⟨b1, b2, b3⟩ := h.s a1
  refine ⟨by show A.n + n + Q'.wn = _; omega, fun k hk => ?_, fun k hk => by rw [a4, b3 _ (by omega), Nat.add_assoc]⟩
  show catU A.f A.n g k = _
  have hk : k < A.n + n := hk
  unfold catU
  by_cases h5 : k < A.n
  · rw [if_pos h5]; exact b2 k h5
  · rw [if_neg h5, a3 _ (by omega), b3 _ (by omega), show A.n + (k - A.n) = k by omega]
theorem ag_nil {b Q Q' : BytL} {E E' : Int} {A : Grw UInt8} {n nm r : Nat} {g : Nat → UInt8} (h : AgI b Q E A) (hz : A.z = true) (hn : 0 < n) (hs : AgS Q Q' E E' n g) : AgI b Q' E' ⟨false, nm, n, r, g⟩ := by
  have h1 := ag_own (nm := nm) (r := r) h hn hs
  rw [h.z hz, Nat.zero_add, catU_nil] at h1
  exact h1
theorem ag_init (b : BytL) (Q : BytL) (h : Q.wn = b.wn) (hf : ∀ k, k < Q.wn → Q.wf k = b.wf k) : AgI b Q 0 ⟨true, 0, 0, 0, fun _ => 0⟩ :=
  ⟨fun _ => rfl, fun h => (by cases h), fun _ => ⟨by show 0 + Q.wn = _; omega, fun k hk => absurd hk (Nat.not_lt_zero k), fun k hk => by rw [hf k hk]; show _ = b.wf (0 + k); rw [Nat.zero_add]⟩⟩
theorem ag_end {b Q : BytL} {E : Int} {A : Grw UInt8} (h : AgI b Q E A) (he : endE Q.wn E = 0) : sameS b.wf b.wn A.f A.n = true := by
  unfold endE at he
  by_cases h1 : E = 0 ∧ 0 < Q.wn
  · rw [if_pos h1] at he; exact absurd he (by decide)
  · rw [if_neg h1] at he
    obtain ⟨a1, a2, a3⟩ := h.s he
    exact (same_yes (i := b.wn) (by omega) rfl fun k hk => (a2 k (by omega)).symm).symm
theorem ag_end0 {b Q : BytL} {E : Int} {A : Grw UInt8} (h : AgI b Q E A) (hz : A.z = true) (he : endE Q.wn E = 0) : sameS b.wf b.wn (fun _ => 0) 0 = true := by
  have h1 := ag_end h he
  unfold sameS at h1
  rw [decide_eq_true_eq, h.z hz] at h1
  exact decide_eq_true ⟨h1.1, fun k hk => absurd hk (by omega)⟩
end Go.Eng
namespace Go.Eng
theorem rbN_le (q : BytL) (e m : Int) : rbN q e m ≤ q.wn := by
  have h := ctN_le q e m (z := 1) (by decide)
  have h2 := ctQ_wn q e m
  unfold rbN
  split <;> omega
theorem ctN_g (q : BytL) (e m : Int) (z : Nat) : ctN q e m z * z ≤ q.wn := by
  have h2 := ctQ_wn q e m
  rcases Nat.eq_zero_or_pos z with h0 | h0
  · subst h0; omega
  · have h := ctN_le q e m (z := z) h0
    omega
theorem ag_fin {e : Int} {s : Bool} (h : e = 0 → s = true) : selB (e != 0) true s = true := by
  by_cases h0 : e = 0
  · rw [h h0]; cases (e != 0) <;> rfl
  · have h1 : (e != 0) = true := by simp [h0]
    rw [h1]; rfl
theorem ag_end1 {f g : Nat → UInt8} {n : Nat} (h : endE n 0 = 0) : sameS f n g 0 = true := by
  unfold endE at h
  by_cases h1 : 0 < n
  · rw [if_pos ⟨rfl, h1⟩] at h; exact absurd h (by decide)
  · exact decide_eq_true ⟨by omega, fun k hk => absurd hk (by omega)⟩
end Go.Eng
namespace Go.Eng
theorem ag_fin2 {e : Int} {s : Bool} (h : e = 0 → s = true) : selB true (selB (e != 0) true s) false = true := ag_fin h
theorem ag_end2 {f g : Nat → UInt8} {n : Nat} (h : n = 0) : sameS f n g 0 = true := decide_eq_true ⟨h, fun k hk => absurd hk (by omega)⟩
theorem sz_own {a i n : Nat} (h : a ≤ 3000 * i) (hn : n ≤ 3000) : a + n ≤ 3000 * (i + 1) := by omega
theorem sz_nil {i n : Nat} (hn : n ≤ 3000) : n ≤ 3000 * (i + 1) := by omega
theorem smN_3 (x : UInt64) : smN x ≤ 3000 := Nat.le_trans (smN_rng x).2 (by decide)
theorem byN_3 {q : BytL} (e m : Int) (h : q.wn ≤ 2000) : byN (rbN q e m) ≤ 3000 := by
  have h1 := rbN_le q e m
  have h2 := byN_rng (rbN q e m)
  omega
theorem byN_30 : byN 0 ≤ 3000 := by have h2 := byN_rng 0; omega
theorem nwN_3 {q : BytL} (e m : Int) (h : q.wn ≤ 2000) : nwN (ctN q e m 32) ≤ 3000 := by
  have h1 := ctN_g q e m 32
  have h2 := nwN_rng (ctN q e m 32)
  omega
end Go.Eng
namespace Go.Eng
theorem n32_3 : 32 ≤ 3000 := by decide
end Go.Eng
