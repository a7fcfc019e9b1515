/-
  Many in one: GsU8, CodG, CodWg, CodBck, CodFwd.
-/
import Derived.Test.YtelpmalmknpogaaZCodecBack9
section
namespace Go.Eng
open Go.RowKit Go.WideShapes Go.ChangeShapes Go.ChangeAt Go.Deep
set_option linter.unusedSimpArgs false
set_option linter.unusedVariables false
set_option maxRecDepth 100000
theorem catU_zero (f g : Nat → UInt8) : catU f 0 g = g := by funext k; unfold catU; rw [if_neg (by omega)]; rfl
def u8C (x : UInt8) : List Value := [u8 x]
theorem u8C_ok (x : UInt8) : (u8C x).length = 1 ∧ (u8C x).all Value.oneCell' = true := ⟨rfl, rfl⟩
theorem gsE_u8 (A : Grw UInt8) : gsE u8C [u8 0] 1 A = grO u8 (u8 0) A := by
  unfold gsE grO
  cases A.z with
  | true => rfl
  | false =>
    simp only
    congr 2
    unfold sprE spr tabF
    congr 1
    funext k
    by_cases h : k < A.n
    · show _ = [if k < A.n then u8 (A.f k) else u8 0]
      rw [if_pos h, if_pos h]; rfl
    · show _ = [if k < A.n then u8 (A.f k) else u8 0]
      rw [if_neg h, if_neg h]
theorem gs_src {α : Type} {C : α → List Value} {zc : List Value} {sz : Nat} (A : Grw α) (hA : A.ok) (hsz : 0 < sz) (hC : ∀ a, (C a).length = sz) (hz : zc.length = sz) :
    0 < A.n → ∃ k bo os S, gsA A = some ⟨k, bo + os, none⟩ ∧ roO (gsE C zc sz A) = some ⟨k, false, bo, S⟩ ∧ ∀ j, j < A.n * sz → S.get (os + j) = some (cf sz (fun k => C (A.f k)) j) := fun h0 => by
  have hz' := hA.pos h0
  refine ⟨A.nm, 0, 0, sprE sz (A.n + A.r) A.n (fun k => C (A.f k)) zc, gsA_own hz', by rw [gsE_own hz']; rfl, fun j hj => ?_⟩
  have h1 : j < (A.n + A.r) * sz := by rw [Nat.add_mul]; omega
  rw [Nat.zero_add]
  unfold sprE
  rw [tabE_in hsz (fun k _ => by split; exact hC _; exact hz) h1, cf_spr_lt hj]
theorem app_one {P : Program} {t ty e : TypeId} (ht : P.underlying t = some (.slice e)) (h1 : AggC P e [u8 0] 1 1) (b : Nat) (x : UInt8) (D : Grw UInt8) (hD : D.ok) (hb : D.n + 1 ≤ 140737488355328) :
    SRunsO P (appendSem t ty (.slice (some ⟨b, 0, none⟩) 1 1) (gsV D)) [some ⟨b, true, 0, .lit [u8 x]⟩, roO (gsE u8C [u8 0] 1 D)] 2 (fun ns => gsV (⟨false, ns.getD 0 0, 1 + D.n, ns.getD 1 0, catU (fun _ => x) 1 D.f⟩ : Grw UInt8)) (fun ns => [gsE u8C [u8 0] 1 (⟨false, ns.getD 0 0, 1 + D.n, ns.getD 1 0, catU (fun _ => x) 1 D.f⟩ : Grw UInt8), none]) := by
  have h := mkG_catE (P := P) (t := t) (ty := ty) (e := e) ht h1 (⟨false, b, 1, 0, fun _ => x⟩ : Grw UInt8) (fun h => by cases h) (C := u8C) (fun _ => ⟨rfl, rfl⟩) D.f D.n (gsA D) (gsC D) (roO (gsE u8C [u8 0] 1 D)) (gs_src D hD (by decide) (fun _ => rfl) rfl) (show (1 + D.n) * 1 ≤ 140737488355328 ∧ 1 + D.n ≤ 9223372036854775807 by omega)
  have e0 : ∀ a r, Grw.cat (⟨false, b, 1, 0, fun _ => x⟩ : Grw UInt8) D.n D.f a r = ⟨false, a, 1 + D.n, r, catU (fun _ => x) 1 D.f⟩ := fun a r => by
    unfold Grw.cat
    rw [Bool.and_false]
  simp only [e0] at h
  refine h.as ?_ id fun ns hns => ⟨hns, rfl, .refl _, ?_⟩
  · refine .kp _ _ ⟨fun _ h => h, rfl, fun w hw => hw.recont (b := ⟨b, true, 0, .lit [u8 x]⟩) rfl fun o v hv => ?_⟩ (.refl _)
    by_cases ho : o < 1
    · have h0 : o = 0 := by omega
      subst h0
      exact hv
    · have : (sprE 1 (1 + 0) 1 (fun k => u8C ((fun _ => x) k)) [u8 0]).get o = none := tabE_out (by omega)
      rw [this] at hv; cases hv
  · exact ⟨rfl, trivial⟩
end Go.Eng
end
section
set_option linter.unusedSimpArgs false
set_option linter.unusedVariables false
set_option maxRecDepth 100000
namespace Go.Eng
theorem gsE_own8 {n a r : Nat} {f : Nat → UInt8} : gsE u8C [u8 0] 1 (⟨false, a, n, r, f⟩ : Grw UInt8) = some ⟨a, true, 0, spr (n + r) n (fun k => u8 (f k)) (u8 0)⟩ := by rw [gsE_u8]; rfl
theorem wr_G {F : Blk → Prop} {P : Program} {k : FuncId} {args : List Value} {w : Nat} (W : Grw UInt8) (hW : W.ok) {m : Nat} {h : Nat → UInt8} (hm : 0 < m)
    (hown : W.z = false → RunsF F P k args [⟨w, true, 0, .lit [.slice (some ⟨W.nm, 0, none⟩) W.n (W.n + W.r)]⟩, ⟨W.nm, true, 0, spr (W.n + W.r) W.n (fun k => u8 (W.f k)) (u8 0)⟩] 2 (fun _ => .tuple #[]) (fun ns => [some ⟨w, true, 0, .lit [.slice (some ⟨ns.getD 0 0, 0, none⟩) (W.n + m) (W.n + m + ns.getD 1 0)]⟩, some ⟨ns.getD 0 0, true, 0, spr (W.n + m + ns.getD 1 0) (W.n + m) (fun k => u8 (catU W.f W.n h k)) (u8 0)⟩]))
    (hnil : RunsF F P k args [⟨w, true, 0, .lit [.slice none 0 0]⟩] 2 (fun _ => .tuple #[]) (fun ns => [some ⟨w, true, 0, .lit [.slice (some ⟨ns.getD 0 0, 0, none⟩) m (m + ns.getD 1 0)]⟩, some ⟨ns.getD 0 0, true, 0, spr (m + ns.getD 1 0) m (fun k => u8 (h k)) (u8 0)⟩])) :
    RunsO F P k args [some ⟨w, true, 0, .lit [gsV W]⟩, gsE u8C [u8 0] 1 W] 2 (fun _ => .tuple #[]) (fun ns => [some ⟨w, true, 0, .lit [gsV (W.cat m h (ns.getD 0 0) (ns.getD 1 0))]⟩, gsE u8C [u8 0] 1 (W.cat m h (ns.getD 0 0) (ns.getD 1 0))]) := by
  have hz : ∀ a r, W.cat m h a r = ⟨false, a, W.n + m, r, catU W.f W.n h⟩ := fun a r => by
    unfold Grw.cat; rw [decide_eq_false (by omega), Bool.false_and]
  simp only [hz, gsE_own8]
  cases hc : W.z with
  | false =>
    have h1 := (hown hc).toO
    rw [gsV_own hc, show gsE u8C [u8 0] 1 W = some ⟨W.nm, true, 0, spr (W.n + W.r) W.n (fun k => u8 (W.f k)) (u8 0)⟩ from by rw [gsE_u8]; unfold grO; rw [hc]]
    exact h1
  | true =>
    have hn := hW hc
    have h1 := hnil.toO
    rw [gsV_nil hc hW, gsE_nil hc, hn]
    refine h1.as (.cons _ (.zz _)) id fun ns hns => ⟨hns, rfl, ?_, ⟨rfl, rfl, trivial⟩⟩
    simp only [id, Nat.zero_add, catU_zero]
    exact .refl _
end Go.Eng
namespace Go.Eng
end Go.Eng
namespace Go.Eng
theorem gsE_ownG {A : Grw UInt8} {b : Blk} (h : gsE u8C [u8 0] 1 A = some b) : b.own = true := by
  unfold gsE at h
  cases hz : A.z with
  | true => rw [hz] at h; cases h
  | false => rw [hz] at h; injection h with h; rw [← h]
def reB (A : Grw UInt8) (n : Nat) (f : Nat → UInt8) : Grw UInt8 := ⟨A.z, A.nm, n, A.r, f⟩
theorem reB_ok {A : Grw UInt8} (h : A.ok) {n : Nat} {f : Nat → UInt8} (hn : n = A.n) : (reB A n f).ok := by subst hn; exact h
theorem reB_V {A : Grw UInt8} {n : Nat} {f : Nat → UInt8} (hn : n = A.n) : gsV A = gsV (reB A n f) := by subst hn; rfl
theorem reB_B {A : Grw UInt8} {n : Nat} {f : Nat → UInt8} (hn : n = A.n) (h : ∀ k, k < A.n → f k = A.f k) : gsE u8C [u8 0] 1 A = gsE u8C [u8 0] 1 (reB A n f) := by
  subst hn; exact (gsE_row (A := A) (A' := reB A A.n f) rfl rfl rfl rfl h).symm
end Go.Eng
end
section
namespace Go.Proofs.Ytelpmalmknpogaa
open Go Go.Eng
set_option linter.unusedVariables false
set_option linter.unusedSimpArgs false
set_option maxRecDepth 100000
set_option maxHeartbeats 1000000
theorem wsmall_G {F : Blk → Prop} (w : Nat) (W : Grw UInt8) (hW : W.ok) (x : UInt64) (hn : W.n ≤ 60000) : RunsO F Try.prog 19 [ptr w 0, u64 x] [some ⟨w, true, 0, .lit [gsV W]⟩, gsE u8C [u8 0] 1 W] 2 (fun _ => .tuple #[]) (fun ns => [some ⟨w, true, 0, .lit [gsV (W.cat (smN x) (smB x) (ns.getD 0 0) (ns.getD 1 0))]⟩, gsE u8C [u8 0] 1 (W.cat (smN x) (smB x) (ns.getD 0 0) (ns.getD 1 0))]) :=
  wr_G W hW (m := smN x) (h := smB x) (by have := smN_rng x; omega) (fun _ => (wsmall_own w W.nm W.n W.r W.f x (by omega)).toF) (wsmall_nil w x).toF
theorem wnat_G {F : Blk → Prop} (w : Nat) (W : Grw UInt8) (hW : W.ok) (a : N4) (hn : W.n ≤ 60000) : RunsO F Try.prog 20 [ptr w 0, nat4 a] [some ⟨w, true, 0, .lit [gsV W]⟩, gsE u8C [u8 0] 1 W] 2 (fun _ => .tuple #[]) (fun ns => [some ⟨w, true, 0, .lit [gsV (W.cat (32) (bytesF a) (ns.getD 0 0) (ns.getD 1 0))]⟩, gsE u8C [u8 0] 1 (W.cat (32) (bytesF a) (ns.getD 0 0) (ns.getD 1 0))]) :=
  wr_G W hW (m := 32) (h := bytesF a) (by decide) (fun _ => (wnat_own w W.nm W.n W.r W.f a (by omega)).toF) (wnat_nil w a).toF
theorem wbytes_G {F : Blk → Prop} (w : Nat) (W : Grw UInt8) (hW : W.ok) (q : BytL) (hq : OkB q) (hl : q.wn ≤ 100000) (hn : W.n ≤ 60000) : RunsO (famB q) Try.prog 21 [ptr w 0, .slice q.wa q.wn q.wc] [some ⟨w, true, 0, .lit [gsV W]⟩, gsE u8C [u8 0] 1 W] 2 (fun _ => .tuple #[]) (fun ns => [some ⟨w, true, 0, .lit [gsV (W.cat (byN q.wn) (byB q.wf q.wn) (ns.getD 0 0) (ns.getD 1 0))]⟩, gsE u8C [u8 0] 1 (W.cat (byN q.wn) (byB q.wf q.wn) (ns.getD 0 0) (ns.getD 1 0))]) :=
  wr_G W hW (m := byN q.wn) (h := byB q.wf q.wn) (by have := byN_rng q.wn; omega) (fun _ => wbytes_own w W.nm W.n W.r W.f q (by omega) hq hl) (wbytes_nil w q hq hl)
end Go.Proofs.Ytelpmalmknpogaa
end
section
set_option linter.unusedSimpArgs false
set_option linter.unusedVariables false
set_option maxRecDepth 100000
namespace Go.Eng
theorem smV_val {f : Nat → UInt8} (h : (f 0).toNat ≤ 8) : (smV f).toNat = beN (fun k => f (k + 1)) (f 0).toNat (f 0).toNat := by
  have h1 := add1_8 (x := f 0) (by omega)
  unfold smV
  rw [h1, show 1 + (f 0).toNat - 1 = (f 0).toNat by omega]
  have hlt : beN (fun k => f (k + 1)) (f 0).toNat (f 0).toNat < 2 ^ 64 := Nat.lt_of_lt_of_le (beN_lt _ _ _) (by rw [pow256]; exact Nat.pow_le_pow_right (by omega) (by omega))
  have h2 : (ofN (fun k => f (k + 1)) (f 0).toNat) = N4.ofNat (beN (fun k => f (k + 1)) (f 0).toNat (f 0).toNat) := by
    unfold ofN
    rw [show decide (32 < (f 0).toNat) = false from decide_eq_false (by omega)]
  have h3 : (N4.ofNat (beN (fun k => f (k + 1)) (f 0).toNat (f 0).toNat)).val = beN (fun k => f (k + 1)) (f 0).toNat (f 0).toNat := by
    rw [N4.val_ofNat, Nat.mod_eq_of_lt (Nat.lt_trans hlt (by decide))]
  rw [h2]
  generalize N4.ofNat (beN (fun k => f (k + 1)) (f 0).toNat (f 0).toNat) = a at h3
  have ha := a.a.toNat_lt
  unfold N4.val at h3
  omega
end Go.Eng
namespace Go.Eng
end Go.Eng
namespace Go.Eng
end Go.Eng
namespace Go.Eng
end Go.Eng
end
section
set_option linter.unusedSimpArgs false
set_option linter.unusedVariables false
set_option maxRecDepth 100000
namespace Go.Eng
theorem smB_0 (x : UInt64) : (smB x 0).toNat = szU x := by
  have := szU_le x
  unfold smB
  rw [if_pos rfl, UInt8.toNat_ofNat', Nat.mod_eq_of_lt (by omega)]
theorem smB_1 {x : UInt64} (h : 0 < szU x) : 0 < (smB x 1).toNat := by
  rw [smB_dig x (by omega) (by omega), UInt8.toNat_ofNat', Nat.mod_eq_of_lt (dig_lt _ _)]
  have h1 := szU_ge (x := x) (by omega)
  have h2 := szU_lt x
  unfold dig
  have hp : 0 < 256 ^ (szU x - 1) := Nat.pow_pos (by omega)
  have h3 : 1 ≤ x.toNat / 256 ^ (szU x - 1) := (Nat.le_div_iff_mul_le hp).2 (by omega)
  have h4 : x.toNat / 256 ^ (szU x - 1) < 256 := by
    rw [Nat.div_lt_iff_lt_mul hp, Nat.mul_comm, ← Nat.pow_succ]
    show _ < 256 ^ (szU x - 1 + 1)
    rw [show szU x - 1 + 1 = szU x by omega]
    exact h2
  rw [Nat.mod_eq_of_lt h4]
  omega
theorem small_back {x : UInt64} {f : Nat → UInt8} {n : Nat} {l : UInt64} (hf : ∀ k, k < smN x → f k = smB x k) (hn : smN x ≤ n) (hl : ¬ l < x) : wrE f n l = 0 ∧ smV f = x ∧ (1 + f 0).toNat = smN x := by
  have hz := szU_le x
  have h0 : (f 0).toNat = szU x := by rw [hf 0 (smN_rng x).1, smB_0]
  have hs : smN x = szU x + 1 := rfl
  have hv : smV f = x := UInt64.toNat_inj.1 (by
    rw [smV_val (by omega), h0]
    have h1 : beN (fun k => f (k + 1)) (szU x) (szU x) = numOf (dig x.toNat) (szU x) := numOf_congr fun j hj => by
      show (f (szU x - 1 - j + 1)).toNat = _
      rw [hf _ (by omega), smB_dig x (by omega) (by omega), UInt8.toNat_ofNat', Nat.mod_eq_of_lt (dig_lt _ _), show szU x - (szU x - 1 - j + 1) = j by omega]
    rw [h1, numOf_dig, Nat.mod_eq_of_lt (szU_lt x)])
  refine ⟨(wr_0 (by omega) (by omega) ?_ (by rw [hv]; exact hl)).symm, hv, by rw [add1_8 (by omega)]; omega⟩
  rintro (h1 | ⟨h1, h2⟩)
  · omega
  · have h3 := smB_1 (x := x) (by omega)
    rw [← hf 1 (by omega)] at h3
    rw [beq_iff_eq] at h2
    rw [h2] at h3
    exact absurd h3 (by decide)
theorem small_short {x : UInt64} {f : Nat → UInt8} {n : Nat} {l : UInt64} (hf : ∀ k, k < n → f k = smB x k) (hn : n < smN x) : wrE f n l = 3 := by
  have hz := szU_le x
  have hs : smN x = szU x + 1 := rfl
  refine (wr_3 ?_).symm
  rcases Nat.eq_zero_or_pos n with h0 | h0
  · exact .inl h0
  · have h1 : (f 0).toNat = szU x := by rw [hf 0 h0, smB_0]
    exact .inr ⟨by omega, by omega⟩
def FwS (Q Q' : BytL) (E' : Int) (n : Nat) (V : Prop) : Prop := (n ≤ Q.wn ∧ E' = 0 ∧ Q'.wn + n = Q.wn ∧ (∀ k, Q'.wf k = Q.wf (n + k)) ∧ V) ∨ (Q.wn < n ∧ E' = 3)
def At (Q : BytL) (n : Nat) (g : Nat → UInt8) : Prop := ∀ k, k < n → k < Q.wn → Q.wf k = g k
theorem fw_small {Q : BytL} {x l : UInt64} (h : At Q (smN x) (smB x)) (hl : ¬ l < x) : FwS Q (rsQ Q 0 l) (rsE Q 0 l) (smN x) (rsV Q 0 l = x) := by
  rcases Nat.lt_or_ge Q.wn (smN x) with h1 | h1
  · exact .inr ⟨h1, by show failE 0 _ = 3; rw [show failE 0 (wrE Q.wf Q.wn l) = wrE Q.wf Q.wn l from if_pos rfl]; exact small_short (fun k hk => h k (by omega) hk) h1⟩
  · obtain ⟨a, b, c⟩ := small_back (f := Q.wf) (n := Q.wn) (l := l) (fun k hk => h k hk (by omega)) h1 hl
    have hE : rsE Q 0 l = 0 := by show failE 0 _ = 0; rw [a]; rfl
    obtain ⟨e1, e2⟩ := rs_in hE
    rw [e1, e2, c]
    refine .inl ⟨h1, hE, ?_, fun k => ?_, b⟩
    · show Q.wn - smN x + smN x = _; omega
    · show Q.wf (k + smN x) = _; rw [Nat.add_comm]
theorem beN_congr {f g : Nat → UInt8} {n : Nat} (h : ∀ k, k < n → f k = g k) : beN f n n = beN g n n := numOf_congr fun j hj => by
  show (f (n - 1 - j)).toNat = (g (n - 1 - j)).toNat
  rw [h _ (by omega)]
theorem ofN_congr {f : Nat → UInt8} {a : N4} (h : ∀ k, k < 32 → f k = bytesF a k) : ofN f 32 = a := by
  rw [← ofN_bytes a]
  show N4.ofNat (beN f 32 32) = N4.ofNat (beN (bytesF a) 32 32)
  rw [beN_congr h]
theorem fw_take {Q : BytL} {n : Nat} {V : Prop} (hV : n ≤ Q.wn → V) : FwS Q (tkQ Q 0 n) (tkE Q 0 n) n V := by
  rcases Nat.lt_or_ge Q.wn n with h1 | h1
  · exact .inr ⟨h1, by unfold tkE; rw [if_pos h1]; rfl⟩
  · have hE : tkE Q 0 n = 0 := by unfold tkE; rw [if_neg (by omega)]
    rw [tk_in hE]
    refine .inl ⟨h1, hE, ?_, fun k => ?_, hV h1⟩
    · show Q.wn - n + n = _; omega
    · show Q.wf (k + n) = _; rw [Nat.add_comm]
theorem fw_nat {Q : BytL} {a : N4} (h : At Q 32 (bytesF a)) : FwS Q (tkQ Q 0 32) (tkE Q 0 32) 32 (rnV Q 0 = a) :=
  fw_take fun h1 => by
    rw [rn_in (by unfold tkE; rw [if_neg (by omega)])]
    exact ofN_congr fun k hk => h k hk (by omega)
theorem fw_count {Q : BytL} {n z : Nat} {m : Int} (hz : 0 < z) (hm : 0 ≤ m) (hm2 : m ≤ 9223372036854775807) (hn : n ≤ m.toNat) (h : At Q (smN (UInt64.ofNat n)) (smB (UInt64.ofNat n))) :
    (smN (UInt64.ofNat n) + n * z ≤ Q.wn ∧ ctE Q 0 m z = 0 ∧ ctN Q 0 m z = n ∧ (ctQ Q 0 m).wn + smN (UInt64.ofNat n) = Q.wn ∧ ∀ k, (ctQ Q 0 m).wf k = Q.wf (smN (UInt64.ofNat n) + k)) ∨
    (Q.wn < smN (UInt64.ofNat n) + n * z ∧ ctE Q 0 m z = 3 ∧ ctN Q 0 m z = 0) := by
  have e1 : ctE1 0 m = 0 := by unfold ctE1; rw [if_neg (by omega)]
  have hx : (UInt64.ofNat n).toNat = n := by rw [UInt64.toNat_ofNat']; omega
  have hl : ¬ u64i m < UInt64.ofNat n := by
    rw [UInt64.lt_iff_toNat_lt, hx, u64i_nat hm hm2]; omega
  rcases fw_small h hl with ⟨h1, h2, h3, h4, h5⟩ | ⟨h1, h2⟩
  · have hv : ctV Q 0 m = n := by unfold ctV; rw [e1, h5, hx]
    have hq : ctQ Q 0 m = rsQ Q 0 (u64i m) := by unfold ctQ; rw [e1]
    rw [← hq] at h3 h4
    by_cases hd : (ctQ Q 0 m).wn / z < n
    · refine .inr ⟨?_, ?_, ?_⟩
      · have := (Nat.div_lt_iff_lt_mul hz).1 hd
        omega
      · unfold ctE; rw [hv, if_pos hd, e1, h2]; rfl
      · unfold ctN; rw [hv, if_pos hd]
    · refine .inl ⟨?_, ?_, ?_, h3, h4⟩
      · have := (Nat.le_div_iff_mul_le hz).1 (Nat.le_of_not_lt hd)
        omega
      · unfold ctE; rw [hv, if_neg hd, e1, h2]
      · unfold ctN; rw [hv, if_neg hd]
  · have hv : ctV Q 0 m = 0 := by
      unfold ctV
      rw [e1, (rs_out (by rw [h2]; decide)).2]; rfl
    refine .inr ⟨by omega, ?_, ?_⟩
    · unfold ctE; rw [hv, if_neg (Nat.not_lt_zero _), e1, h2]
    · unfold ctN; rw [hv, if_neg (Nat.not_lt_zero _)]
theorem at_first {Q : BytL} {n m : Nat} {f g : Nat → UInt8} (h : At Q (n + m) (catU f n g)) : At Q n f := fun k hk hq => by
  rw [h k (by omega) hq]; unfold catU; rw [if_pos hk]
theorem at_rest {Q Q' : BytL} {n m : Nat} {f g : Nat → UInt8} (h : At Q (n + m) (catU f n g)) (hn : Q'.wn + n = Q.wn) (hf : ∀ k, Q'.wf k = Q.wf (n + k)) : At Q' m g := fun k hk hq => by
  rw [hf, h _ (by omega) (by omega)]
  unfold catU
  rw [if_neg (by omega), show n + k - n = k by omega]
theorem fw_bytes {Q : BytL} {n : Nat} {B : Nat → UInt8} {m : Int} (hm : 0 ≤ m) (hm2 : m ≤ 9223372036854775807) (hn : n ≤ m.toNat) (h : At Q (byN n) (byB B n)) :
    FwS Q (rbQ Q 0 m) (rbE Q 0 m) (byN n) (rbN Q 0 m = n ∧ ∀ k, k < n → (ctQ Q 0 m).wf k = B k) := by
  rcases fw_count (z := 1) (by decide) hm hm2 hn (at_first h) with ⟨h1, h2, h3, h4, h5⟩ | ⟨h1, h2, h3⟩
  · have hat := at_rest h h4 h5
    have hE : tkE (ctQ Q 0 m) (ctE Q 0 m 1) (ctN Q 0 m 1) = 0 := by rw [h2, h3]; unfold tkE; rw [if_neg (by omega)]
    refine .inl ⟨by unfold byN; omega, hE, ?_, fun k => ?_, ?_, fun k hk => hat k hk (by omega)⟩
    · unfold rbQ byN; rw [tk_in hE, h3]
      show (ctQ Q 0 m).wn - n + _ = _
      omega
    · unfold rbQ byN; rw [tk_in hE, h3]
      show (ctQ Q 0 m).wf (k + n) = _
      rw [h5]; congr 1; omega
    · rw [(rb_good hE).1, h3]
  · refine .inr ⟨by unfold byN; omega, ?_⟩
    unfold rbE; rw [h2, h3]; unfold tkE; rw [if_neg (Nat.not_lt_zero _)]
theorem fw_ns {Q : BytL} {g : Nat → N4} : ∀ n, 32 * n ≤ Q.wn → (∀ i, i < n → ∀ k, k < 32 → Q.wf (32 * i + k) = bytesF (g i) k) →
    (nsE Q 0 n).2 = 0 ∧ (nsE Q 0 n).1.wn + 32 * n = Q.wn ∧ (∀ k, (nsE Q 0 n).1.wf k = Q.wf (32 * n + k)) ∧ ∀ i, i < n → nsV Q 0 i = g i
  | 0, _, _ => ⟨rfl, by show Q.wn + 32 * 0 = _; omega, fun k => by show Q.wf k = _; rw [show 32 * 0 + k = k by omega], fun i hi => absurd hi (Nat.not_lt_zero i)⟩
  | n + 1, h, hf => by
    obtain ⟨a, b, c, d⟩ := fw_ns n (by omega) (fun i hi => hf i (by omega))
    have hE : tkE (nsE Q 0 n).1 (nsE Q 0 n).2 32 = 0 := by rw [a]; unfold tkE; rw [if_neg (by omega)]
    have hv : nsV Q 0 n = g n := by
      unfold nsV
      rw [rn_in hE]
      exact ofN_congr fun k hk => by rw [c]; exact hf n (by omega) k hk
    refine ⟨hE, ?_, fun k => ?_, fun i hi => ?_⟩
    · show (tkQ (nsE Q 0 n).1 (nsE Q 0 n).2 32).wn + _ = _
      rw [tk_in hE]
      show (nsE Q 0 n).1.wn - 32 + _ = _
      omega
    · show (tkQ (nsE Q 0 n).1 (nsE Q 0 n).2 32).wf k = _
      rw [tk_in hE]
      show (nsE Q 0 n).1.wf (k + 32) = _
      rw [c]; congr 1; omega
    · rcases Nat.lt_or_ge i n with h1 | h1
      · exact d i h1
      · rw [show i = n by omega]; exact hv
theorem fw_nats {Q : BytL} {n : Nat} {g : Nat → N4} {m : Int} (hm : 0 ≤ m) (hm2 : m ≤ 9223372036854775807) (hn : n ≤ m.toNat) (h : At Q (nwN n) (nwB g n)) :
    FwS Q (rsQ2 Q 0 m) (rsE2 Q 0 m) (nwN n) (ctN Q 0 m 32 = n ∧ ∀ i, i < n → rsF Q 0 m i = g i) := by
  have ha : At Q (smN (UInt64.ofNat n)) (smB (UInt64.ofNat n)) := fun k hk hq => by
    rw [h k (by unfold nwN; omega) hq]; unfold nwB; rw [if_pos hk]
  rcases fw_count (z := 32) (by decide) hm hm2 hn ha with ⟨h1, h2, h3, h4, h5⟩ | ⟨h1, h2, h3⟩
  · obtain ⟨a, b, c, d⟩ := fw_ns (Q := ctQ Q 0 m) (g := g) n (by omega) (fun i hi k hk => by
      rw [h5, h _ (by unfold nwN; omega) (by omega)]
      unfold nwB
      rw [if_neg (by omega), show (smN (UInt64.ofNat n) + (32 * i + k) - smN (UInt64.ofNat n)) / 32 = i by omega, show (smN (UInt64.ofNat n) + (32 * i + k) - smN (UInt64.ofNat n)) % 32 = k by omega])
    refine .inl ⟨by unfold nwN; omega, by unfold rsE2; rw [h2, h3]; exact a, ?_, fun k => ?_, h3, fun i hi => ?_⟩
    · unfold rsQ2 nwN; rw [h2, h3]; omega
    · unfold rsQ2 nwN; rw [h2, h3, c, h5]; congr 1; omega
    · unfold rsF nsG; rw [h2, h3, if_pos hi]; exact d i hi
  · refine .inr ⟨by unfold nwN; omega, ?_⟩
    unfold rsE2; rw [h2, h3]; rfl
end Go.Eng
namespace Go.Eng
theorem rsm_end {x : UInt64} {c : Nat} (h : x.toNat / 256 ^ c = 0) (h2 : c ≠ 0 → x.toNat / 256 ^ (c - 1) ≠ 0) : c = szU x := by
  have hp : 0 < 256 ^ c := Nat.pow_pos (by omega)
  have h3 : x.toNat < 256 ^ c := by
    rcases Nat.lt_or_ge x.toNat (256 ^ c) with h4 | h4
    · exact h4
    · have := Nat.div_pos h4 hp; omega
  have hl := szU_lt x
  rcases Nat.lt_trichotomy c (szU x) with h4 | h4 | h4
  · exfalso
    have h5 := szU_ge (x := x) (by omega)
    have h6 : 256 ^ c ≤ 256 ^ (szU x - 1) := Nat.pow_le_pow_right (by omega) (by omega)
    omega
  · exact h4
  · exfalso
    have h6 : 256 ^ szU x ≤ 256 ^ (c - 1) := Nat.pow_le_pow_right (by omega) (by omega)
    exact h2 (by omega) (Nat.div_eq_of_lt (by omega))
theorem rsm_next {x c : Nat} {f : Nat → UInt8} (hf : ∀ k, k < c → f k = UInt8.ofNat (dig x (c - 1 - k))) (k : Nat) (hk : k < c + 1) : catU (fun _ => UInt8.ofNat (x / 256 ^ c % 256)) 1 f k = UInt8.ofNat (dig x (c + 1 - 1 - k)) := by
  unfold catU
  by_cases h : k < 1
  · rw [if_pos h, show c + 1 - 1 - k = c by omega]; rfl
  · rw [if_neg h, hf _ (by omega), show c - 1 - (k - 1) = c + 1 - 1 - k by omega]
end Go.Eng
end
