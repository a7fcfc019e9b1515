/-
  Many in one: CodP, CodB.
-/
import Derived.Test.YtnailbicmhkmbaaZPoolBack12
import Derived.ChangeArms
set_option linter.unusedVariables false
set_option linter.unusedSimpArgs false
set_option maxRecDepth 100000
set_option maxHeartbeats 1000000
section
namespace Go.Eng
open Go.RowKit Go.WideShapes Go.ChangeShapes Go.ChangeAt Go.Deep
structure PutR where
  d : Int
  n : UInt64
  a : N4
  b : BytL
  l : NatL
instance : Inhabited PutR := ⟨⟨0, 0, ⟨0, 0, 0, 0⟩, bytZ none 0, default⟩⟩
section
variable {H : Type} {enc : TypeId × Value → H} {P : Program}
end
def lenP (y : PutR) : Nat := if y.d = 1 then smN y.n else if y.d = 2 then 32 else if y.d = 3 then byN y.b.wn else if y.d = 4 then nwN y.l.ln else 0
def bytPt (y : PutR) : Nat → UInt8 := if y.d = 1 then smB y.n else if y.d = 2 then bytesF y.a else if y.d = 3 then byB y.b.wf y.b.wn else nwB y.l.lf y.l.ln
def ptN (f : Nat → PutR) : Nat → Nat
  | 0 => 0
  | k + 1 => ptN f k + lenP (f k)
def ptF (f : Nat → PutR) : Nat → Nat → UInt8
  | 0 => fun _ => 0
  | k + 1 => if lenP (f k) = 0 then ptF f k else catU (ptF f k) (ptN f k) (bytPt (f k))
theorem lenP_1 {y : PutR} (h : y.d = 1) : lenP y = smN y.n ∧ bytPt y = smB y.n := by unfold lenP bytPt; rw [if_pos h, if_pos h]; exact ⟨rfl, rfl⟩
theorem lenP_3 {y : PutR} (h : y.d = 3) : lenP y = byN y.b.wn ∧ bytPt y = byB y.b.wf y.b.wn := by unfold lenP bytPt; simp [h]
def smlP (y : PutR) : Prop := y.b.wn ≤ 1000 ∧ y.l.ln ≤ 40
instance (y : PutR) : Decidable (smlP y) := by unfold smlP; exact inferInstance
end Go.Eng
end
section
namespace Go.Eng
theorem rd_lend {F G : Blk → Prop} {P : Program} {k : FuncId} {args : List Value} {B : Blk} {c : Option Blk} {n : Nat} {v : List Nat → Value} {o : List Nat → Option Blk} {nw : List Nat → List (Option Blk)} (h : RunsF G P k args [B] n v (fun ns => o ns :: nw ns))
    (hG : ∀ w : World, FamH F w → (∀ b, c = some b → Holds b w) → FamH G w) (hN : ∀ z, G z → ∃ b, c = some b ∧ ∀ j, z.has j → b.has j) (hc : ∀ b, c = some b → b.own = false) (how : ∀ ns, ownL (o ns :: none :: nw ns)) :
    RunsO F P k args [some B, c] n v (fun ns => o ns :: none :: nw ns) := by
  cases c with
  | none =>
    have h1 := (RunsF.lendG (F' := F) (bs := [B]) (cs := []) (o := fun ns => [o ns]) (nw := nw) h (fun _ => rfl) (fun w hF _ => hG w hF fun b hb => by cases hb) (fun z hz j hj => by obtain ⟨b, hb, _⟩ := hN z hz; cases hb) (by simp)).toO
    exact h1.as (.cons _ (.zz _)) id fun ns hns => ⟨hns, rfl, .cons _ (.dn (.refl _)), how ns⟩
  | some b =>
    exact (RunsF.lendG (F' := F) (bs := [B]) (cs := [b]) (o := fun ns => [o ns]) (nw := nw) h (fun _ => rfl) (fun w hF hb => hG w hF fun b' hb' => by cases hb'; exact hb b (List.Mem.head _)) (fun z hz j hj => by
      obtain ⟨b', hb', h2⟩ := hN z hz; cases hb'
      exact .inr ⟨b, List.Mem.head _, h2 j hj⟩) (by simpa using hc b rfl)).toO
theorem ptN_mono {f : Nat → PutR} {i : Nat} : ∀ j, i ≤ j → ptN f i ≤ ptN f j
  | 0, h => by rw [show i = 0 by omega]; exact Nat.le_refl _
  | j + 1, h => by
    rcases Nat.lt_or_ge j i with h1 | h1
    · rw [show i = j + 1 by omega]; exact Nat.le_refl _
    · have := ptN_mono (f := f) j h1
      show _ ≤ ptN f j + lenP (f j)
      omega
theorem ptF_less {f : Nat → PutR} {i : Nat} : ∀ j, i ≤ j → ∀ k, k < ptN f i → ptF f j k = ptF f i k
  | 0, h, k, hk => by rw [show i = 0 by omega]
  | j + 1, h, k, hk => by
    rcases Nat.lt_or_ge j i with h1 | h1
    · rw [show i = j + 1 by omega]
    · have h2 := ptF_less (f := f) j h1 k hk
      have h3 := ptN_mono (f := f) j h1
      show (if lenP (f j) = 0 then ptF f j else catU (ptF f j) (ptN f j) (bytPt (f j))) k = _
      split
      · exact h2
      · unfold catU; rw [if_pos (by omega)]; exact h2
theorem ptF_at {f : Nat → PutR} {i M : Nat} (hi : i < M) {k : Nat} (hk : k < lenP (f i)) : ptF f M (ptN f i + k) = bytPt (f i) k := by
  rw [ptF_less (i := i + 1) M hi _ (by show _ < ptN f i + lenP (f i); omega)]
  show (if lenP (f i) = 0 then ptF f i else catU (ptF f i) (ptN f i) (bytPt (f i))) _ = _
  rw [if_neg (by omega)]
  unfold catU
  rw [if_neg (by omega), show ptN f i + k - ptN f i = k by omega]
structure BkR (f : Nat → PutR) (M L : Nat) (C : Grw UInt8) (Q : BytL) (E : Int) (i : Nat) : Prop where
  ok : OkB Q
  le : Q.wn ≤ 100000
  hold : ∀ w : World, (∀ b, roO (gsE u8C [u8 0] 1 C) = some b → Holds b w) → FamH (famB Q) w
  nm : 0 < Q.wn → C.z = false ∧ Q.wb = C.nm
  st : (E = 0 ∧ Q.wn + ptN f i = L ∧ ∀ k, k < Q.wn → Q.wf k = ptF f M (ptN f i + k)) ∨ (E = 3 ∧ L < ptN f i)
theorem BkR.next {f : Nat → PutR} {M L : Nat} {C : Grw UInt8} {Q Q' : BytL} {E E' : Int} {i : Nat} {V : Prop} (h : BkR f M L C Q E i) (hi : i < M) (ho : OkB Q') (hl : Q'.wn ≤ Q.wn) (hh : ∀ w : World, FamH (famB Q) w → FamH (famB Q') w) (hb : Q'.wb = Q.wb)
    (h0 : E = 0 → At Q (lenP (f i)) (bytPt (f i)) → FwS Q Q' E' (lenP (f i)) V) (h3 : E ≠ 0 → E' = E) : BkR f M L C Q' E' (i + 1) ∧ (L = ptN f M → V) := by
  have hm : ptN f (i + 1) = ptN f i + lenP (f i) := rfl
  have key : ((E' = 0 ∧ Q'.wn + ptN f (i + 1) = L ∧ ∀ k, k < Q'.wn → Q'.wf k = ptF f M (ptN f (i + 1) + k)) ∨ (E' = 3 ∧ L < ptN f (i + 1))) ∧ (L = ptN f M → V) := by
    have hmono := ptN_mono (f := f) (i := i + 1) M hi
    rcases h.st with ⟨e0, e1, e2⟩ | ⟨e3, e4⟩
    · have hat : At Q (lenP (f i)) (bytPt (f i)) := fun k hk hq => by rw [e2 k hq]; exact ptF_at hi hk
      rcases h0 e0 hat with ⟨a1, a2, a3, a4, a5⟩ | ⟨a1, a2⟩
      · refine ⟨.inl ⟨a2, by omega, fun k hk => ?_⟩, fun _ => a5⟩
        rw [a4, e2 _ (by omega), hm, Nat.add_assoc]
      · exact ⟨.inr ⟨a2, by omega⟩, fun hL => by omega⟩
    · have := h3 (by rw [e3]; decide)
      exact ⟨.inr ⟨by rw [this, e3], by omega⟩, fun hL => by omega⟩
  exact ⟨⟨ho, Nat.le_trans hl h.le, fun w hw => hh w (h.hold w hw), fun h0 => by rw [hb]; exact h.nm (by omega), key.1⟩, key.2⟩
theorem BkR.small {f : Nat → PutR} {M L : Nat} {C : Grw UInt8} {Q : BytL} {E : Int} {i : Nat} (h : BkR f M L C Q E i) (hi : i < M) (hd : (f i).d = 1) : BkR f M L C (rsQ Q E 18446744073709551615) (rsE Q E 18446744073709551615) (i + 1) ∧ (L = ptN f M → (rsV Q E 18446744073709551615 == (f i).n) = true) := by
  have e := lenP_1 hd
  refine (fun hh => ⟨hh.1, fun hL => by rw [hh.2 hL]; exact beq_self_eq_true _⟩) (h.next (V := rsV Q E 18446744073709551615 = (f i).n) hi (okb_rs h.ok _ _) (rsQ_wn _ _ _) (fun w hw => holdb_rs hw) rs_wb (fun e0 hat => ?_) (fun h3 => (rs_keep h3).1))
  subst e0
  rw [e.1, e.2] at hat
  rw [e.1]
  exact fw_small hat (fun hlt => by
    rw [UInt64.lt_iff_toNat_lt] at hlt
    have h1 := (f i).n.toNat_lt
    have h2 : (18446744073709551615 : UInt64).toNat = 18446744073709551615 := rfl
    omega)
theorem sameS_of {f g : Nat → UInt8} {n m : Nat} (h : n = m) (hf : ∀ k, k < m → f k = g k) : sameS f n g m = true := decide_eq_true ⟨h, fun k hk => hf k (by omega)⟩
theorem BkR.byts {f : Nat → PutR} {M L : Nat} {C : Grw UInt8} {Q : BytL} {E : Int} {i : Nat} (h : BkR f M L C Q E i) (hi : i < M) (hd : (f i).d = 3) (hs : smlP (f i)) : BkR f M L C (rbQ Q E 1000) (rbE Q E 1000) (i + 1) ∧ (L = ptN f M → sameS (ctQ Q E 1000).wf (rbN Q E 1000) (f i).b.wf (f i).b.wn = true) := by
  have e := lenP_3 hd
  refine (fun hh => ⟨hh.1, fun hL => by obtain ⟨a, b⟩ := hh.2 hL; exact sameS_of a b⟩) (h.next (V := rbN Q E 1000 = (f i).b.wn ∧ ∀ k, k < (f i).b.wn → (ctQ Q E 1000).wf k = (f i).b.wf k) hi (okb_rb h.ok _ _) (rb_wn _ _ _) (fun w hw => holdb_rb hw) rb_wb (fun e0 hat => ?_) (fun h3 => (rb_keep h3).1))
  subst e0
  rw [e.1, e.2] at hat
  rw [e.1]
  exact fw_bytes (by decide) (by decide) hs.1 hat
def cpG (q : BytL) (a r : Nat) : Grw UInt8 := ⟨q.wa.isNone, a, q.wn, r, q.wf⟩
theorem cpG_ok {q : BytL} (hq : OkB q) (a r : Nat) : (cpG q a r).ok := fun h => by
  have h1 : q.wa.isNone = true := h
  show q.wn = 0
  rcases Nat.eq_zero_or_pos q.wn with h0 | h0
  · exact h0
  · rw [hq.ad h0] at h1; cases h1
theorem gs_names {C : Grw UInt8} {Q : BytL} (h : 0 < Q.wn → C.z = false ∧ Q.wb = C.nm) : ∀ z, famB Q z → ∃ b, roO (gsE u8C [u8 0] 1 C) = some b ∧ ∀ j, z.has j → b.has j := fun z hz => by
  obtain ⟨h0, rfl⟩ := hz
  obtain ⟨h1, h2⟩ := h h0
  refine ⟨⟨C.nm, false, 0, sprE 1 (C.n + C.r) C.n (fun k => u8C (C.f k)) [u8 0]⟩, by rw [gsE_own h1]; rfl, fun j hj => ?_⟩
  have hj' : Q.wb = j := hj
  show C.nm = j
  rw [← h2]; exact hj'
theorem BkR.lend {F : Blk → Prop} {P : Program} {fn : FuncId} {args : List Value} {B : Blk} {n : Nat} {v : List Nat → Value} {o : List Nat → Option Blk} {nw : List Nat → List (Option Blk)} {f : Nat → PutR} {M L : Nat} {C : Grw UInt8} {Q : BytL} {E : Int} {i : Nat} (h : BkR f M L C Q E i)
    (hr : RunsF (famB Q) P fn args [B] n v (fun ns => o ns :: nw ns)) (how : ∀ ns, ownL (o ns :: none :: nw ns)) : RunsO F P fn args [some B, roO (gsE u8C [u8 0] 1 C)] n v (fun ns => o ns :: none :: nw ns) :=
  rd_lend hr (fun w _ hb => h.hold w hb) (gs_names h.nm) ro_own how
def rbV (Q : BytL) (E m : Int) (a r : Nat) : BytL := if 0 < rbN Q E m then bytO a (rbN Q E m) (rbN Q E m + r) (ctQ Q E m).wf else bytZ (zA (rbZ Q E m) a) 0
def rbK (Q : BytL) (E m : Int) (a r : Nat) : Option Blk := if 0 < rbN Q E m then some ⟨a, true, 0, spr (rbN Q E m + r) (rbN Q E m) (fun k => u8 ((ctQ Q E m).wf k)) (u8 0)⟩ else none
theorem rbV_ok {Q : BytL} {E m : Int} {a r : Nat} (h : rbN Q E m ≤ 9223372036854775807) : OkB (rbV Q E m a r) := by
  unfold rbV
  split
  · exact okb_own (by omega) h
  · exact okb_nil
theorem rbK_own {Q : BytL} {E m : Int} {a r : Nat} : ownL [rbK Q E m a r] := by
  unfold rbK
  split
  · exact ⟨rfl, trivial⟩
  · trivial
end Go.Eng
end
