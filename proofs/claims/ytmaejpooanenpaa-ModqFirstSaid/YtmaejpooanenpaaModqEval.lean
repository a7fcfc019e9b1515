/-
  modq.Eval: a polynomial's value, from the top down.
-/
import Derived.Test.YtmaejpooanenpaaModqEv
import Derived.Test.YtmaejpooanenpaaEngR
namespace Go.Proofs.Ytmaejpooanenpaa
open Go Go.Eng Go.RowKit
set_option linter.unusedVariables false
set_option maxRecDepth 100000
set_option maxHeartbeats 1000000
def someD (s : Bool) : List Nat → Bool
  | [] => s
  | _ :: _ => true
theorem someD_snoc (s : Bool) (l : List Nat) (x : Nat) : someD s (l ++ [x]) = true := by cases l <;> rfl
noncomputable def evR : Code := cL evEnd
theorem eval_code : Try.f19.body = some (.seq evA (.seq evB (.seq (.seq evC (.block 0 (.rangeFunc (.tmp 11) #[12, 13] evAsg evBody))) (.seq evR .ret)))) := by kernel_rfl
section
variable {b : Nat} {m : N4} {s : Bool} {p o n c : Nat} {f : Nat → N4} {z : N4} {q1 q2 q3 q4 q5 : Nat}
theorem cm_names (d : Bool) (v : N4) : ∀ k (x : Blk), (evC0 b m s p o n c f z q1 q2 q3 q4 q5 d v).fs.mem k = some x → k < 6 ∧ ∃ y, (evS0 b m s p o n c f z q1 q2 q3 q4 q5).fs.mem k = some y ∧ y.name = x.name ∧ y.own = x.own
  | 0, x, h => by cases h; exact ⟨by omega, _, rfl, rfl, rfl⟩
  | 1, x, h => by cases h; exact ⟨by omega, _, rfl, rfl, rfl⟩
  | 2, x, h => by cases h; exact ⟨by omega, _, rfl, rfl, rfl⟩
  | 3, x, h => by cases h; exact ⟨by omega, _, rfl, rfl, rfl⟩
  | 4, x, h => by cases h; exact ⟨by omega, _, rfl, rfl, rfl⟩
  | 5, x, h => by cases h; exact ⟨by omega, _, rfl, rfl, rfl⟩
  | k + 6, x, h => by cases h
theorem cm_none (d : Bool) (v : N4) : NonE (evC0 b m s p o n c f z q1 q2 q3 q4 q5 d v).fs.mem
  | 0, x, h, _ => by cases h; exact ⟨0, _, rfl⟩
  | 1, x, h, ho => by cases h; cases ho
  | 2, x, h, _ => by cases h; exact ⟨0, _, rfl⟩
  | 3, x, h, _ => by cases h; exact ⟨0, _, rfl⟩
  | 4, x, h, _ => by cases h; exact ⟨0, _, rfl⟩
  | 5, x, h, _ => by cases h; exact ⟨0, _, rfl⟩
  | k + 6, x, h, _ => by cases h
theorem c2_mem (d : Bool) (v : N4) (i k : Nat) : ∀ j (x : Blk), (evC2 b m s p o n c f z q1 q2 q3 q4 q5 d v i k).fs.mem j = some x → j = 7 ∧ x = ⟨k, true, 0, .lit (cellsN (f i))⟩ ∨ (evC0 b m s p o n c f z q1 q2 q3 q4 q5 d v).fs.mem j = some x
  | 0, x, h => .inr h
  | 1, x, h => .inr h
  | 2, x, h => .inr h
  | 3, x, h => .inr h
  | 4, x, h => .inr h
  | 5, x, h => .inr h
  | 6, x, h => by cases h
  | 7, x, h => by cases h; exact .inl ⟨rfl, rfl⟩
  | k + 8, x, h => by cases h
theorem c2_of (d : Bool) (v : N4) (i k : Nat) : ∀ j (x : Blk), (evC0 b m s p o n c f z q1 q2 q3 q4 q5 d v).fs.mem j = some x → (evC2 b m s p o n c f z q1 q2 q3 q4 q5 d v i k).fs.mem j = some x
  | 0, x, h => h
  | 1, x, h => h
  | 2, x, h => h
  | 3, x, h => h
  | 4, x, h => h
  | 5, x, h => h
  | k + 6, x, h => by cases h
theorem c0_s0 : ∀ k (x : Blk), (evC0 b m s p o n c f z q1 q2 q3 q4 q5 s ⟨0, 0, 0, 0⟩).fs.mem k = some x → (evS0 b m s p o n c f z q1 q2 q3 q4 q5).fs.mem k = some x
  | 0, x, h => h
  | 1, x, h => h
  | 2, x, h => h
  | 3, x, h => h
  | 4, x, h => h
  | 5, x, h => h
  | k + 6, x, h => by cases h
theorem cm_ro (d : Bool) (v : N4) : ∀ k (x : Blk), (evC0 b m s p o n c f z q1 q2 q3 q4 q5 d v).fs.mem k = some x → x.own = false → (evS0 b m s p o n c f z q1 q2 q3 q4 q5).fs.mem k = some x
  | 0, x, h, ho => by cases h; cases ho
  | 1, x, h, ho => h
  | 2, x, h, ho => h
  | 3, x, h, ho => h
  | 4, x, h, ho => h
  | 5, x, h, ho => by cases h; cases ho
  | k + 6, x, h, ho => by cases h
theorem cm_apart (ha : Apart (evS0 b m s p o n c f z q1 q2 q3 q4 q5).fs.mem) (d : Bool) (v : N4) : Apart (evC0 b m s p o n c f z q1 q2 q3 q4 q5 d v).fs.mem := fun i j x y hij hx hy ho => by
  obtain ⟨_, x', h1, h2, h3⟩ := cm_names d v i x hx
  obtain ⟨_, y', k1, k2, k3⟩ := cm_names d v j y hy
  rw [← h2, ← k2]
  exact ha i j x' y' hij h1 k1 (h3.trans ho)
theorem cm_not (ha : Apart (evS0 b m s p o n c f z q1 q2 q3 q4 q5).fs.mem) (d : Bool) (v : N4) : ¬ Owns (evC0 b m s p o n c f z q1 q2 q3 q4 q5 d v).fs.mem q5 ∧ ¬ Owns (evC0 b m s p o n c f z q1 q2 q3 q4 q5 d v).fs.mem p := by
  constructor
  · rintro ⟨i, x, hx, ho, hn⟩
    obtain ⟨hi, x', h1, h2, h3⟩ := cm_names d v i x hx
    exact ha i 6 x' _ (by omega) h1 rfl (h3.trans ho) (h2.trans hn)
  · rintro ⟨i, x, hx, ho, hn⟩
    obtain ⟨hi, x', h1, h2, h3⟩ := cm_names d v i x hx
    by_cases e : i = 1
    · subst e; cases hx; cases ho
    · exact ha i 1 x' _ e h1 rfl (h3.trans ho) (h2.trans hn)
/-- What stays between two rounds. -/
structure IE (s0 : St) (w3 : World) (cm : Nat → Option Blk) (W : World) : Prop where
  holds : ∀ k x, cm k = some x → Holds x W
  adv : Adv s0.fs.mem w3 cm W
theorem IE.own {s0 : St} {w3 : World} {cm : List Nat → Nat → Option Blk} : OwnFrom w3.heap.size (fun (pre : List Nat) W => IE s0 w3 (cm pre) W) := fun pre W W' row h hg hr =>
  ⟨fun k x hk => (h.holds k x hk).grown hg (fun r e => (hr r e).2), h.adv.grown hg (fun r e => (hr r e).1)⟩
/-- A round's own slots and box. -/
structure AE (B : Nat) (env : Nat → List (Nat × EV)) (cs : List Value) (a : Act) (W : World) : Prop where
  defers : a.defers = []
  size : a.tmps.size = 23
  box : ∃ k, B ≤ k ∧ (∀ t e, Go.Eng.look (env k) t = some e → a.tmps[t]? = some e.den) ∧ Holds ⟨k, true, 0, .lit cs⟩ W
end
noncomputable def evOps : Array Oper := match evR with
  | .region _ ops _ => ops
  | _ => #[]
theorem evR_eq : evR = .region 5 evOps false := by kernel_rfl
noncomputable def evO0 : Oper := evOps.getD 0 { dst := none, op := .move (.tmp 0), type := 0, pos := "", after := #[], guard := none }
noncomputable def evO1 : Oper := evOps.getD 1 { dst := none, op := .move (.tmp 0), type := 0, pos := "", after := #[], guard := none }
theorem evO0_at : evOps[0]? = some evO0 := by kernel_rfl
theorem evO1_at : evOps[1]? = some evO1 := by kernel_rfl
theorem evO0_op : evO0.op = .load 24 (.tmp 7) := by kernel_rfl
theorem evO1_op : evO1.op = .store 24 (.tmp 6) (.tmp 22) := by kernel_rfl
theorem evO0_dst : evO0.dst = some 22 := by kernel_rfl
theorem evO1_dst : evO1.dst = none := by kernel_rfl
theorem evO0_g : evO0.guard = none := by kernel_rfl
theorem evO1_g : evO1.guard = none := by kernel_rfl
theorem ev_okA : okC evAsg = true := by kernel_rfl
theorem ev_okB : okC evBody = true := by kernel_rfl
theorem ev_enter : ∀ args w, (callFunc 61 args).run Try.prog w = .ok (.enter 61 args) w := enters_of Try.func61 (by kernel_rfl) rfl
theorem eval_end {q3 D : Nat} {v : N4} {a3 : Act} {W4 : World} (h4 : Holds ⟨q3, true, 0, .lit (cellsN v)⟩ W4) (hK4 : W4.heap[D]? = some (.deferred (some []))) (e6 : a3.tmps[6]? = some (ptr q3 0)) (hsz : a3.tmps.size = 23) :
    (results Try.f19 ((a3.put (some 22) (nat4 v)).put none undef).tmps).run Try.prog (W4.putObj D (.deferred none)) = .ok (nat4 v) (W4.putObj D (.deferred none)) := by
  have hgr := grownBy_putObj' W4 D (.deferred none)
  have hrow : ∀ r, some D = some r → ∃ o : Obj, W4.heap[r]? = some o ∧ o.isCells = false := fun r e => by cases e; exact ⟨_, hK4, rfl⟩
  have hres : Sat 23 (St.mk [(6, .v (ptr q3 0))] [(4, some ⟨q3, true, 0, .lit (cellsN v)⟩)] 7).fs { tmps := ((a3.put (some 22) (nat4 v)).put none undef).tmps, defers := [] } (W4.putObj D (.deferred none)) := by
    refine ⟨rfl, by simp [Act.put, hsz], fun t e ht => ?_, fun k x hk => ?_, fun i j x y hij hx hy _ => ?_⟩
    · have ht2 : Go.Eng.look [(6, EV.v (ptr q3 0))] t = some e := ht
      rw [look_cons] at ht2
      by_cases h6 : 6 = t
      · subst h6; rw [if_pos rfl] at ht2; cases ht2
        show (a3.tmps.setIfInBounds 22 (nat4 v))[6]? = _
        rw [Array.getElem?_setIfInBounds_ne (by omega), e6]; rfl
      · rw [if_neg h6] at ht2; cases ht2
    · have hk2 : Go.Eng.look [(4, some (Blk.mk q3 true 0 (.lit (cellsN v))))] k = some (some x) := by
        simp only [St.fs, memOf] at hk
        split at hk
        · rename_i ob hob; rw [hob, hk]
        · cases hk
      rw [look_cons] at hk2
      by_cases h4 : 4 = k
      · subst h4; rw [if_pos rfl] at hk2; cases hk2
        exact h4.grown hgr hrow
      · rw [if_neg h4] at hk2; cases hk2
    · have one : ∀ k (x : Blk), (St.mk [(6, .v (ptr q3 0))] [(4, some ⟨q3, true, 0, .lit (cellsN v)⟩)] 7).fs.mem k = some x → k = 4 := fun k x hk => by
        by_cases h4 : 4 = k
        · exact h4.symm
        · simp only [St.fs, memOf, look_cons, if_neg h4] at hk; cases hk
      exact absurd ((one i x hx).trans (one j y hy).symm) hij
  have hrr := run_results (P := Try.prog) (fn := Try.f19) hres (hs' := [(4, 0)]) (vc := ptr q3 0 = .pointer (some ⟨q3, 0 + 0, none⟩) ∧ True) (vs := [nat4 v]) (by kernel_rfl) ⟨rfl, trivial⟩
  exact hrr
theorem eval_runs (b : Nat) (m : N4) (s : Bool) (hm : OddM m) (p o n c : Nat) (f : Nat → N4) (z : N4) (hn : n ≤ 9223372036854775807) :
    Runs Try.prog 19 [ptr b 0, .slice (some ⟨p, o, none⟩) n c, nat4 z] [⟨b, true, 0, .lit [(u64 m.a), (u64 m.b), (u64 m.c), (u64 m.d), (u32 (doneS s)), (Value.int .i32 0), (u32 0), (u64 ((lackS m s).a)), (u64 ((lackS m s).b)), (u64 ((lackS m s).c)), (u64 ((lackS m s).d)), (u64 ((oneS m s).a)), (u64 ((oneS m s).b)), (u64 ((oneS m s).c)), (u64 ((oneS m s).d)), (u64 ((twoS m s).a)), (u64 ((twoS m s).b)), (u64 ((twoS m s).c)), (u64 ((twoS m s).d))]⟩, ⟨p, false, o, tabN n f⟩] 0 (fun _ => nat4 (horM m z f n)) (fun _ => [some ⟨b, true, 0, .lit [(u64 m.a), (u64 m.b), (u64 m.c), (u64 m.d), (u32 (doneS (someD s (cameL n 0)))), (Value.int .i32 0), (u32 0), (u64 ((lackS m (someD s (cameL n 0))).a)), (u64 ((lackS m (someD s (cameL n 0))).b)), (u64 ((lackS m (someD s (cameL n 0))).c)), (u64 ((lackS m (someD s (cameL n 0))).d)), (u64 ((oneS m (someD s (cameL n 0))).a)), (u64 ((oneS m (someD s (cameL n 0))).b)), (u64 ((oneS m (someD s (cameL n 0))).c)), (u64 ((oneS m (someD s (cameL n 0))).d)), (u64 ((twoS m (someD s (cameL n 0))).a)), (u64 ((twoS m (someD s (cameL n 0))).b)), (u64 ((twoS m (someD s (cameL n 0))).c)), (u64 ((twoS m (someD s (cameL n 0))).d))]⟩, none]) := by
  intro w hm0 ha
  obtain ⟨hsat, hmem⟩ := start_sat (fn := Try.f19) (args := [ptr b 0, .slice (some ⟨p, o, none⟩) n c, nat4 z]) hm0 ha (Nat.le_of_ble_eq_true (by kernel_rfl))
  refine (callsIn_wide (n := 3)).1 ?_
  refine callsIn_of_wp_marks Try.func19 eval_code trivial ?_ rfl
  refine wpIn_seq (wpIn_mono (wpIn_wide.2 (ev_sound mix 60 false evA _ _ _ _ w (eval_preA b m s p o n c f z) hsat)) ?_)
  rintro e a1 w1 ⟨s1, _, ⟨rfl, ⟨⟨q1, q2, q3⟩, _, e1⟩⟩, hS1, hA1⟩
  have hle1 := keep_le s1 [0, 1, 2, 3, 5, 6] [0, 1, 2, 3, 4] 5
  rw [e1] at hle1
  have hS1' := hS1.le hle1
  have hA1' := hA1.weak hle1.mem
  clear hS1 hA1 hle1 e1 s1
  refine wpIn_seq (wpIn_mono (wpIn_wide.2 (ev_sound mix 60 false evB _ _ _ _ w1 (eval_preB b m s p o n c f z q1 q2 q3) hS1')) ?_)
  rintro e a2 w2 ⟨s2, _, ⟨rfl, ⟨q4, _, e2⟩⟩, hS2, hA2⟩
  have hle2 := keep_le s2 [0, 1, 2, 3, 5, 6, 7] [0, 1, 2, 3, 4, 5] 6
  rw [e2] at hle2
  have hS2' := hS2.le hle2
  have hA2' := hA1'.trans (hA2.weak hle2.mem)
  clear hS2 hA2 hle2 e2 s2 hA1' hS1'
  refine wpIn_seq (wpIn_seq (wpIn_mono (wpIn_wide.2 (ev_sound mix 60 false evC _ _ _ _ w2 (eval_preC b m s p o n c f z q1 q2 q3 q4) hS2')) ?_))
  rintro e a3 w3 ⟨s3, _, ⟨rfl, ⟨q5, _, e3⟩⟩, hS3, hA3⟩
  have hle3 := keep_le s3 [0, 1, 2, 3, 5, 6, 7, 11] [0, 1, 2, 3, 4, 5, 6] 7
  rw [e3] at hle3
  have hS := hS3.le hle3
  have hA := hA2'.trans (hA3.weak hle3.mem)
  clear hS3 hA3 hle3 e3 s3 hA2' hS2'
  rw [hmem] at hA
  have hlt : ∀ k x, (evS0 b m s p o n c f z q1 q2 q3 q4 q5).fs.mem k = some x → x.name < w3.heap.size := fun k x hk => (hS.mem k x hk).lt
  have hap := hS.apart
  have acc_snoc : ∀ (pre : List Nat) (i : Nat), (pre ++ [i]).foldl (stepV m z f) ⟨0, 0, 0, 0⟩ = stepV m z f (pre.foldl (stepV m z f) ⟨0, 0, 0, 0⟩) i := fun pre i => by rw [List.foldl_append]; rfl
  refine wpIn_block ?_
  refine wpIn_rangeFunc_ownH (α := Nat) (encs := fun i => #[.int .i64 (i : Int), nat4 (f i)]) (Kp := KpB q5 p) (S := fun xs => xs = cameL n 0) (Sp := fun _ => True) (N := n) (w0 := w3) rfl (by omega)
    (gf := 61) (lb := #[ptr q5 0]) (opd_eval hS (e := .v (.func (.func 61) #[] #[ptr q5 0])) rfl) trivial ev_enter ?seq (fun h k => ⟨k.box.trans h.box, k.row.trans h.row⟩) ?kb (Below.refl _ _) (fun _ => rfl)
    (fun pre W => IE (evS0 b m s p o n c f z q1 q2 q3 q4 q5) w3 (evC0 b m s p o n c f z q1 q2 q3 q4 q5 (someD s pre) (pre.foldl (stepV m z f) ⟨0, 0, 0, 0⟩)).fs.mem W)
    (fun _ _ _ => False) IE.own (fun c s W W' row h hg hr => h.elim) ?h0
    (fun i a' W => AE w3.heap.size (fun k => (evC2 b m s p o n c f z q1 q2 q3 q4 q5 true z i k).env) (cellsN (f i)) a' W) ?hax ?assign ?body ?done ?stop
  case seq =>
    intro l J Jx W hbelow _ _ hY h0
    have hb6 : w3.cell? ⟨q5, 0, none⟩ = some (.slice (some ⟨p, o, none⟩) n c) := (hS.mem 6 _ rfl).cell 0 _ rfl
    have hd := hS.mem 1 _ rfl
    refine (back1_in (3 - 1) l q5 p o n c f (by omega) J Jx hn hY W ((hbelow.cell (p := ⟨q5, 0, none⟩) (hlt 6 _ rfl)).trans hb6) (hd.of_heap hbelow.size (hbelow.block p (hlt 1 _ rfl))) h0).mono ?_
    rintro e W' ⟨he, h | ⟨pre, h⟩⟩
    · exact ⟨he, .inl ⟨_, rfl, h⟩⟩
    · exact ⟨he, .inr ⟨_, trivial, h⟩⟩
  case kb =>
    intro W l o1 o2 hl _ _ _
    have h5 : q5 < w3.heap.size := hlt 6 _ rfl
    have hp : p < w3.heap.size := hlt 1 _ rfl
    exact ⟨World.putObj_heap_other (fun e => by subst e; exact absurd h5 (by omega)), World.putObj_heap_other (fun e => by subst e; exact absurd hp (by omega))⟩
  case h0 => exact ⟨fun k x hk => hS.mem k x (c0_s0 k x hk), (Adv.refl _ _).weak fun k x hk => c0_s0 k x hk⟩
  case hax =>
    intro i a' _ W W' row h hg hr
    obtain ⟨hd, hsz, k, hk, henv, hh⟩ := h
    exact ⟨hd, hsz, k, hk, henv, hh.grown hg (fun r e => (hr r e).2)⟩
  case assign =>
    intro l pre i W K hI hK
    have hsz0 : a3.tmps.size = 23 := hS.size
    have hsat : Sat 23 (evC1 b m s p o n c f z q1 q2 q3 q4 q5 (someD s pre) (pre.foldl (stepV m z f) ⟨0, 0, 0, 0⟩) i).fs { tmps := ((#[12, 13] : Array Tmp).zip #[.int .i64 (i : Int), nat4 (f i)]).foldl (fun t (p, v) => t.setIfInBounds p v) a3.tmps, defers := [] } W := by
      refine ⟨rfl, by simp [hsz0], fun t e ht => ?_, hI.holds, cm_apart hap _ _⟩
      have ht2 : Go.Eng.look ((12, .v (nat i)) :: (13, .v (nat4 (f i))) :: (evS0 b m s p o n c f z q1 q2 q3 q4 q5).env) t = some e := ht
      have hfold : ((#[12, 13] : Array Tmp).zip #[.int .i64 (i : Int), nat4 (f i)]).foldl (fun t (p, v) => t.setIfInBounds p v) a3.tmps = (a3.tmps.setIfInBounds 12 (.int .i64 (i : Int))).setIfInBounds 13 (nat4 (f i)) := by simp
      rw [hfold]
      show ((a3.tmps.setIfInBounds 12 (.int .i64 (i : Int))).setIfInBounds 13 (nat4 (f i)))[t]? = some e.den
      rw [look_cons] at ht2
      by_cases h12 : 12 = t
      · subst h12; rw [if_pos rfl] at ht2; cases ht2
        rw [Array.getElem?_setIfInBounds_ne (by omega), Array.getElem?_setIfInBounds_self_of_lt (by omega)]; rfl
      · rw [if_neg h12, look_cons] at ht2
        by_cases h13 : 13 = t
        · subst h13; rw [if_pos rfl] at ht2; cases ht2
          rw [Array.getElem?_setIfInBounds_self_of_lt (by simp; omega)]; rfl
        · rw [if_neg h13] at ht2
          rw [Array.getElem?_setIfInBounds_ne h13, Array.getElem?_setIfInBounds_ne h12]
          exact hS.env t e ht2
    refine wpIn_mono (evIn_sound mix 60 evAsg _ _ _ _ W (fun _ _ h => by cases h.1) ev_okA (eval_asg b m s p o n c f z q1 q2 q3 q4 q5 (someD s pre) (pre.foldl (stepV m z f) ⟨0, 0, 0, 0⟩) i) hsat) ?_
    rintro e a4 W4 ⟨s4, _, ⟨rfl, ⟨k, _, e4⟩⟩, hS4, hA4⟩
    have hle4 := keep_le s4 [0, 1, 2, 3, 5, 6, 7, 11, 9] [0, 1, 2, 3, 4, 5, 7] 8
    rw [e4] at hle4
    have hS4' := hS4.le hle4
    have hA4' := hA4.weak hle4.mem
    have hCW : Adv (evC0 b m s p o n c f z q1 q2 q3 q4 q5 (someD s pre) (pre.foldl (stepV m z f) ⟨0, 0, 0, 0⟩)).fs.mem W (evC2 b m s p o n c f z q1 q2 q3 q4 q5 (someD s pre) (pre.foldl (stepV m z f) ⟨0, 0, 0, 0⟩) i k).fs.mem W4 := hA4'
    have hno := cm_not hap (someD s pre) (pre.foldl (stepV m z f) ⟨0, 0, 0, 0⟩)
    refine hK a4 W4 (keeps_of_adv _ hCW hI.holds (cm_none _ _)) ⟨hCW.heap q5 (Nat.lt_of_lt_of_le (hlt 6 _ rfl) hI.adv.size) hno.1, hCW.heap p (Nat.lt_of_lt_of_le (hlt 1 _ rfl) hI.adv.size) hno.2⟩
      ⟨fun j x hj => hS4'.mem j x (c2_of _ _ i k j x hj), hI.adv.trans (hCW.weak fun j x hj => c2_of _ _ i k j x hj)⟩ ⟨hS4'.defers, hS4'.size, k, ?_, fun t e ht => hS4'.env t e ht, hS4'.mem 7 _ rfl⟩
    rcases hCW.names k ⟨7, _, rfl, rfl, rfl⟩ with ⟨j, x, hj, ho, hn'⟩ | h
    · obtain ⟨h6, _⟩ := cm_names _ _ j x hj
      exact absurd hn' (hS4'.apart j 7 x _ (by omega) (c2_of _ _ i k j x hj) rfl ho)
    · exact Nat.le_trans hI.adv.size h
  case body =>
    intro l pre i a' W _ _ hI hAx _
    obtain ⟨hd, hsz, k, hk, henv, hh⟩ := hAx
    have hkn : ∀ j x, (evC0 b m s p o n c f z q1 q2 q3 q4 q5 (someD s pre) (pre.foldl (stepV m z f) ⟨0, 0, 0, 0⟩)).fs.mem j = some x → x.name ≠ k := fun j x hj => by
      obtain ⟨_, y, h1, h2, _⟩ := cm_names _ _ j x hj
      have := hlt j y h1
      omega
    have hsat : Sat 23 (evC2 b m s p o n c f z q1 q2 q3 q4 q5 (someD s pre) (pre.foldl (stepV m z f) ⟨0, 0, 0, 0⟩) i k).fs a' W := by
      refine ⟨hd, hsz, fun t e ht => henv t e ht, fun j x hj => ?_, fun j1 j2 x1 x2 hj h1 h2 ho => ?_⟩
      · rcases c2_mem _ _ i k j x hj with ⟨rfl, rfl⟩ | h
        · exact hh
        · exact hI.holds j x h
      · rcases c2_mem _ _ i k j1 x1 h1 with ⟨rfl, rfl⟩ | g1
        · rcases c2_mem _ _ i k j2 x2 h2 with ⟨rfl, rfl⟩ | g2
          · exact absurd rfl hj
          · exact (hkn j2 x2 g2).symm
        · rcases c2_mem _ _ i k j2 x2 h2 with ⟨rfl, rfl⟩ | g2
          · exact hkn j1 x1 g1
          · exact cm_apart hap _ _ j1 j2 x1 x2 hj g1 g2 ho
    have hne2 : NonE (evC2 b m s p o n c f z q1 q2 q3 q4 q5 (someD s pre) (pre.foldl (stepV m z f) ⟨0, 0, 0, 0⟩) i k).fs.mem := fun j x hj ho => by
      rcases c2_mem _ _ i k j x hj with ⟨rfl, rfl⟩ | h
      · exact ⟨0, _, rfl⟩
      · exact cm_none _ _ j x h ho
    refine wpIn_mono (evIn_sound mix 60 evBody _ _ _ _ W (fun _ _ h => by cases h.1) ev_okB (eval_body b m s p o n c f z q1 q2 q3 q4 q5 hm (someD s pre) (pre.foldl (stepV m z f) ⟨0, 0, 0, 0⟩) i k) hsat) ?_
    rintro e a4 W4 ⟨s4, _, ⟨rfl, e4⟩, hS4, hA4⟩
    have hle4 := keep_le s4 [0, 1, 2, 3, 5, 6, 7, 11] [0, 1, 2, 3, 4, 5] 7
    rw [e4] at hle4
    have hS4' := hS4.le hle4
    have hA4' := hA4.weak hle4.mem
    have hno : ∀ q, q < w3.heap.size → ¬ Owns (evC0 b m s p o n c f z q1 q2 q3 q4 q5 (someD s pre) (pre.foldl (stepV m z f) ⟨0, 0, 0, 0⟩)).fs.mem q → ¬ Owns (evC2 b m s p o n c f z q1 q2 q3 q4 q5 (someD s pre) (pre.foldl (stepV m z f) ⟨0, 0, 0, 0⟩) i k).fs.mem q := fun q hq hno ⟨j, x, hj, ho, hn'⟩ => by
      rcases c2_mem _ _ i k j x hj with ⟨rfl, rfl⟩ | h
      · simp only at hn'; omega
      · exact hno ⟨j, x, h, ho, hn'⟩
    have hnn := cm_not hap (someD s pre) (pre.foldl (stepV m z f) ⟨0, 0, 0, 0⟩)
    have h5 : q5 < w3.heap.size := hlt 6 _ rfl
    have hp : p < w3.heap.size := hlt 1 _ rfl
    refine ⟨keeps_of_adv _ hA4' hsat.mem hne2, ⟨hA4'.heap q5 (Nat.lt_of_lt_of_le h5 hI.adv.size) (hno q5 h5 hnn.1), hA4'.heap p (Nat.lt_of_lt_of_le hp hI.adv.size) (hno p hp hnn.2)⟩, ?_⟩
    show IE _ _ (evC0 b m s p o n c f z q1 q2 q3 q4 q5 (someD s (pre ++ [i])) ((pre ++ [i]).foldl (stepV m z f) ⟨0, 0, 0, 0⟩)).fs.mem W4
    rw [someD_snoc, acc_snoc]
    refine ⟨hS4'.mem, ?_⟩
    have hB := hI.adv
    refine ⟨hA4'.os.trans hB.os, hA4'.output.trans hB.output, hA4'.tape.trans hB.tape, Nat.le_trans hB.size hA4'.size, fun q hq hnq => ?_, fun q hq => ?_, fun j x hj ho => ?_⟩
    · have hq0 : ¬ Owns (evC0 b m s p o n c f z q1 q2 q3 q4 q5 (someD s pre) (pre.foldl (stepV m z f) ⟨0, 0, 0, 0⟩)).fs.mem q := fun hh => by
        rcases hB.names q hh with h1 | h1
        · exact hnq h1
        · omega
      exact (hA4'.heap q (Nat.lt_of_lt_of_le hq hB.size) (hno q hq hq0)).trans (hB.heap q hq hnq)
    · obtain ⟨j, x, hj, ho, hn'⟩ := hq
      obtain ⟨_, y, h1, h2, h3⟩ := cm_names _ _ j x hj
      exact .inl ⟨j, y, h1, h3.trans ho, h2.trans hn'⟩
    · exact cm_ro _ _ j x hj ho
  case done =>
    rintro D xs W hD rfl hI hK
    have hqs : w3.cell? ⟨q4, 0, none⟩ = some (u64 0) := (hS.mem 5 _ rfl).cell 0 _ rfl
    generalize hv : (cameL n 0).foldl (stepV m z f) ⟨0, 0, 0, 0⟩ = v at hI
    generalize hdd : someD s (cameL n 0) = d at hI
    show (Code.seq evR .ret).wpIn Fence.wide 3 Try.prog _ _ W
    refine wpIn_seq ?_
    rw [evR_eq]
    refine wpIn_region (ops2_in evO0_at evO1_at (by kernel_rfl) evO0_g evO1_g ?_)
    have hVb := hI.holds 5 _ rfl
    have hRb := hI.holds 4 _ rfl
    have e7 : a3.tmps[7]? = some (ptr q4 0) := hS.env 7 (.v (ptr q4 0)) rfl
    have e6 : a3.tmps[6]? = some (ptr q3 0) := hS.env 6 (.v (ptr q3 0)) rfl
    have hsz : a3.tmps.size = 23 := hS.size
    refine opIn_value (fun c h => by rw [evO0_op] at h; cases h) (v := nat4 v) (run_ld (b := q4) (cs := cellsN v) evO0_op (by simp [Act.eval, e7]; rfl) (by kernel_rfl) (by kernel_rfl) (fun k u hk => by have := hVb.cell k u (by exact hk); simpa using this)) ?_
    rw [evO0_dst]
    refine opIn_skip (fun c h => by rw [evO1_op] at h; cases h) (run_st (b := q3) (v := nat4 v) evO1_op (by simp [Act.eval, Act.put, e6]; rfl) (by simp [Act.eval, Act.put, hsz]) (by kernel_rfl) (by intro u hu; simp [nat4, Value.cells] at hu; rcases hu with rfl | rfl | rfl | rfl <;> rfl)
      (fun k hk => ?_) (fun k hk => ?_)) ?_
    · have hk4 : k < 4 := hk
      have : ∃ u, (Cont.lit [u64 0, u64 0, u64 0, u64 0]).get k = some u := by
        rcases k with _ | _ | _ | _ | k
        · exact ⟨_, rfl⟩
        · exact ⟨_, rfl⟩
        · exact ⟨_, rfl⟩
        · exact ⟨_, rfl⟩
        · omega
      obtain ⟨u, hu⟩ := this
      exact ⟨u, by have := hRb.cell k u hu; simpa using this⟩
    · have hk4 : k < 4 := hk
      have : ∃ u, (Cont.lit [u64 0, u64 0, u64 0, u64 0]).get k = some u := by
        rcases k with _ | _ | _ | _ | k
        · exact ⟨_, rfl⟩
        · exact ⟨_, rfl⟩
        · exact ⟨_, rfl⟩
        · exact ⟨_, rfl⟩
        · omega
      obtain ⟨u, hu⟩ := this
      have := hRb.free rfl k u hu
      simpa using this
    rw [evO1_dst]
    have hpost : Post (evC0 b m s p o n c f z q1 q2 q3 q4 q5 d v).fs.mem W (memApply (evC0 b m s p o n c f z q1 q2 q3 q4 q5 d v).fs.mem [(4, some ⟨q3, true, 0, .lit (cellsN v)⟩)]) (W.setCells q3 0 (cellsN v)) := post_store (c := .lit (cellsN v)) (l := .lit 0) (cs := cellsN v) hI.holds (cm_apart hap d v) (p := 4) (b := ⟨q3, true, 0, .lit [u64 0, u64 0, u64 0, u64 0]⟩) rfl rfl rfl trivial
    have hkeep := keeps_of_adv w3.heap.size hpost.adv hI.holds (cm_none d v)
    have hK4 := hkeep.same D _ hD hK rfl
    show (Code.ret).wpIn Fence.wide 3 Try.prog _ _ (W.setCells q3 0 (cellsN v))
    generalize W.setCells q3 0 (cellsN v) = W4 at hpost hkeep hK4 ⊢
    refine wpIn_ret ?_
    refine ⟨by simp, .inl ⟨D, _, rfl, run_takeDeferred hK4, ?_⟩⟩
    have hgr := grownBy_putObj' W4 D (.deferred none)
    have hrow : ∀ r, some D = some r → ∃ o : Obj, W4.heap[r]? = some o ∧ o.isCells = false := fun r e => by cases e; exact ⟨_, hK4, rfl⟩
    rw [hS.defers]
    refine ⟨nat4 v, ?_, [], rfl, ?_, ?_⟩
    · exact eval_end (hpost.holds 4 _ rfl) hK4 e6 hsz
    · rw [horM, hv]
    · have hfin : Adv (listMem ([⟨b, true, 0, .lit [(u64 m.a), (u64 m.b), (u64 m.c), (u64 m.d), (u32 (doneS s)), (Value.int .i32 0), (u32 0), (u64 ((lackS m s).a)), (u64 ((lackS m s).b)), (u64 ((lackS m s).c)), (u64 ((lackS m s).d)), (u64 ((oneS m s).a)), (u64 ((oneS m s).b)), (u64 ((oneS m s).c)), (u64 ((oneS m s).d)), (u64 ((twoS m s).a)), (u64 ((twoS m s).b)), (u64 ((twoS m s).c)), (u64 ((twoS m s).d))]⟩, ⟨p, false, o, tabN n f⟩].map some)) w _ (W4.putObj D (.deferred none)) := (hA.trans (hI.adv.trans hpost.adv)).grown hgr (fun r e => by cases e; exact Nat.le_trans hA.size hD)
      have hout : ∀ k (x : Blk), listMem [some ⟨b, true, 0, .lit [(u64 m.a), (u64 m.b), (u64 m.c), (u64 m.d), (u32 (doneS d)), (Value.int .i32 0), (u32 0), (u64 ((lackS m d).a)), (u64 ((lackS m d).b)), (u64 ((lackS m d).c)), (u64 ((lackS m d).d)), (u64 ((oneS m d).a)), (u64 ((oneS m d).b)), (u64 ((oneS m d).c)), (u64 ((oneS m d).d)), (u64 ((twoS m d).a)), (u64 ((twoS m d).b)), (u64 ((twoS m d).c)), (u64 ((twoS m d).d))]⟩, none] k = some x → (evC0 b m s p o n c f z q1 q2 q3 q4 q5 d v).fs.mem k = some x ∧ k = 0
        | 0, x, h => ⟨h, rfl⟩
        | 1, x, h => by cases h
        | k + 2, x, h => by simp [listMem] at h
      subst hdd
      refine ⟨fun k x hk => ?_, fun i j x y hij hx hy _ => absurd ((hout i x hx).2.trans (hout j y hy).2.symm) hij, hfin.weak fun k x hk => ?_⟩
      · obtain ⟨h1, rfl⟩ := hout k x hk
        exact (hpost.holds 0 x h1).grown hgr hrow
      · obtain ⟨h1, rfl⟩ := hout k x hk
        exact h1
  case stop =>
    rintro D c' pre W _ _ h _
    exact h.elim
end Go.Proofs.Ytmaejpooanenpaa
