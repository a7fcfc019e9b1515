/-
  slices.Backward over numbers of four words: its contract.
-/
import Derived.RangeFuncBox
import Derived.RangeFuncLeaves
import Derived.Shelf.Abstract
import Derived.WalkKit
import Derived.OwnWalkIn
import Derived.TacticsInMore
import Derived.LoopNIn
import Derived.LoopIn
import Derived.Test.YtmaejpooanenpaaEngR
import Derived.Test.YtmaejpooanenpaaProg
namespace Go.Proofs.Ytmaejpooanenpaa
open Go Go.Eng Go.RowKit Go.Shelf
attribute [local go_sem] Oper.semAt_some
set_option maxRecDepth 100000
set_option maxHeartbeats 2000000
set_option linter.unusedVariables false
/-- What a round keeps: the slice's cells, and the box that holds it. -/
structure KpB (Bs b : Nat) (A B : World) : Prop where
  box : B.heap[Bs]? = A.heap[Bs]?
  row : B.heap[b]? = A.heap[b]?
theorem tabN_at {n : Nat} {f : Nat → N4} {k j : Nat} {v : Value} (hk : k < n) (hj : (cellsN (f k))[j]? = some v) : (tabN n f).get (k * 4 + j) = some v := by
  have hj4 : j < 4 := (List.getElem?_eq_some_iff.1 hj).1
  rw [Cont.get_tab (by omega), show k * 4 + j = 4 * k + j by omega, Nat.mul_add_div (by omega), Nat.div_eq_of_lt hj4, Nat.add_zero, Nat.mul_add_mod, Nat.mod_eq_of_lt hj4]
  exact hj
theorem back1_in (n l Bs b off len cap : Nat) (f : Nat → N4) (hn : 1 ≤ n) (J Jx : List Nat → World → Prop) (hlen : len ≤ 9223372036854775807)
    (hY : ∀ pre (x : Nat) W, J pre W → pre.length < len → YieldAt Fence.wide (n - 1) Try.prog l #[.int .i64 x, nat4 (f x)] W fun e W' =>
      (e = .returned (.bool true) ∧ J (pre ++ [x]) W' ∧ KpB Bs b W W') ∨ (e = .returned (.bool false) ∧ Jx (pre ++ [x]) W'))
    (W : World) (hBs : W.cell? ⟨Bs, 0, none⟩ = some (.slice (some ⟨b, off, none⟩) len cap)) (hc : Holds ⟨b, false, off, tabN len f⟩ W) (h0 : J [] W) :
    CallsIn Fence.wide n Try.prog 61 #[.func (.yield l) #[] #[], .pointer (some ⟨Bs, 0, none⟩)] W fun e W' => (∃ v, e = .returned v) ∧ (J (cameL len 0) W' ∨ ∃ pre, Jx pre W') := by
  refine callsIn_of_wp Try.func61 rfl trivial ?_ rfl
  simp only [Try.ntmps61, List.size_toArray, List.length_cons, List.length_nil, Nat.reduceAdd, Nat.reduceSub, Array.replicate_succ, Array.replicate_zero, List.push_toArray, List.append_toArray, List.nil_append, List.cons_append]
  gi_wp2
  gi_loopw [3] (fun i wr => ∃ k : Nat, k ≤ len ∧ i = .int .i64 ((k : Int) - 1) ∧ J (cameL len k) wr ∧ KpB Bs b W wr) (fun i _ => (intOf i + 1).toNat)
  case atStart => exact ⟨len, Nat.le_refl _, rfl, by rw [cameL_none]; exact h0, ⟨rfl, rfl⟩⟩
  case round =>
    obtain ⟨k, hk, rfl, hJs, hnx⟩ := hrel
    have hBs' : wr.cell? ⟨Bs, 0, none⟩ = some (.slice (some ⟨b, off, none⟩) len cap) := (World.cell?_of_block hnx.box).trans hBs
    cases k with
    | zero =>
      gi_wp2
      go_end0
      exact ⟨⟨_, rfl⟩, .inl hJs⟩
    | succ k =>
      obtain ⟨fn, tmps, assign, body, hy, hR⟩ := hY _ k wr hJs (by rw [cameL_len]; omega)
      have hq : ∀ j v, (cellsN (f k))[j]? = some v → wr.cell? ⟨b, off + k * 4 + j, none⟩ = some v := fun j v hj => by
        rw [Nat.add_assoc]; exact (World.cell?_of_block hnx.row).trans (hc.cell _ v (tabN_at (by omega) hj))
      have hq0 : wr.cell? { block := b, off := off + k * 4 } = some (.int .u64 (f k).a.toNat) := hq 0 _ rfl
      have hq1 : wr.cell? { block := b, off := off + k * 4 + 1 } = some (.int .u64 (f k).b.toNat) := hq 1 _ rfl
      have hq2 : wr.cell? { block := b, off := off + k * 4 + 2 } = some (.int .u64 (f k).c.toNat) := hq 2 _ rfl
      have hq3 : wr.cell? { block := b, off := off + k * 4 + 3 } = some (.int .u64 (f k).d.toNat) := hq 3 _ rfl
      have hy2 : Sem.run Try.prog (Instr.yield l #[Value.int IntKind.i64 k, Value.agg #[.int .u64 (f k).a.toNat, .int .u64 (f k).b.toNat, .int .u64 (f k).c.toNat, .int .u64 (f k).d.toNat]]) wr = Result.ok (Next.round l fn tmps assign body) wr := hy
      clear hq hy hY
      gi_wp2
      refine hR.mono ?_
      rintro e W3 (⟨rfl, hJ3, hk3⟩ | ⟨rfl, hJx3⟩)
      · gi_wp2
        go_roundw
        case rel => exact ⟨k, by omega, by simp, by rw [cameL_next hk]; exact hJ3, ⟨hk3.box.trans hnx.box, hk3.row.trans hnx.row⟩⟩
        case measure => simp [intOf]
      · gi_wp2
        refine bodyPost_ret (results_none rfl _ _ _) rfl ?_
        exact ⟨⟨_, rfl⟩, .inr ⟨_, hJx3⟩⟩
theorem back1_nil_in (n l Bs : Nat) (a : Option Addr) (cap : Nat) (hn : 1 ≤ n) (J : List Nat → World → Prop) (W : World) (hBs : W.cell? ⟨Bs, 0, none⟩ = some (.slice a 0 cap)) (h0 : J [] W) :
    CallsIn Fence.wide n Try.prog 61 #[.func (.yield l) #[] #[], .pointer (some ⟨Bs, 0, none⟩)] W fun e W' => (∃ v, e = .returned v) ∧ J [] W' := by
  refine callsIn_of_wp Try.func61 rfl trivial ?_ rfl
  simp only [Try.ntmps61, List.size_toArray, List.length_cons, List.length_nil, Nat.reduceAdd, Nat.reduceSub, Array.replicate_succ, Array.replicate_zero, List.push_toArray, List.append_toArray, List.nil_append, List.cons_append]
  gi_wp2
  gi_loopw [3] (fun i wr => i = .int .i64 (-1) ∧ J [] wr) (fun _ _ => 0)
  case atStart => exact ⟨rfl, h0⟩
  case round =>
    obtain ⟨rfl, hJs⟩ := hrel
    gi_wp2
    go_end0
    exact ⟨⟨_, rfl⟩, hJs⟩
end Go.Proofs.Ytmaejpooanenpaa
