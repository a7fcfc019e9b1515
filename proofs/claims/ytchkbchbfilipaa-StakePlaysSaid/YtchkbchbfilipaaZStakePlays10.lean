/-
  Many in one: StkOp, Stake3, Stake4, StkOq, StkNw, StkAdt, Stake5, OpRec, Stake6, StkDn, StkAw, Stake7, Stake8, GsU8, CodG.
-/
import Derived.Test.YtchkbchbfilipaaZStakePlays9
set_option linter.unusedVariables false
set_option linter.unusedSimpArgs false
set_option maxRecDepth 100000
set_option exponentiation.threshold 600
set_option maxHeartbeats 1000000
section
namespace Go.Proofs.Ytchkbchbfilipaa
open Go Go.Eng
theorem bond_in (w N pu pr pc : Nat) (wa : Option Addr) (wn wc : Nat) (b e d : UInt64) (G : Nat → UInt64) (i : Nat) (x : UInt64) (hi : i < N) (hN : N ≤ 8) : Runs Try.prog 24 [(ptr w 0), (nat i), (u64 x)] [⟨w, false, 0, (.lit [(nat N), (ptr pu 0), (Value.slice wa wn wc), (u64 b), (u64 e), (u64 d)])⟩, ⟨pu, false, 0, (.lit [(Value.slice (some ⟨pr, 0, none⟩) (3 * N + 2) pc)])⟩, ⟨pr, true, 0, (tabF (3 * N + 2) (fun k => u64 (G k)))⟩] 0 (fun _ => int (moveE (3 * N + 2) G ((0 * N + i : Nat) : Int) ((1 * N + i : Nat) : Int) x)) (fun _ => [some ⟨w, false, 0, (.lit [(nat N), (ptr pu 0), (Value.slice wa wn wc), (u64 b), (u64 e), (u64 d)])⟩, some ⟨pu, false, 0, (.lit [(Value.slice (some ⟨pr, 0, none⟩) (3 * N + 2) pc)])⟩, some ⟨pr, true, 0, (tabF (3 * N + 2) (fun k => u64 (moveF (3 * N + 2) G ((0 * N + i : Nat) : Int) ((1 * N + i : Nat) : Int) x k)))⟩]) :=
  runs_of_ev mix Try.func24 rfl rfl 400 (.reg (rg [.g]) (.reg (rg [.g, .g, (.call [(0, true)] 0 0 (fun _ => (Value.bool (isI N ((i : Nat) : Int)))) (fun _ => [none])), .g]) (.no (.reg (rg [.g, .g, .g, (.ld 0 (.lit 1)), .g, .g, (.call [(0, true)] 0 0 (fun _ => (nat (0 * N + i))) (fun _ => [none])), .g, .g, (.call [(0, true)] 0 0 (fun _ => (nat (1 * N + i))) (fun _ => [none])), .g, (.call [(1, true), (2, false)] 0 0 (fun _ => (int (moveE (3 * N + 2) G ((0 * N + i : Nat) : Int) ((1 * N + i : Nat) : Int) x))) (fun _ => [none, some ⟨pr, true, 0, (tabF (3 * N + 2) (fun k => u64 (moveF (3 * N + 2) G ((0 * N + i : Nat) : Int) ((1 * N + i : Nat) : Int) x k)))⟩])), .g]) .done)))) [] [] rfl
    (Eq.mp (by kernel_rfl) (aI kV1 (aI (sK2 (aI (aT (Runs.dark [true] (lthere_runs w N (ptr pu 0) (Value.slice wa wn wc) (u64 b) (u64 e) (u64 d) ((i : Nat) : Int) (show N ≤ 8 from by omega)))) kV1)) ((fun (hp1 : (!(isI N ((i : Nat) : Int))) = false) => have f2 : (isI N ((i : Nat) : Int)) = true := (bnot_f hp1); aT (aI hp1 (aI (sK3 (aI (aT (ad w 1)) (sK2 (aI (aT (Runs.dark [true] (acct_runs w N (ptr pu 0) (Value.slice wa wn wc) (u64 b) (u64 e) (u64 d) 0 i (show 0 ≤ 2 from by omega) (show i < N from by omega) (show N ≤ 8 from by omega)))) (sK2 (aI (aT (Runs.dark [true] (acct_runs w N (ptr pu 0) (Value.slice wa wn wc) (u64 b) (u64 e) (u64 d) 1 i (show 1 ≤ 2 from by omega) (show i < N from by omega) (show N ≤ 8 from by omega)))) (sk (aI (aT (Runs.dark [true, false] (move_runs pu pr (3 * N + 2) pc G ((0 * N + i : Nat) : Int) ((1 * N + i : Nat) : Int) x (show (3 * N + 2) ≤ 40 from by omega)))) kV1)))))))) (aT (eX (fun (ns : List Nat) => ns.length = 0 ∧ ((int (moveE (3 * N + 2) G ((0 * N + i : Nat) : Int) ((1 * N + i : Nat) : Int) x)) : Value) = (fun _ => int (moveE (3 * N + 2) G ((0 * N + i : Nat) : Int) ((1 * N + i : Nat) : Int) x)) ns ∧ ([some ⟨w, false, 0, (.lit [(nat N), (ptr pu 0), (Value.slice wa wn wc), (u64 b), (u64 e), (u64 d)])⟩, some ⟨pu, false, 0, (.lit [(Value.slice (some ⟨pr, 0, none⟩) (3 * N + 2) pc)])⟩, some ⟨pr, true, 0, (tabF (3 * N + 2) (fun k => u64 (moveF (3 * N + 2) G ((0 * N + i : Nat) : Int) ((1 * N + i : Nat) : Int) x k)))⟩] : List (Option Blk)) = (fun _ => [some ⟨w, false, 0, (.lit [(nat N), (ptr pu 0), (Value.slice wa wn wc), (u64 b), (u64 e), (u64 d)])⟩, some ⟨pu, false, 0, (.lit [(Value.slice (some ⟨pr, 0, none⟩) (3 * N + 2) pc)])⟩, some ⟨pr, true, 0, (tabF (3 * N + 2) (fun k => u64 (moveF (3 * N + 2) G ((0 * N + i : Nat) : Int) ((1 * N + i : Nat) : Int) x k)))⟩]) ns) [] (aI (@rfl Nat 0) (aI (@rfl Value (int (moveE (3 * N + 2) G ((0 * N + i : Nat) : Int) ((1 * N + i : Nat) : Int) x))) (@rfl (List (Option Blk)) [some ⟨w, false, 0, (.lit [(nat N), (ptr pu 0), (Value.slice wa wn wc), (u64 b), (u64 e), (u64 d)])⟩, some ⟨pu, false, 0, (.lit [(Value.slice (some ⟨pr, 0, none⟩) (3 * N + 2) pc)])⟩, some ⟨pr, true, 0, (tabF (3 * N + 2) (fun k => u64 (moveF (3 * N + 2) G ((0 * N + i : Nat) : Int) ((1 * N + i : Nat) : Int) x k)))⟩])))))))) (show (!(isI N ((i : Nat) : Int))) = false from by rw [isI_nat hi] <;> rfl)))))
theorem bond_out (w N pu pr pc : Nat) (wa : Option Addr) (wn wc : Nat) (b e d : UInt64) (G : Nat → UInt64) (i : Int) (x : UInt64) (hi : isI N i = false) (hN : N ≤ 8) : Runs Try.prog 24 [(ptr w 0), (int i), (u64 x)] [⟨w, false, 0, (.lit [(nat N), (ptr pu 0), (Value.slice wa wn wc), (u64 b), (u64 e), (u64 d)])⟩, ⟨pu, false, 0, (.lit [(Value.slice (some ⟨pr, 0, none⟩) (3 * N + 2) pc)])⟩, ⟨pr, true, 0, (tabF (3 * N + 2) (fun k => u64 (G k)))⟩] 0 (fun _ => int 1) (fun _ => [some ⟨w, false, 0, (.lit [(nat N), (ptr pu 0), (Value.slice wa wn wc), (u64 b), (u64 e), (u64 d)])⟩, some ⟨pu, false, 0, (.lit [(Value.slice (some ⟨pr, 0, none⟩) (3 * N + 2) pc)])⟩, some ⟨pr, true, 0, (tabF (3 * N + 2) (fun k => u64 (G k)))⟩]) :=
  runs_of_ev mix Try.func24 rfl rfl 400 (.reg (rg [.g]) (.reg (rg [.g, .g, (.call [(0, true)] 0 0 (fun _ => (Value.bool (isI N i))) (fun _ => [none])), .g]) (.yes (.reg (rg [.g]) .done)))) [] [] rfl
    (Eq.mp (by kernel_rfl) (aI kV1 (aI (sK2 (aI (aT (Runs.dark [true] (lthere_runs w N (ptr pu 0) (Value.slice wa wn wc) (u64 b) (u64 e) (u64 d) i (show N ≤ 8 from by omega)))) kV1)) ((fun (hp1 : (!(isI N i)) = true) => have f1 : (isI N i) = false := (bnot_t hp1); aT (aI hp1 (aI kV1 (aT (eX (fun (ns : List Nat) => ns.length = 0 ∧ ((int 1) : Value) = (fun _ => int 1) ns ∧ ([some ⟨w, false, 0, (.lit [(nat N), (ptr pu 0), (Value.slice wa wn wc), (u64 b), (u64 e), (u64 d)])⟩, some ⟨pu, false, 0, (.lit [(Value.slice (some ⟨pr, 0, none⟩) (3 * N + 2) pc)])⟩, some ⟨pr, true, 0, (tabF (3 * N + 2) (fun k => u64 (G k)))⟩] : List (Option Blk)) = (fun _ => [some ⟨w, false, 0, (.lit [(nat N), (ptr pu 0), (Value.slice wa wn wc), (u64 b), (u64 e), (u64 d)])⟩, some ⟨pu, false, 0, (.lit [(Value.slice (some ⟨pr, 0, none⟩) (3 * N + 2) pc)])⟩, some ⟨pr, true, 0, (tabF (3 * N + 2) (fun k => u64 (G k)))⟩]) ns) [] (aI (@rfl Nat 0) (aI (@rfl Value (int 1)) (@rfl (List (Option Blk)) [some ⟨w, false, 0, (.lit [(nat N), (ptr pu 0), (Value.slice wa wn wc), (u64 b), (u64 e), (u64 d)])⟩, some ⟨pu, false, 0, (.lit [(Value.slice (some ⟨pr, 0, none⟩) (3 * N + 2) pc)])⟩, some ⟨pr, true, 0, (tabF (3 * N + 2) (fun k => u64 (G k)))⟩])))))))) (show (!(isI N i)) = true from by rw [hi] <;> rfl)))))
theorem unbond_out (w N pu pr pc : Nat) (wa : Option Addr) (wn wc : Nat) (b e d : UInt64) (G : Nat → UInt64) (i : Int) (x : UInt64) (hi : isI N i = false) (hN : N ≤ 8) : Runs Try.prog 25 [(ptr w 0), (int i), (u64 x)] [⟨w, false, 0, (.lit [(nat N), (ptr pu 0), (Value.slice wa wn wc), (u64 b), (u64 e), (u64 d)])⟩, ⟨pu, false, 0, (.lit [(Value.slice (some ⟨pr, 0, none⟩) (3 * N + 2) pc)])⟩, ⟨pr, false, 0, (tabF (3 * N + 2) (fun k => u64 (G k)))⟩] 0 (fun _ => int 1) (fun _ => [some ⟨w, false, 0, (.lit [(nat N), (ptr pu 0), (Value.slice wa wn wc), (u64 b), (u64 e), (u64 d)])⟩, some ⟨pu, false, 0, (.lit [(Value.slice (some ⟨pr, 0, none⟩) (3 * N + 2) pc)])⟩, some ⟨pr, false, 0, (tabF (3 * N + 2) (fun k => u64 (G k)))⟩]) :=
  runs_of_ev mix Try.func25 rfl rfl 400 (.reg (rg [.g]) (.reg (rg [.g, .g, (.call [(0, true)] 0 0 (fun _ => (Value.bool (isI N i))) (fun _ => [none])), .g, .g]) (.yes (.reg (rg [.g]) .done)))) [] [] rfl
    (Eq.mp (by kernel_rfl) (aI kV1 (aI (sK2 (aI (aT (Runs.dark [true] (lthere_runs w N (ptr pu 0) (Value.slice wa wn wc) (u64 b) (u64 e) (u64 d) i (show N ≤ 8 from by omega)))) kV2)) ((fun (hp1 : (!(isI N i)) = true) => have f1 : (isI N i) = false := (bnot_t hp1); aT (aI hp1 (aI kV1 (aT (eX (fun (ns : List Nat) => ns.length = 0 ∧ ((int 1) : Value) = (fun _ => int 1) ns ∧ ([some ⟨w, false, 0, (.lit [(nat N), (ptr pu 0), (Value.slice wa wn wc), (u64 b), (u64 e), (u64 d)])⟩, some ⟨pu, false, 0, (.lit [(Value.slice (some ⟨pr, 0, none⟩) (3 * N + 2) pc)])⟩, some ⟨pr, false, 0, (tabF (3 * N + 2) (fun k => u64 (G k)))⟩] : List (Option Blk)) = (fun _ => [some ⟨w, false, 0, (.lit [(nat N), (ptr pu 0), (Value.slice wa wn wc), (u64 b), (u64 e), (u64 d)])⟩, some ⟨pu, false, 0, (.lit [(Value.slice (some ⟨pr, 0, none⟩) (3 * N + 2) pc)])⟩, some ⟨pr, false, 0, (tabF (3 * N + 2) (fun k => u64 (G k)))⟩]) ns) [] (aI (@rfl Nat 0) (aI (@rfl Value (int 1)) (@rfl (List (Option Blk)) [some ⟨w, false, 0, (.lit [(nat N), (ptr pu 0), (Value.slice wa wn wc), (u64 b), (u64 e), (u64 d)])⟩, some ⟨pu, false, 0, (.lit [(Value.slice (some ⟨pr, 0, none⟩) (3 * N + 2) pc)])⟩, some ⟨pr, false, 0, (tabF (3 * N + 2) (fun k => u64 (G k)))⟩])))))))) (show (!(isI N i)) = true from by rw [hi] <;> rfl)))))
theorem unbond_poor (w N pu pr pc : Nat) (wa : Option Addr) (wn wc : Nat) (b e d : UInt64) (G : Nat → UInt64) (i : Nat) (x : UInt64) (hi : i < N) (hN : N ≤ 8) (hx : G (1 * N + i) < x) : Runs Try.prog 25 [(ptr w 0), (nat i), (u64 x)] [⟨w, false, 0, (.lit [(nat N), (ptr pu 0), (Value.slice wa wn wc), (u64 b), (u64 e), (u64 d)])⟩, ⟨pu, false, 0, (.lit [(Value.slice (some ⟨pr, 0, none⟩) (3 * N + 2) pc)])⟩, ⟨pr, false, 0, (tabF (3 * N + 2) (fun k => u64 (G k)))⟩] 0 (fun _ => int 50) (fun _ => [some ⟨w, false, 0, (.lit [(nat N), (ptr pu 0), (Value.slice wa wn wc), (u64 b), (u64 e), (u64 d)])⟩, some ⟨pu, false, 0, (.lit [(Value.slice (some ⟨pr, 0, none⟩) (3 * N + 2) pc)])⟩, some ⟨pr, false, 0, (tabF (3 * N + 2) (fun k => u64 (G k)))⟩]) :=
  runs_of_ev mix Try.func25 rfl rfl 400 (.reg (rg [.g]) (.reg (rg [.g, .g, (.call [(0, true)] 0 0 (fun _ => (Value.bool (isI N ((i : Nat) : Int)))) (fun _ => [none])), .g, .g]) (.no (.reg (rg [.g, .g, (.call [(0, true), (1, true), (2, true)] 0 0 (fun _ => (u64 (lgH N G 1 ((i : Nat) : Int)))) (fun _ => [none, none, none])), .g, (.as (Value.bool (decide ((lgH N G 1 ((i : Nat) : Int)) < x)))), .g]) (.yes (.reg (rg [.g]) .done)))))) [] [] rfl
    (Eq.mp (by kernel_rfl) (aI kV1 (aI (sK2 (aI (aT (Runs.dark [true] (lthere_runs w N (ptr pu 0) (Value.slice wa wn wc) (u64 b) (u64 e) (u64 d) ((i : Nat) : Int) (show N ≤ 8 from by omega)))) kV2)) ((fun (hp1 : (!(isI N ((i : Nat) : Int))) = false) => have f2 : (isI N ((i : Nat) : Int)) = true := (bnot_f hp1); aT (aI hp1 (aI (sK2 (aI (aT (Runs.dark [true, true, true] (lbonded_runs w N pu pr pc wa wn wc b e d G ((i : Nat) : Int) (show N ≤ 8 from by omega)))) (sk (aI (aT (@is_lss64 Try.prog 23 23 (.tmp 15) (.tmp 16) (lgH N G 1 ((i : Nat) : Int)) x)) kV1)))) ((fun (hp2 : (decide ((lgH N G 1 ((i : Nat) : Int)) < x)) = true) => have f3 := (oT hp2); aT (aI hp2 (aI kV1 (aT (eX (fun (ns : List Nat) => ns.length = 0 ∧ ((int 50) : Value) = (fun _ => int 50) ns ∧ ([some ⟨w, false, 0, (.lit [(nat N), (ptr pu 0), (Value.slice wa wn wc), (u64 b), (u64 e), (u64 d)])⟩, some ⟨pu, false, 0, (.lit [(Value.slice (some ⟨pr, 0, none⟩) (3 * N + 2) pc)])⟩, some ⟨pr, false, 0, (tabF (3 * N + 2) (fun k => u64 (G k)))⟩] : List (Option Blk)) = (fun _ => [some ⟨w, false, 0, (.lit [(nat N), (ptr pu 0), (Value.slice wa wn wc), (u64 b), (u64 e), (u64 d)])⟩, some ⟨pu, false, 0, (.lit [(Value.slice (some ⟨pr, 0, none⟩) (3 * N + 2) pc)])⟩, some ⟨pr, false, 0, (tabF (3 * N + 2) (fun k => u64 (G k)))⟩]) ns) [] (aI (@rfl Nat 0) (aI (@rfl Value (int 50)) (@rfl (List (Option Blk)) [some ⟨w, false, 0, (.lit [(nat N), (ptr pu 0), (Value.slice wa wn wc), (u64 b), (u64 e), (u64 d)])⟩, some ⟨pu, false, 0, (.lit [(Value.slice (some ⟨pr, 0, none⟩) (3 * N + 2) pc)])⟩, some ⟨pr, false, 0, (tabF (3 * N + 2) (fun k => u64 (G k)))⟩])))))))) (show (decide ((lgH N G 1 ((i : Nat) : Int)) < x)) = true from by rw [show lgH N G 1 ((i : Nat) : Int) = G (1 * N + i) from by (unfold lgH; rw [isI_nat hi]; rfl)]; exact decide_eq_true hx))))) (show (!(isI N ((i : Nat) : Int))) = false from by rw [isI_nat hi] <;> rfl)))))
theorem unbond_zero (w N pu pr pc : Nat) (wa : Option Addr) (wn wc : Nat) (b e d : UInt64) (G : Nat → UInt64) (i : Nat) (x : UInt64) (hi : i < N) (hN : N ≤ 8) (hx : ¬ G (1 * N + i) < x) (hz : (x == 0) = true) : Runs Try.prog 25 [(ptr w 0), (nat i), (u64 x)] [⟨w, false, 0, (.lit [(nat N), (ptr pu 0), (Value.slice wa wn wc), (u64 b), (u64 e), (u64 d)])⟩, ⟨pu, false, 0, (.lit [(Value.slice (some ⟨pr, 0, none⟩) (3 * N + 2) pc)])⟩, ⟨pr, false, 0, (tabF (3 * N + 2) (fun k => u64 (G k)))⟩] 0 (fun _ => int 0) (fun _ => [some ⟨w, false, 0, (.lit [(nat N), (ptr pu 0), (Value.slice wa wn wc), (u64 b), (u64 e), (u64 d)])⟩, some ⟨pu, false, 0, (.lit [(Value.slice (some ⟨pr, 0, none⟩) (3 * N + 2) pc)])⟩, some ⟨pr, false, 0, (tabF (3 * N + 2) (fun k => u64 (G k)))⟩]) :=
  runs_of_ev mix Try.func25 rfl rfl 400 (.reg (rg [.g]) (.reg (rg [.g, .g, (.call [(0, true)] 0 0 (fun _ => (Value.bool (isI N ((i : Nat) : Int)))) (fun _ => [none])), .g, .g]) (.no (.reg (rg [.g, .g, (.call [(0, true), (1, true), (2, true)] 0 0 (fun _ => (u64 (lgH N G 1 ((i : Nat) : Int)))) (fun _ => [none, none, none])), .g, (.as (Value.bool (decide ((lgH N G 1 ((i : Nat) : Int)) < x)))), .g]) (.no (.reg (rg [.g, (.as (Value.bool (x == 0))), .g]) (.yes (.reg (rg [.g]) .done)))))))) [] [] rfl
    (Eq.mp (by kernel_rfl) (aI kV1 (aI (sK2 (aI (aT (Runs.dark [true] (lthere_runs w N (ptr pu 0) (Value.slice wa wn wc) (u64 b) (u64 e) (u64 d) ((i : Nat) : Int) (show N ≤ 8 from by omega)))) kV2)) ((fun (hp1 : (!(isI N ((i : Nat) : Int))) = false) => have f2 : (isI N ((i : Nat) : Int)) = true := (bnot_f hp1); aT (aI hp1 (aI (sK2 (aI (aT (Runs.dark [true, true, true] (lbonded_runs w N pu pr pc wa wn wc b e d G ((i : Nat) : Int) (show N ≤ 8 from by omega)))) (sk (aI (aT (@is_lss64 Try.prog 23 23 (.tmp 15) (.tmp 16) (lgH N G 1 ((i : Nat) : Int)) x)) kV1)))) ((fun (hp2 : (decide ((lgH N G 1 ((i : Nat) : Int)) < x)) = false) => have f3 := (oF hp2); aT (aI hp2 (aI (sk (aI (aT (@is_eql64 Try.prog 23 23 (.tmp 19) (.const (.int .u64 0)) x 0)) kV1)) ((fun (hp3 : (x == 0) = true) => aT (aI hp3 (aI kV1 (aT (eX (fun (ns : List Nat) => ns.length = 0 ∧ ((int 0) : Value) = (fun _ => int 0) ns ∧ ([some ⟨w, false, 0, (.lit [(nat N), (ptr pu 0), (Value.slice wa wn wc), (u64 b), (u64 e), (u64 d)])⟩, some ⟨pu, false, 0, (.lit [(Value.slice (some ⟨pr, 0, none⟩) (3 * N + 2) pc)])⟩, some ⟨pr, false, 0, (tabF (3 * N + 2) (fun k => u64 (G k)))⟩] : List (Option Blk)) = (fun _ => [some ⟨w, false, 0, (.lit [(nat N), (ptr pu 0), (Value.slice wa wn wc), (u64 b), (u64 e), (u64 d)])⟩, some ⟨pu, false, 0, (.lit [(Value.slice (some ⟨pr, 0, none⟩) (3 * N + 2) pc)])⟩, some ⟨pr, false, 0, (tabF (3 * N + 2) (fun k => u64 (G k)))⟩]) ns) [] (aI (@rfl Nat 0) (aI (@rfl Value (int 0)) (@rfl (List (Option Blk)) [some ⟨w, false, 0, (.lit [(nat N), (ptr pu 0), (Value.slice wa wn wc), (u64 b), (u64 e), (u64 d)])⟩, some ⟨pu, false, 0, (.lit [(Value.slice (some ⟨pr, 0, none⟩) (3 * N + 2) pc)])⟩, some ⟨pr, false, 0, (tabF (3 * N + 2) (fun k => u64 (G k)))⟩])))))))) (show (x == 0) = true from by exact hz))))) (show (decide ((lgH N G 1 ((i : Nat) : Int)) < x)) = false from by rw [show lgH N G 1 ((i : Nat) : Int) = G (1 * N + i) from by (unfold lgH; rw [isI_nat hi]; rfl)]; exact decide_eq_false hx))))) (show (!(isI N ((i : Nat) : Int))) = false from by rw [isI_nat hi] <;> rfl)))))
theorem unbond_full (w N pu pr pc : Nat) (wa : Option Addr) (wn wc : Nat) (b e d : UInt64) (G : Nat → UInt64) (i : Nat) (x : UInt64) (hi : i < N) (hN : N ≤ 8) (hx : ¬ G (1 * N + i) < x) (hz : (x == 0) = false) (h20 : wn = 20) : Runs Try.prog 25 [(ptr w 0), (nat i), (u64 x)] [⟨w, false, 0, (.lit [(nat N), (ptr pu 0), (Value.slice wa wn wc), (u64 b), (u64 e), (u64 d)])⟩, ⟨pu, false, 0, (.lit [(Value.slice (some ⟨pr, 0, none⟩) (3 * N + 2) pc)])⟩, ⟨pr, false, 0, (tabF (3 * N + 2) (fun k => u64 (G k)))⟩] 0 (fun _ => int 52) (fun _ => [some ⟨w, false, 0, (.lit [(nat N), (ptr pu 0), (Value.slice wa wn wc), (u64 b), (u64 e), (u64 d)])⟩, some ⟨pu, false, 0, (.lit [(Value.slice (some ⟨pr, 0, none⟩) (3 * N + 2) pc)])⟩, some ⟨pr, false, 0, (tabF (3 * N + 2) (fun k => u64 (G k)))⟩]) :=
  runs_of_ev mix Try.func25 rfl rfl 400 (.reg (rg [.g]) (.reg (rg [.g, .g, (.call [(0, true)] 0 0 (fun _ => (Value.bool (isI N ((i : Nat) : Int)))) (fun _ => [none])), .g, .g]) (.no (.reg (rg [.g, .g, (.call [(0, true), (1, true), (2, true)] 0 0 (fun _ => (u64 (lgH N G 1 ((i : Nat) : Int)))) (fun _ => [none, none, none])), .g, (.as (Value.bool (decide ((lgH N G 1 ((i : Nat) : Int)) < x)))), .g]) (.no (.reg (rg [.g, (.as (Value.bool (x == 0))), .g]) (.no (.reg (rg [.g, .g, .g, (.ld 0 (.lit 2)), (.as (nat wn)), (.as (Value.bool (decide (wn = 20)))), .g]) (.yes (.reg (rg [.g]) .done)))))))))) [] [] rfl
    (Eq.mp (by kernel_rfl) (aI kV1 (aI (sK2 (aI (aT (Runs.dark [true] (lthere_runs w N (ptr pu 0) (Value.slice wa wn wc) (u64 b) (u64 e) (u64 d) ((i : Nat) : Int) (show N ≤ 8 from by omega)))) kV2)) ((fun (hp1 : (!(isI N ((i : Nat) : Int))) = false) => have f3 : (isI N ((i : Nat) : Int)) = true := (bnot_f hp1); aT (aI hp1 (aI (sK2 (aI (aT (Runs.dark [true, true, true] (lbonded_runs w N pu pr pc wa wn wc b e d G ((i : Nat) : Int) (show N ≤ 8 from by omega)))) (sk (aI (aT (@is_lss64 Try.prog 23 23 (.tmp 15) (.tmp 16) (lgH N G 1 ((i : Nat) : Int)) x)) kV1)))) ((fun (hp2 : (decide ((lgH N G 1 ((i : Nat) : Int)) < x)) = false) => have f4 := (oF hp2); aT (aI hp2 (aI (sk (aI (aT (@is_eql64 Try.prog 23 23 (.tmp 19) (.const (.int .u64 0)) x 0)) kV1)) ((fun (hp3 : (x == 0) = false) => aT (aI hp3 (aI (sK3 (aI (aT (ad w 2)) (aI (aT (@is_len Try.prog 52 77 (.tmp 25) (by kernel_rfl) wa wn wc)) (aI (aT (@is_eqln Try.prog 3 3 (.tmp 26) (.const (.int .i64 20))  wn 20)) kV1)))) ((fun (hp4 : (decide (wn = 20)) = true) => have f6 := (oT hp4); aT (aI hp4 (aI kV1 (aT (eX (fun (ns : List Nat) => ns.length = 0 ∧ ((int 52) : Value) = (fun _ => int 52) ns ∧ ([some ⟨w, false, 0, (.lit [(nat N), (ptr pu 0), (Value.slice wa wn wc), (u64 b), (u64 e), (u64 d)])⟩, some ⟨pu, false, 0, (.lit [(Value.slice (some ⟨pr, 0, none⟩) (3 * N + 2) pc)])⟩, some ⟨pr, false, 0, (tabF (3 * N + 2) (fun k => u64 (G k)))⟩] : List (Option Blk)) = (fun _ => [some ⟨w, false, 0, (.lit [(nat N), (ptr pu 0), (Value.slice wa wn wc), (u64 b), (u64 e), (u64 d)])⟩, some ⟨pu, false, 0, (.lit [(Value.slice (some ⟨pr, 0, none⟩) (3 * N + 2) pc)])⟩, some ⟨pr, false, 0, (tabF (3 * N + 2) (fun k => u64 (G k)))⟩]) ns) [] (aI (@rfl Nat 0) (aI (@rfl Value (int 52)) (@rfl (List (Option Blk)) [some ⟨w, false, 0, (.lit [(nat N), (ptr pu 0), (Value.slice wa wn wc), (u64 b), (u64 e), (u64 d)])⟩, some ⟨pu, false, 0, (.lit [(Value.slice (some ⟨pr, 0, none⟩) (3 * N + 2) pc)])⟩, some ⟨pr, false, 0, (tabF (3 * N + 2) (fun k => u64 (G k)))⟩])))))))) (show (decide (wn = 20)) = true from by exact decide_eq_true (by omega)))))) (show (x == 0) = false from by exact hz))))) (show (decide ((lgH N G 1 ((i : Nat) : Int)) < x)) = false from by rw [show lgH N G 1 ((i : Nat) : Int) = G (1 * N + i) from by (unfold lgH; rw [isI_nat hi]; rfl)]; exact decide_eq_false hx))))) (show (!(isI N ((i : Nat) : Int))) = false from by rw [isI_nat hi] <;> rfl)))))
theorem unbond_nil (w N pu pr pc : Nat) (b e d : UInt64) (G : Nat → UInt64) (i : Nat) (x : UInt64) (hi : i < N) (hN : N ≤ 8) (hx : ¬ G (1 * N + i) < x) (hz : (x == 0) = false) : Runs Try.prog 25 [(ptr w 0), (nat i), (u64 x)] [⟨w, true, 0, (.lit [(nat N), (ptr pu 0), (Value.slice none 0 0), (u64 b), (u64 e), (u64 d)])⟩, ⟨pu, false, 0, (.lit [(Value.slice (some ⟨pr, 0, none⟩) (3 * N + 2) pc)])⟩, ⟨pr, true, 0, (tabF (3 * N + 2) (fun k => u64 (G k)))⟩] 2 (fun (ns : List Nat) => (int (moveE (3 * N + 2) G ((1 * N + i : Nat) : Int) ((2 * N + i : Nat) : Int) x))) (fun (ns : List Nat) => [some ⟨w, true, 0, (.lit [(nat N), (ptr pu 0), (Value.slice (some ⟨(ns.getD 0 0), 0, none⟩) 1 (1 + (ns.getD 1 0))), (u64 (b + 1)), (u64 e), (u64 d)])⟩, some ⟨pu, false, 0, (.lit [(Value.slice (some ⟨pr, 0, none⟩) (3 * N + 2) pc)])⟩, some ⟨pr, true, 0, (tabF (3 * N + 2) (fun k => u64 (moveF (3 * N + 2) G ((1 * N + i : Nat) : Int) ((2 * N + i : Nat) : Int) x k)))⟩, some ⟨(ns.getD 0 0), true, 0, (tabS (1 + (ns.getD 1 0)) (upF ltP (pshG (fun _ => paZ) 0 (PaR.mk i x ((e + d) + 1) b) paZ 0 0) 0))⟩]) :=
  runs_of_ev mix Try.func25 rfl rfl 400 (.reg (rg [.g]) (.reg (rg [.g, .g, (.call [(0, true)] 0 0 (fun _ => (Value.bool (isI N ((i : Nat) : Int)))) (fun _ => [none])), .g, .g]) (.no (.reg (rg [.g, .g, (.call [(0, true), (1, true), (2, true)] 0 0 (fun _ => (u64 (lgH N G 1 ((i : Nat) : Int)))) (fun _ => [none, none, none])), .g, (.as (Value.bool (decide ((lgH N G 1 ((i : Nat) : Int)) < x)))), .g]) (.no (.reg (rg [.g, (.as (Value.bool (x == 0))), .g]) (.no (.reg (rg [.g, .g, .g, (.ld 0 (.lit 2)), (.as (int 0)), .g, .g]) (.no (.regn (rg [.g, .g, .g, .g, .g, .g, .g, .g, .g, (.ld 0 (.lit 4)), .g, .g, .g, (.ld 0 (.lit 5)), (.as (u64 (e + d))), (.as (u64 ((e + d) + 1))), .g, .g, .g, (.ld 0 (.lit 3)), .g, .g, (.call [(0, false)] 2 1 (fun _ => Value.tuple #[]) (fun ns => [some ⟨w, true, 0, (.lit [(nat N), (ptr pu 0), (Value.slice (some ⟨(ns.getD 0 0), 0, none⟩) 1 (1 + (ns.getD 1 0))), (u64 b), (u64 e), (u64 d)])⟩, some ⟨(ns.getD 0 0), true, 0, (tabS (1 + (ns.getD 1 0)) (upF ltP (pshG (fun _ => paZ) 0 (PaR.mk i x ((e + d) + 1) b) paZ 0 0) 0))⟩]))]) (more (fun n1 => more (fun n2 => fun _ => (.reg (rg [.g, .g, .g, (.ld 0 (.lit 3)), (.as (u64 (b + 1))), .g, .g, (.st 0 (.lit 3))]) (.reg (rg [.g, .g, .g, (.ld 0 (.lit 1)), .g, .g, (.call [(0, true)] 0 0 (fun _ => (nat (1 * N + i))) (fun _ => [none])), .g, .g, (.call [(0, true)] 0 0 (fun _ => (nat (2 * N + i))) (fun _ => [none])), .g, (.call [(1, true), (2, false)] 0 0 (fun _ => (int (moveE (3 * N + 2) G ((1 * N + i : Nat) : Int) ((2 * N + i : Nat) : Int) x))) (fun _ => [none, some ⟨pr, true, 0, (tabF (3 * N + 2) (fun k => u64 (moveF (3 * N + 2) G ((1 * N + i : Nat) : Int) ((2 * N + i : Nat) : Int) x k)))⟩])), .g]) .done))))))))))))))) [] [3] rfl
    (Eq.mp (by kernel_rfl) (aI kV1 (aI (sK2 (aI (aT (Runs.dark [true] (lthere_runs w N (ptr pu 0) (Value.slice none 0 0) (u64 b) (u64 e) (u64 d) ((i : Nat) : Int) (show N ≤ 8 from by omega)))) kV2)) ((fun (hp1 : (!(isI N ((i : Nat) : Int))) = false) => have f2 : (isI N ((i : Nat) : Int)) = true := (bnot_f hp1); aT (aI hp1 (aI (sK2 (aI (aT (Runs.dark [true, true, true] (lbonded_runs w N pu pr pc none 0 0 b e d G ((i : Nat) : Int) (show N ≤ 8 from by omega)))) (sk (aI (aT (@is_lss64 Try.prog 23 23 (.tmp 15) (.tmp 16) (lgH N G 1 ((i : Nat) : Int)) x)) kV1)))) ((fun (hp2 : (decide ((lgH N G 1 ((i : Nat) : Int)) < x)) = false) => have f3 := (oF hp2); aT (aI hp2 (aI (sk (aI (aT (@is_eql64 Try.prog 23 23 (.tmp 19) (.const (.int .u64 0)) x 0)) kV1)) ((fun (hp3 : (x == 0) = false) => aT (aI hp3 (aI (sK3 (aI (aT (ad w 2)) (aI (aT (@is_len Try.prog 52 77 (.tmp 25) (by kernel_rfl) none 0 0)) kV2))) (aT (aI (@rfl Bool false) (fun (n1 n2 : Nat) => aI (sK4 (sK4 (sk (aI (aT (ad w 4)) (sK3 (aI (aT (ad w 5)) (aI (aT (@is_add64 Try.prog 23 23 (.tmp 37) (.tmp 41) e d)) (aI (aT (@is_add64 Try.prog 23 23 (.tmp 42) (.const (.int .u64 1)) (e + d) 1)) (sK3 (aI (aT (ad w 3)) (sK2 (aI (aT (hpush_nil w (nat N) (ptr pu 0) (u64 b) (u64 e) (u64 d) (PaR.mk i x ((e + d) + 1) b))) tV)))))))))))) (aI (sK3 (aI (aT (ad w 3)) (aI (aT (@is_add64 Try.prog 23 23 (.tmp 54) (.const (.int .u64 1)) b 1)) (sK2 (aI (aT (ad w 3)) tV))))) (aI (sK3 (aI (aT (ad w 1)) (sK2 (aI (aT (Runs.dark [true] (acct_runs w N (ptr pu 0) (Value.slice (some ⟨n1, 0, none⟩) 1 (1 + n2)) (u64 (b + 1)) (u64 e) (u64 d) 1 i (show 1 ≤ 2 from by omega) (show i < N from by omega) (show N ≤ 8 from by omega)))) (sK2 (aI (aT (Runs.dark [true] (acct_runs w N (ptr pu 0) (Value.slice (some ⟨n1, 0, none⟩) 1 (1 + n2)) (u64 (b + 1)) (u64 e) (u64 d) 2 i (show 2 ≤ 2 from by omega) (show i < N from by omega) (show N ≤ 8 from by omega)))) (sk (aI (aT (Runs.dark [true, false] (move_runs pu pr (3 * N + 2) pc G ((1 * N + i : Nat) : Int) ((2 * N + i : Nat) : Int) x (show (3 * N + 2) ≤ 40 from by omega)))) kV1)))))))) (aT (eX (fun (ns : List Nat) => ns.length = 2 ∧ ((int (moveE (3 * N + 2) G ((1 * N + i : Nat) : Int) ((2 * N + i : Nat) : Int) x)) : Value) = (fun (ns : List Nat) => (int (moveE (3 * N + 2) G ((1 * N + i : Nat) : Int) ((2 * N + i : Nat) : Int) x))) ns ∧ ([some ⟨w, true, 0, (.lit [(nat N), (ptr pu 0), (Value.slice (some ⟨n1, 0, none⟩) 1 (1 + n2)), (u64 (b + 1)), (u64 e), (u64 d)])⟩, some ⟨pu, false, 0, (.lit [(Value.slice (some ⟨pr, 0, none⟩) (3 * N + 2) pc)])⟩, some ⟨pr, true, 0, (tabF (3 * N + 2) (fun k => u64 (moveF (3 * N + 2) G ((1 * N + i : Nat) : Int) ((2 * N + i : Nat) : Int) x k)))⟩, some ⟨n1, true, 0, (tabS (1 + n2) (upF ltP (pshG (fun _ => paZ) 0 (PaR.mk i x ((e + d) + 1) b) paZ 0 0) 0))⟩] : List (Option Blk)) = (fun (ns : List Nat) => [some ⟨w, true, 0, (.lit [(nat N), (ptr pu 0), (Value.slice (some ⟨(ns.getD 0 0), 0, none⟩) 1 (1 + (ns.getD 1 0))), (u64 (b + 1)), (u64 e), (u64 d)])⟩, some ⟨pu, false, 0, (.lit [(Value.slice (some ⟨pr, 0, none⟩) (3 * N + 2) pc)])⟩, some ⟨pr, true, 0, (tabF (3 * N + 2) (fun k => u64 (moveF (3 * N + 2) G ((1 * N + i : Nat) : Int) ((2 * N + i : Nat) : Int) x k)))⟩, some ⟨(ns.getD 0 0), true, 0, (tabS (1 + (ns.getD 1 0)) (upF ltP (pshG (fun _ => paZ) 0 (PaR.mk i x ((e + d) + 1) b) paZ 0 0) 0))⟩]) ns) [n1, n2] (aI (@rfl Nat 2) (aI (@rfl Value (int (moveE (3 * N + 2) G ((1 * N + i : Nat) : Int) ((2 * N + i : Nat) : Int) x))) (@rfl (List (Option Blk)) [some ⟨w, true, 0, (.lit [(nat N), (ptr pu 0), (Value.slice (some ⟨n1, 0, none⟩) 1 (1 + n2)), (u64 (b + 1)), (u64 e), (u64 d)])⟩, some ⟨pu, false, 0, (.lit [(Value.slice (some ⟨pr, 0, none⟩) (3 * N + 2) pc)])⟩, some ⟨pr, true, 0, (tabF (3 * N + 2) (fun k => u64 (moveF (3 * N + 2) G ((1 * N + i : Nat) : Int) ((2 * N + i : Nat) : Int) x k)))⟩, some ⟨n1, true, 0, (tabS (1 + n2) (upF ltP (pshG (fun _ => paZ) 0 (PaR.mk i x ((e + d) + 1) b) paZ 0 0) 0))⟩]))))))))))))) (show (x == 0) = false from by exact hz))))) (show (decide ((lgH N G 1 ((i : Nat) : Int)) < x)) = false from by rw [show lgH N G 1 ((i : Nat) : Int) = G (1 * N + i) from by (unfold lgH; rw [isI_nat hi]; rfl)]; exact decide_eq_false hx))))) (show (!(isI N ((i : Nat) : Int))) = false from by rw [isI_nat hi] <;> rfl)))))
theorem unbond_own (w N pu pr pc : Nat) (b e d : UInt64) (G : Nat → UInt64) (m n c : Nat) (F : Nat → PaR) (i : Nat) (x : UInt64) (hi : i < N) (hN : N ≤ 8) (hx : ¬ G (1 * N + i) < x) (hz : (x == 0) = false) (h20 : n < 20 ∧ n ≤ c) : Runs Try.prog 25 [(ptr w 0), (nat i), (u64 x)] [⟨w, true, 0, (.lit [(nat N), (ptr pu 0), (Value.slice (some ⟨m, 0, none⟩) n c), (u64 b), (u64 e), (u64 d)])⟩, ⟨pu, false, 0, (.lit [(Value.slice (some ⟨pr, 0, none⟩) (3 * N + 2) pc)])⟩, ⟨pr, true, 0, (tabF (3 * N + 2) (fun k => u64 (G k)))⟩, ⟨m, true, 0, (tabS c F)⟩] 2 (fun (ns : List Nat) => (int (moveE (3 * N + 2) G ((1 * N + i : Nat) : Int) ((2 * N + i : Nat) : Int) x))) (fun (ns : List Nat) => [some ⟨w, true, 0, (.lit [(nat N), (ptr pu 0), (Value.slice (some ⟨(ns.getD 0 0), 0, none⟩) (n + 1) (n + 1 + (ns.getD 1 0))), (u64 (b + 1)), (u64 e), (u64 d)])⟩, some ⟨pu, false, 0, (.lit [(Value.slice (some ⟨pr, 0, none⟩) (3 * N + 2) pc)])⟩, some ⟨pr, true, 0, (tabF (3 * N + 2) (fun k => u64 (moveF (3 * N + 2) G ((1 * N + i : Nat) : Int) ((2 * N + i : Nat) : Int) x k)))⟩, some ⟨(ns.getD 0 0), true, 0, (tabS (n + 1 + (ns.getD 1 0)) (upF ltP (pshG F n (PaR.mk i x ((e + d) + 1) b) paZ m (ns.getD 0 0)) (n + 1 - 1)))⟩]) :=
  runs_of_ev mix Try.func25 rfl rfl 400 (.reg (rg [.g]) (.reg (rg [.g, .g, (.call [(0, true)] 0 0 (fun _ => (Value.bool (isI N ((i : Nat) : Int)))) (fun _ => [none])), .g, .g]) (.no (.reg (rg [.g, .g, (.call [(0, true), (1, true), (2, true)] 0 0 (fun _ => (u64 (lgH N G 1 ((i : Nat) : Int)))) (fun _ => [none, none, none])), .g, (.as (Value.bool (decide ((lgH N G 1 ((i : Nat) : Int)) < x)))), .g]) (.no (.reg (rg [.g, (.as (Value.bool (x == 0))), .g]) (.no (.reg (rg [.g, .g, .g, (.ld 0 (.lit 2)), (.as (nat n)), (.as (Value.bool (decide (n = 20)))), .g]) (.no (.regn (rg [.g, .g, .g, .g, .g, .g, .g, .g, .g, (.ld 0 (.lit 4)), .g, .g, .g, (.ld 0 (.lit 5)), (.as (u64 (e + d))), (.as (u64 ((e + d) + 1))), .g, .g, .g, (.ld 0 (.lit 3)), .g, .g, (.call [(0, false), (3, false)] 2 0 (fun _ => Value.tuple #[]) (fun ns => [some ⟨w, true, 0, (.lit [(nat N), (ptr pu 0), (Value.slice (some ⟨(ns.getD 0 0), 0, none⟩) (n + 1) (n + 1 + (ns.getD 1 0))), (u64 b), (u64 e), (u64 d)])⟩, some ⟨(ns.getD 0 0), true, 0, (tabS (n + 1 + (ns.getD 1 0)) (upF ltP (pshG F n (PaR.mk i x ((e + d) + 1) b) paZ m (ns.getD 0 0)) (n + 1 - 1)))⟩]))]) (more (fun n1 => more (fun n2 => fun _ => (.reg (rg [.g, .g, .g, (.ld 0 (.lit 3)), (.as (u64 (b + 1))), .g, .g, (.st 0 (.lit 3))]) (.reg (rg [.g, .g, .g, (.ld 0 (.lit 1)), .g, .g, (.call [(0, true)] 0 0 (fun _ => (nat (1 * N + i))) (fun _ => [none])), .g, .g, (.call [(0, true)] 0 0 (fun _ => (nat (2 * N + i))) (fun _ => [none])), .g, (.call [(1, true), (2, false)] 0 0 (fun _ => (int (moveE (3 * N + 2) G ((1 * N + i : Nat) : Int) ((2 * N + i : Nat) : Int) x))) (fun _ => [none, some ⟨pr, true, 0, (tabF (3 * N + 2) (fun k => u64 (moveF (3 * N + 2) G ((1 * N + i : Nat) : Int) ((2 * N + i : Nat) : Int) x k)))⟩])), .g]) .done))))))))))))))) [] [] rfl
    (Eq.mp (by kernel_rfl) (aI kV1 (aI (sK2 (aI (aT (Runs.dark [true] (lthere_runs w N (ptr pu 0) (Value.slice (some ⟨m, 0, none⟩) n c) (u64 b) (u64 e) (u64 d) ((i : Nat) : Int) (show N ≤ 8 from by omega)))) kV2)) ((fun (hp1 : (!(isI N ((i : Nat) : Int))) = false) => have f3 : (isI N ((i : Nat) : Int)) = true := (bnot_f hp1); aT (aI hp1 (aI (sK2 (aI (aT (Runs.dark [true, true, true] (lbonded_runs w N pu pr pc (some ⟨m, 0, none⟩) n c b e d G ((i : Nat) : Int) (show N ≤ 8 from by omega)))) (sk (aI (aT (@is_lss64 Try.prog 23 23 (.tmp 15) (.tmp 16) (lgH N G 1 ((i : Nat) : Int)) x)) kV1)))) ((fun (hp2 : (decide ((lgH N G 1 ((i : Nat) : Int)) < x)) = false) => have f4 := (oF hp2); aT (aI hp2 (aI (sk (aI (aT (@is_eql64 Try.prog 23 23 (.tmp 19) (.const (.int .u64 0)) x 0)) kV1)) ((fun (hp3 : (x == 0) = false) => aT (aI hp3 (aI (sK3 (aI (aT (ad w 2)) (aI (aT (@is_len Try.prog 52 77 (.tmp 25) (by kernel_rfl) (some ⟨m, 0, none⟩) n c)) (aI (aT (@is_eqln Try.prog 3 3 (.tmp 26) (.const (.int .i64 20))  n 20)) kV1)))) ((fun (hp4 : (decide (n = 20)) = false) => have f6 := (oF hp4); aT (aI hp4 (fun (n1 n2 : Nat) => aI (sK4 (sK4 (sk (aI (aT (ad w 4)) (sK3 (aI (aT (ad w 5)) (aI (aT (@is_add64 Try.prog 23 23 (.tmp 37) (.tmp 41) e d)) (aI (aT (@is_add64 Try.prog 23 23 (.tmp 42) (.const (.int .u64 1)) (e + d) 1)) (sK3 (aI (aT (ad w 3)) (sK2 (aI (aT (hpush_own w (nat N) (ptr pu 0) (u64 b) (u64 e) (u64 d) m n c F (PaR.mk i x ((e + d) + 1) b) (show n ≤ c ∧ n ≤ 999999 from by omega))) tV)))))))))))) (aI (sK3 (aI (aT (ad w 3)) (aI (aT (@is_add64 Try.prog 23 23 (.tmp 54) (.const (.int .u64 1)) b 1)) (sK2 (aI (aT (ad w 3)) tV))))) (aI (sK3 (aI (aT (ad w 1)) (sK2 (aI (aT (Runs.dark [true] (acct_runs w N (ptr pu 0) (Value.slice (some ⟨n1, 0, none⟩) (n + 1) (n + 1 + n2)) (u64 (b + 1)) (u64 e) (u64 d) 1 i (show 1 ≤ 2 from by omega) (show i < N from by omega) (show N ≤ 8 from by omega)))) (sK2 (aI (aT (Runs.dark [true] (acct_runs w N (ptr pu 0) (Value.slice (some ⟨n1, 0, none⟩) (n + 1) (n + 1 + n2)) (u64 (b + 1)) (u64 e) (u64 d) 2 i (show 2 ≤ 2 from by omega) (show i < N from by omega) (show N ≤ 8 from by omega)))) (sk (aI (aT (Runs.dark [true, false] (move_runs pu pr (3 * N + 2) pc G ((1 * N + i : Nat) : Int) ((2 * N + i : Nat) : Int) x (show (3 * N + 2) ≤ 40 from by omega)))) kV1)))))))) (aT (eX (fun (ns : List Nat) => ns.length = 2 ∧ ((int (moveE (3 * N + 2) G ((1 * N + i : Nat) : Int) ((2 * N + i : Nat) : Int) x)) : Value) = (fun (ns : List Nat) => (int (moveE (3 * N + 2) G ((1 * N + i : Nat) : Int) ((2 * N + i : Nat) : Int) x))) ns ∧ ([some ⟨w, true, 0, (.lit [(nat N), (ptr pu 0), (Value.slice (some ⟨n1, 0, none⟩) (n + 1) (n + 1 + n2)), (u64 (b + 1)), (u64 e), (u64 d)])⟩, some ⟨pu, false, 0, (.lit [(Value.slice (some ⟨pr, 0, none⟩) (3 * N + 2) pc)])⟩, some ⟨pr, true, 0, (tabF (3 * N + 2) (fun k => u64 (moveF (3 * N + 2) G ((1 * N + i : Nat) : Int) ((2 * N + i : Nat) : Int) x k)))⟩, some ⟨n1, true, 0, (tabS (n + 1 + n2) (upF ltP (pshG F n (PaR.mk i x ((e + d) + 1) b) paZ m n1) (n + 1 - 1)))⟩] : List (Option Blk)) = (fun (ns : List Nat) => [some ⟨w, true, 0, (.lit [(nat N), (ptr pu 0), (Value.slice (some ⟨(ns.getD 0 0), 0, none⟩) (n + 1) (n + 1 + (ns.getD 1 0))), (u64 (b + 1)), (u64 e), (u64 d)])⟩, some ⟨pu, false, 0, (.lit [(Value.slice (some ⟨pr, 0, none⟩) (3 * N + 2) pc)])⟩, some ⟨pr, true, 0, (tabF (3 * N + 2) (fun k => u64 (moveF (3 * N + 2) G ((1 * N + i : Nat) : Int) ((2 * N + i : Nat) : Int) x k)))⟩, some ⟨(ns.getD 0 0), true, 0, (tabS (n + 1 + (ns.getD 1 0)) (upF ltP (pshG F n (PaR.mk i x ((e + d) + 1) b) paZ m (ns.getD 0 0)) (n + 1 - 1)))⟩]) ns) [n1, n2] (aI (@rfl Nat 2) (aI (@rfl Value (int (moveE (3 * N + 2) G ((1 * N + i : Nat) : Int) ((2 * N + i : Nat) : Int) x))) (@rfl (List (Option Blk)) [some ⟨w, true, 0, (.lit [(nat N), (ptr pu 0), (Value.slice (some ⟨n1, 0, none⟩) (n + 1) (n + 1 + n2)), (u64 (b + 1)), (u64 e), (u64 d)])⟩, some ⟨pu, false, 0, (.lit [(Value.slice (some ⟨pr, 0, none⟩) (3 * N + 2) pc)])⟩, some ⟨pr, true, 0, (tabF (3 * N + 2) (fun k => u64 (moveF (3 * N + 2) G ((1 * N + i : Nat) : Int) ((2 * N + i : Nat) : Int) x k)))⟩, some ⟨n1, true, 0, (tabS (n + 1 + n2) (upF ltP (pshG F n (PaR.mk i x ((e + d) + 1) b) paZ m n1) (n + 1 - 1)))⟩])))))))))) (show (decide (n = 20)) = false from by exact decide_eq_false (by omega)))))) (show (x == 0) = false from by exact hz))))) (show (decide ((lgH N G 1 ((i : Nat) : Int)) < x)) = false from by rw [show lgH N G 1 ((i : Nat) : Int) = G (1 * N + i) from by (unfold lgH; rw [isI_nat hi]; rfl)]; exact decide_eq_false hx))))) (show (!(isI N ((i : Nat) : Int))) = false from by rw [isI_nat hi] <;> rfl)))))
theorem last_none (w N pu pr pc : Nat) (wa : Option Addr) (wn wc : Nat) (b e d : UInt64) (i : Nat) (h0 : wn = 0) : Runs Try.prog 51 [(ptr w 0), (nat i)] [⟨w, false, 0, (.lit [(nat N), (ptr pu 0), (Value.slice wa wn wc), (u64 b), (u64 e), (u64 d)])⟩] 0 (fun _ => int (-1)) (fun _ => [some ⟨w, false, 0, (.lit [(nat N), (ptr pu 0), (Value.slice wa wn wc), (u64 b), (u64 e), (u64 d)])⟩]) :=
  runs_of_ev mix Try.func51 rfl rfl 400 (.reg (rg [.g]) (.reg (rg [.g]) (.reg (rg [.g, .g, .g, (.ld 0 (.lit 2)), (.as (nat wn)), .g]) (.unroll (.reg (rg [(.as (Value.bool (decide (0 < wn))))]) (.no (.reg (rg [.g, .g]) .done))))))) [] [] rfl
    (Eq.mp (by kernel_rfl) (aI kV1 (aI kV1 (aI (sK3 (aI (aT (ad w 2)) (aI (aT (@is_len Try.prog 52 77 (.tmp 11) (by kernel_rfl) wa wn wc)) kV1))) (aI (aI (aT (@is_lssn Try.prog 3 3 (.tmp 13) (.tmp 12)  0 wn)) tV) ((fun (hp1 : (decide (0 < wn)) = false) => have f1 := (oF hp1); aT (aI hp1 (aI kV2 (aT (eX (fun (ns : List Nat) => ns.length = 0 ∧ ((int (-1)) : Value) = (fun _ => int (-1)) ns ∧ ([some ⟨w, false, 0, (.lit [(nat N), (ptr pu 0), (Value.slice wa wn wc), (u64 b), (u64 e), (u64 d)])⟩] : List (Option Blk)) = (fun _ => [some ⟨w, false, 0, (.lit [(nat N), (ptr pu 0), (Value.slice wa wn wc), (u64 b), (u64 e), (u64 d)])⟩]) ns) [] (aI (@rfl Nat 0) (aI (@rfl Value (int (-1))) (@rfl (List (Option Blk)) [some ⟨w, false, 0, (.lit [(nat N), (ptr pu 0), (Value.slice wa wn wc), (u64 b), (u64 e), (u64 d)])⟩])))))))) (show (decide (0 < wn)) = false from by exact decide_eq_false (by omega))))))))
def last_own_S1 (w : Nat) (v0 : Value) (v1 : Value) (v3 : Value) (v4 : Value) (v5 : Value) (m : Nat) (n : Nat) (c : Nat) (F : Nat → PaR) (i : Nat) (x1 : Nat × Int) : St := ⟨[(0, .v (ptr w 0)), (1, .v (nat i)), (5, .v (int x1.2)), (11, .v (Value.slice (some ⟨m, 0, none⟩) n c)), (12, .v (nat n)), (13, .v (nat x1.1))], [(0, some ⟨w, false, 0, (.lit [v0, v1, (Value.slice (some ⟨m, 0, none⟩) n c), v3, v4, v5])⟩), (1, some ⟨m, false, 0, (tabS c F)⟩)], 2⟩
def last_own_R1 (w : Nat) (v0 : Value) (v1 : Value) (v3 : Value) (v4 : Value) (v5 : Value) (m : Nat) (n : Nat) (c : Nat) (F : Nat → PaR) (i : Nat) (x1 : Nat × Int) : Prop := (x1.1 ≤ n) ∧ (x1.2 = lastP F i x1.1)
def last_own_mu1 (w : Nat) (v0 : Value) (v1 : Value) (v3 : Value) (v4 : Value) (v5 : Value) (m : Nat) (n : Nat) (c : Nat) (F : Nat → PaR) (i : Nat) (x1 : Nat × Int) : Nat := n - x1.1
theorem last_own (w : Nat) (v0 v1 v3 v4 v5 : Value) (m n c : Nat) (F : Nat → PaR) (i : Nat) (h : n ≤ c ∧ n ≤ 20) : Runs Try.prog 51 [(ptr w 0), (nat i)] [⟨w, false, 0, (.lit [v0, v1, (Value.slice (some ⟨m, 0, none⟩) n c), v3, v4, v5])⟩, ⟨m, false, 0, (tabS c F)⟩] 0 (fun _ => int (lastP F i n)) (fun _ => [some ⟨w, false, 0, (.lit [v0, v1, (Value.slice (some ⟨m, 0, none⟩) n c), v3, v4, v5])⟩, some ⟨m, false, 0, (tabS c F)⟩]) :=
  runs_of_ev mix Try.func51 rfl rfl 400 (.reg (rg [.g]) (.reg (rg [.g]) (.reg (rg [.g, .g, .g, (.ld 0 (.lit 2)), (.as (nat n)), .g]) (.inv [0, 1, 5, 11, 12, 13] [0, 1] 2 (last_own_R1 w v0 v1 v3 v4 v5 m n c F i) (last_own_S1 w v0 v1 v3 v4 v5 m n c F i) (last_own_mu1 w v0 v1 v3 v4 v5 m n c F i) ((0, (-1)) : Nat × Int) (fun (x1 : Nat × Int) => (.reg (rg [(.as (Value.bool (decide (x1.1 < n))))]) (.br (.regn (rg [.g, (.as (ptr m (0 + x1.1 * 4))), (.ld 1 (.tab x1.1 0)), .new, .g, (.st 2 (.lit 0))]) (more (fun n1 => fun _ => (.reg (rg [.g, (.ld 2 (.lit 0)), .g, (.as (Value.bool (decide (((F x1.1).w) = i)))), .g, (.opt .g), (.opt .g), (.opt .g), (.opt .g), (.opt .g), (.opt .g), (.opt (.ld 0 (.lit 2))), (.opt (.as (nat ((x1.2).toNat)))), (.opt (.as (ptr m (0 + ((x1.2).toNat) * 4)))), (.opt (.ld 1 (.tab ((x1.2).toNat) 0))), (.opt (.ld 2 (.lit 0))), (.opt (.call [] 0 0 (fun _ => (int (ordP (F ((x1.2).toNat)) (F x1.1)))) (fun _ => []))), (.opt .g), (.opt .pk), .pk]) (.br (.reg (rg [.g, .g]) (.reg (rg [(.as (nat (x1.1 + 1))), .g]) .done)) (.reg (rg [(.as (nat (x1.1 + 1))), .g]) .done)))))) (.reg (rg [.g, .g]) .done)))))))) [] [] rfl
    (Eq.mp (by kernel_rfl) (aI kV1 (aI kV1 (aI (sK3 (aI (aT (ad w 2)) (aI (aT (@is_len Try.prog 52 77 (.tmp 11) (by kernel_rfl) (some ⟨m, 0, none⟩) n c)) kV1))) (aI (show (last_own_R1 w v0 v1 v3 v4 v5 m n c F i) ((0, (-1)) : Nat × Int) from (show (0 ≤ n) ∧ ((-1) = lastP F i 0) from by exact ⟨by omega, rfl⟩)) (aI (@rfl St ((last_own_S1 w v0 v1 v3 v4 v5 m n c F i) ((0, (-1)) : Nat × Int))) (fun (x1 : Nat × Int) (hx1 : (last_own_R1 w v0 v1 v3 v4 v5 m n c F i) x1) => have B0 : x1.1 ≤ n := hx1.1; have B1 : x1.2 = lastP F i x1.1 := hx1.2; have BL := (lastP_lt F i x1.1); aI (aI (aT (@is_lssn Try.prog 3 3 (.tmp 13) (.tmp 12)  x1.1 n)) tV) (aT (aI (fun (h1 : (decide (x1.1 < n)) = true) => have f4 := (oT h1); fun (n1 : Nat) => aI (sk (aI (aT (@is_ixSl Try.prog 52 77 (.tmp 11) (.tmp 13) 4 (by kernel_rfl) (by kernel_rfl) m 0 n c x1.1 (show x1.1 < n from by omega))) (aI (aT (aI (show x1.1 < c from by omega) (@rfl Value (ptr m (0 + x1.1 * 4))))) (sK2 (aI (aT (ad n1 0)) tV))))) (aI (sk (aI (aT (ad n1 0)) (sk (aI (aT (@is_eqln Try.prog 3 3 (.tmp 19) (.tmp 20)  ((F x1.1).w) i)) (sk (aI (fun (hg : (sameB (decide (((F x1.1).w) = i)) true) = true) => t2) (aI (fun (hg : (sameB (decide (((F x1.1).w) = i)) true) = true) => (aI (aI hg tV) tV)) (aI (fun (hg : (sameB (decide (((F x1.1).w) = i)) true) = true) => (aI (aI hg tV) tV)) (aI (fun (hg : (selB (sameB (decide (((F x1.1).w) = i)) true) (sameB (decide ((x1.2 : Int) < 0)) false) false) = true) => t2) (aI (fun (hg : (selB (sameB (decide (((F x1.1).w) = i)) true) (sameB (decide ((x1.2 : Int) < 0)) false) false) = true) => (aI (aI hg tV) tV)) (aI (fun (hg : (selB (sameB (decide (((F x1.1).w) = i)) true) (sameB (decide ((x1.2 : Int) < 0)) false) false) = true) => (aI (aI hg tV) tV)) (aI (fun (hg : (selB (sameB (decide (((F x1.1).w) = i)) true) (sameB (decide ((x1.2 : Int) < 0)) false) false) = true) => (aI (aI hg tV) (ad w 2))) (aI (fun (hg : (selB (sameB (decide (((F x1.1).w) = i)) true) (sameB (decide ((x1.2 : Int) < 0)) false) false) = true) => have f5 : (((F x1.1).w) = i) := (oT (sameB_t (pickl hg))); have f6 : ¬ ((x1.2 : Int) < 0) := (oF (sameB_f (pickr hg))); (aT (@is_move_nat Try.prog (.tmp 5) x1.2 ((x1.2).toNat) (show (x1.2 : Int) = (((x1.2).toNat : Nat) : Int) from by omega)))) (aI (fun (hg : (selB (sameB (decide (((F x1.1).w) = i)) true) (sameB (decide ((x1.2 : Int) < 0)) false) false) = true) => have f5 : (((F x1.1).w) = i) := (oT (sameB_t (pickl hg))); have f6 : ¬ ((x1.2 : Int) < 0) := (oF (sameB_f (pickr hg))); (aI (aI hg (aI hg tV)) (@is_ixSl Try.prog 52 77 (.tmp 29) (.tmp 30) 4 (by kernel_rfl) (by kernel_rfl) m 0 n c ((x1.2).toNat) (show (x1.2).toNat < n from by omega)))) (aI (fun (hg : (selB (sameB (decide (((F x1.1).w) = i)) true) (sameB (decide ((x1.2 : Int) < 0)) false) false) = true) => have f5 : (((F x1.1).w) = i) := (oT (sameB_t (pickl hg))); have f6 : ¬ ((x1.2 : Int) < 0) := (oF (sameB_f (pickr hg))); (aI (aI hg tV) (aI (show (x1.2).toNat < c from by omega) (@rfl Value (ptr m (0 + ((x1.2).toNat) * 4)))))) (aI (fun (hg : (selB (sameB (decide (((F x1.1).w) = i)) true) (sameB (decide ((x1.2 : Int) < 0)) false) false) = true) => (aT (ad n1 0))) (aI (fun (hg : (selB (sameB (decide (((F x1.1).w) = i)) true) (sameB (decide ((x1.2 : Int) < 0)) false) false) = true) => (aI (aI hg (aI hg tV)) (order_pure (F ((x1.2).toNat)) (F x1.1)))) (aI (fun (hg : (selB (sameB (decide (((F x1.1).w) = i)) true) (sameB (decide ((x1.2 : Int) < 0)) false) false) = true) => (aI (aI hg tV) tV)) (aI (fun (hg : (sameB (decide (((F x1.1).w) = i)) true) = true) => (aI hg (aI (fun (_ : (decide ((x1.2 : Int) < 0)) = true) => tV) (fun (hp : (decide ((x1.2 : Int) < 0)) = false) => (pickm hg (sameB_mkf hp)))))) (aI (aT (aI (fun (hp : (decide (((F x1.1).w) = i)) = true) => (sameB_mk hp)) (fun (_ : (decide (((F x1.1).w) = i)) = false) => tV))) tV)))))))))))))))))))) (aT (aI (fun (h2 : (selB (decide (((F x1.1).w) = i)) (selB (decide ((x1.2 : Int) < 0)) true (decide (((ordP (F ((x1.2).toNat)) (F x1.1)) : Int) < 0))) false) = true) => have f5 : (((F x1.1).w) = i) := (oT (sband_l h2)); have f6 : (((x1.2 : Int) < 0)) ∨ ((((ordP (F ((x1.2).toNat)) (F x1.1)) : Int) < 0)) := (Or.imp (fun h => (oT h)) (fun h => (oT h)) (sbor_t (sband_r h2))); aI kV2 (aI (aI (aT (@is_addn Try.prog 3 3 (.tmp 13) (.const (.int .i64 1))  x1.1 1 (show x1.1 + 1 ≤ 9223372036854775807 from by omega))) kV1) ((rnd (last_own_R1 w v0 v1 v3 v4 v5 m n c F i) (last_own_S1 w v0 v1 v3 v4 v5 m n c F i) (last_own_mu1 w v0 v1 v3 v4 v5 m n c F i) x1 ((x1.1 + 1, ((x1.1 : Nat) : Int)) : Nat × Int) (show (last_own_R1 w v0 v1 v3 v4 v5 m n c F i) ((x1.1 + 1, ((x1.1 : Nat) : Int)) : Nat × Int) ∧ (last_own_mu1 w v0 v1 v3 v4 v5 m n c F i) ((x1.1 + 1, ((x1.1 : Nat) : Int)) : Nat × Int) < (last_own_mu1 w v0 v1 v3 v4 v5 m n c F i) x1 from (show (((x1.1 + 1) ≤ n) ∧ (((x1.1 : Nat) : Int) = lastP F i (x1.1 + 1))) ∧ (n - (x1.1 + 1)) < (n - x1.1) from by first | exact ⟨⟨by omega, last_yes B1 (by assumption)⟩, by omega⟩ | exact ⟨⟨by omega, last_no B1 (by assumption)⟩, by omega⟩)))))) (fun (h2 : (selB (decide (((F x1.1).w) = i)) (selB (decide ((x1.2 : Int) < 0)) true (decide (((ordP (F ((x1.2).toNat)) (F x1.1)) : Int) < 0))) false) = false) => aI (aI (aT (@is_addn Try.prog 3 3 (.tmp 13) (.const (.int .i64 1))  x1.1 1 (show x1.1 + 1 ≤ 9223372036854775807 from by omega))) kV1) ((rnd (last_own_R1 w v0 v1 v3 v4 v5 m n c F i) (last_own_S1 w v0 v1 v3 v4 v5 m n c F i) (last_own_mu1 w v0 v1 v3 v4 v5 m n c F i) x1 ((x1.1 + 1, x1.2) : Nat × Int) (show (last_own_R1 w v0 v1 v3 v4 v5 m n c F i) ((x1.1 + 1, x1.2) : Nat × Int) ∧ (last_own_mu1 w v0 v1 v3 v4 v5 m n c F i) ((x1.1 + 1, x1.2) : Nat × Int) < (last_own_mu1 w v0 v1 v3 v4 v5 m n c F i) x1 from (show (((x1.1 + 1) ≤ n) ∧ (x1.2 = lastP F i (x1.1 + 1))) ∧ (n - (x1.1 + 1)) < (n - x1.1) from by first | exact ⟨⟨by omega, last_yes B1 (by assumption)⟩, by omega⟩ | exact ⟨⟨by omega, last_no B1 (by assumption)⟩, by omega⟩))))))))) (fun (h1 : (decide (x1.1 < n)) = false) => have f4 := (oF h1); aI kV2 (aT (eX (fun (ns : List Nat) => ns.length = 0 ∧ ((int x1.2) : Value) = (fun _ => int (lastP F i n)) ns ∧ ([some ⟨w, false, 0, (.lit [v0, v1, (Value.slice (some ⟨m, 0, none⟩) n c), v3, v4, v5])⟩, some ⟨m, false, 0, (tabS c F)⟩] : List (Option Blk)) = (fun _ => [some ⟨w, false, 0, (.lit [v0, v1, (Value.slice (some ⟨m, 0, none⟩) n c), v3, v4, v5])⟩, some ⟨m, false, 0, (tabS c F)⟩]) ns) [] (aI (@rfl Nat 0) (aI ((show (int x1.2) = int (lastP F i n) from by have e0 : x1.1 = n := (by omega); rw [e0] at B1; rw [B1])) (@rfl (List (Option Blk)) [some ⟨w, false, 0, (.lit [v0, v1, (Value.slice (some ⟨m, 0, none⟩) n c), v3, v4, v5])⟩, some ⟨m, false, 0, (tabS c F)⟩])))))))))))))))
theorem forfeit_some (w N pu pr pc : Nat) (b e d : UInt64) (G : Nat → UInt64) (m n c : Nat) (F : Nat → PaR) (q : Nat) (x : UInt64) (hk : q < n) (hn : n ≤ c ∧ n ≤ 20) (hw : (F q).w < N) (hN : N ≤ 8) (h0 : ¬ (F q).a - ffT N G (F q) x = 0) : Runs Try.prog 52 [(ptr w 0), (nat q), (u64 x)] [⟨w, true, 0, (.lit [(nat N), (ptr pu 0), (Value.slice (some ⟨m, 0, none⟩) n c), (u64 b), (u64 e), (u64 d)])⟩, ⟨pu, false, 0, (.lit [(Value.slice (some ⟨pr, 0, none⟩) (3 * N + 2) pc)])⟩, ⟨pr, true, 0, (tabF (3 * N + 2) (fun k => u64 (G k)))⟩, ⟨m, true, 0, (tabS c F)⟩] 0 (fun _ => u64 (ffT N G (F q) x)) (fun _ => [some ⟨w, true, 0, (.lit [(nat N), (ptr pu 0), (Value.slice (some ⟨m, 0, none⟩) n c), (u64 b), (u64 e), (u64 d)])⟩, some ⟨pu, false, 0, (.lit [(Value.slice (some ⟨pr, 0, none⟩) (3 * N + 2) pc)])⟩, some ⟨pr, true, 0, (tabF (3 * N + 2) (fun k => u64 (ffG N G (F q) x k)))⟩, some ⟨m, true, 0, (tabS c (upd F q (ffP (F q) (ffT N G (F q) x))))⟩]) :=
  runs_of_ev mix Try.func52 rfl rfl 400 (.reg (rg [.g]) (.reg (rg [.g, .g, .g, (.ld 0 (.lit 2)), .g, (.as (ptr m (0 + q * 4))), .g]) (.reg (rg [.g, .g, .g, (.ld 0 (.lit 1)), .g, .g, .g, .g, (.ld 3 (.tab q 0)), (.call [(0, true)] 0 0 (fun _ => (nat (2 * N + ((F q).w)))) (fun _ => [none])), .g, (.call [(0, true)] 0 0 (fun _ => (nat (3 * N))) (fun _ => [none])), .g, .g, .g, .g, (.ld 3 (.tab q 1)), (.as (u64 (minU x ((F q).a)))), (.call [(1, true), (2, false)] 0 0 (fun _ => (u64 (takeV (3 * N + 2) G ((2 * N + ((F q).w) : Nat) : Int) ((3 * N : Nat) : Int) (minU x ((F q).a))))) (fun _ => [none, some ⟨pr, true, 0, (tabF (3 * N + 2) (fun k => u64 (moveF (3 * N + 2) G ((2 * N + ((F q).w) : Nat) : Int) ((3 * N : Nat) : Int) (takeN (3 * N + 2) G ((2 * N + ((F q).w) : Nat) : Int) (minU x ((F q).a))) k)))⟩])), .g]) (.reg (rg [.g, .g, .g, (.ld 3 (.tab q 1)), .g, (.as (u64 (((F q).a) - (takeV (3 * N + 2) G ((2 * N + ((F q).w) : Nat) : Int) ((3 * N : Nat) : Int) (minU x ((F q).a)))))), .g, .g, (.stc 3 (.tab q 1) (tabS c (upd F q (PaR.mk ((F q).w) (((F q).a) - (takeV (3 * N + 2) G ((2 * N + ((F q).w) : Nat) : Int) ((3 * N : Nat) : Int) (minU x ((F q).a)))) ((F q).e) ((F q).n)))))]) (.reg (rg [.g, .g, .g, (.ld 3 (.tab q 1)), (.as (Value.bool (((upd F q (PaR.mk ((F q).w) (((F q).a) - (takeV (3 * N + 2) G ((2 * N + ((F q).w) : Nat) : Int) ((3 * N : Nat) : Int) (minU x ((F q).a)))) ((F q).e) ((F q).n)) q).a) == 0)))]) (.no (.reg (rg [.g, .g]) .done))))))) [] [] rfl
    (Eq.mp (by kernel_rfl) (aI kV1 (aI (sK3 (aI (aT (ad w 2)) (sk (aI (aT (@is_ixSl Try.prog 52 77 (.tmp 12) (.tmp 13) 4 (by kernel_rfl) (by kernel_rfl) m 0 n c q (show q < n from by omega))) kV1)))) (aI (sK3 (aI (aT (ad w 1)) (sK4 (aI (aT (aI (show q < c from by omega) (@rfl Value (ptr m (0 + q * 4))))) (aI (aT (Runs.dark [true] (acct_runs w N (ptr pu 0) (Value.slice (some ⟨m, 0, none⟩) n c) (u64 b) (u64 e) (u64 d) 2 ((F q).w) (show 2 ≤ 2 from by omega) (show (F q).w < N from by omega) (show N ≤ 8 from by omega)))) (sk (aI (aT (Runs.dark [true] (lpot_runs w N (ptr pu 0) (Value.slice (some ⟨m, 0, none⟩) n c) (u64 b) (u64 e) (u64 d) (show N ≤ 8 from by omega)))) (sK4 (aI (aT (aI (show q < c from by omega) (@rfl Value (ptr m (0 + q * 4 + 1))))) (aI (aT (@is_min64 Try.prog (.tmp 27) (.tmp 31) #[23, 23] x ((F q).a))) (aI (aT (Runs.dark [true, false] (take_runs pu pr (3 * N + 2) pc G ((2 * N + ((F q).w) : Nat) : Int) ((3 * N : Nat) : Int) (minU x ((F q).a)) (show (3 * N + 2) ≤ 40 from by omega)))) kV1))))))))))) (aI (sK3 (aI (aT (aI (show q < c from by omega) (@rfl Value (ptr m (0 + q * 4 + 1))))) (sk (aI (aT (@is_sub64 Try.prog 23 23 (.tmp 37) (.tmp 38) ((F q).a) (takeV (3 * N + 2) G ((2 * N + ((F q).w) : Nat) : Int) ((3 * N : Nat) : Int) (minU x ((F q).a))))) (sK2 (aI (aT (aI (show q < c from by omega) (aI (@rfl Value (ptr m (0 + q * 4 + 1))) (store_tabP (sz := 4) (off := 1) (n := c) paC F q (PaR.mk ((F q).w) (((F q).a) - (takeV (3 * N + 2) G ((2 * N + ((F q).w) : Nat) : Int) ((3 * N : Nat) : Int) (minU x ((F q).a)))) ((F q).e) ((F q).n)) [(u64 (((F q).a) - (takeV (3 * N + 2) G ((2 * N + ((F q).w) : Nat) : Int) ((3 * N : Nat) : Int) (minU x ((F q).a)))))] rfl rfl)))) tV)))))) (aI (sK3 (aI (aT (aI (show q < c from by omega) (@rfl Value (ptr m (0 + q * 4 + 1))))) (aI (aT (@is_eql64 Try.prog 23 23 (.tmp 45) (.const (.int .u64 0)) ((upd F q (PaR.mk ((F q).w) (((F q).a) - (takeV (3 * N + 2) G ((2 * N + ((F q).w) : Nat) : Int) ((3 * N : Nat) : Int) (minU x ((F q).a)))) ((F q).e) ((F q).n)) q).a) 0)) tV))) ((fun (hp1 : (((upd F q (PaR.mk ((F q).w) (((F q).a) - (takeV (3 * N + 2) G ((2 * N + ((F q).w) : Nat) : Int) ((3 * N : Nat) : Int) (minU x ((F q).a)))) ((F q).e) ((F q).n)) q).a) == 0) = false) => aT (aI hp1 (aI kV2 (aT (eX (fun (ns : List Nat) => ns.length = 0 ∧ ((u64 (takeV (3 * N + 2) G ((2 * N + ((F q).w) : Nat) : Int) ((3 * N : Nat) : Int) (minU x ((F q).a)))) : Value) = (fun _ => u64 (ffT N G (F q) x)) ns ∧ ([some ⟨w, true, 0, (.lit [(nat N), (ptr pu 0), (Value.slice (some ⟨m, 0, none⟩) n c), (u64 b), (u64 e), (u64 d)])⟩, some ⟨pu, false, 0, (.lit [(Value.slice (some ⟨pr, 0, none⟩) (3 * N + 2) pc)])⟩, some ⟨pr, true, 0, (tabF (3 * N + 2) (fun k => u64 (moveF (3 * N + 2) G ((2 * N + ((F q).w) : Nat) : Int) ((3 * N : Nat) : Int) (takeN (3 * N + 2) G ((2 * N + ((F q).w) : Nat) : Int) (minU x ((F q).a))) k)))⟩, some ⟨m, true, 0, (tabS c (upd F q (PaR.mk ((F q).w) (((F q).a) - (takeV (3 * N + 2) G ((2 * N + ((F q).w) : Nat) : Int) ((3 * N : Nat) : Int) (minU x ((F q).a)))) ((F q).e) ((F q).n))))⟩] : List (Option Blk)) = (fun _ => [some ⟨w, true, 0, (.lit [(nat N), (ptr pu 0), (Value.slice (some ⟨m, 0, none⟩) n c), (u64 b), (u64 e), (u64 d)])⟩, some ⟨pu, false, 0, (.lit [(Value.slice (some ⟨pr, 0, none⟩) (3 * N + 2) pc)])⟩, some ⟨pr, true, 0, (tabF (3 * N + 2) (fun k => u64 (ffG N G (F q) x k)))⟩, some ⟨m, true, 0, (tabS c (upd F q (ffP (F q) (ffT N G (F q) x))))⟩]) ns) [] (aI (@rfl Nat 0) (aI (@rfl Value (u64 (ffT N G (F q) x))) (@rfl (List (Option Blk)) [some ⟨w, true, 0, (.lit [(nat N), (ptr pu 0), (Value.slice (some ⟨m, 0, none⟩) n c), (u64 b), (u64 e), (u64 d)])⟩, some ⟨pu, false, 0, (.lit [(Value.slice (some ⟨pr, 0, none⟩) (3 * N + 2) pc)])⟩, some ⟨pr, true, 0, (tabF (3 * N + 2) (fun k => u64 (ffG N G (F q) x k)))⟩, some ⟨m, true, 0, (tabS c (upd F q (ffP (F q) (ffT N G (F q) x))))⟩])))))))) (show (((upd F q (PaR.mk ((F q).w) (((F q).a) - (takeV (3 * N + 2) G ((2 * N + ((F q).w) : Nat) : Int) ((3 * N : Nat) : Int) (minU x ((F q).a)))) ((F q).e) ((F q).n)) q).a) == 0) = false from by rw [upd_at]; exact beq_false_of_ne h0))))))))
theorem forfeit_all (w N pu pr pc : Nat) (b e d : UInt64) (G : Nat → UInt64) (m n c : Nat) (F : Nat → PaR) (q : Nat) (x : UInt64) (hk : q < n) (hn : n ≤ c ∧ n ≤ 20) (hw : (F q).w < N) (hN : N ≤ 8) (h0 : (F q).a - ffT N G (F q) x = 0) : Runs Try.prog 52 [(ptr w 0), (nat q), (u64 x)] [⟨w, true, 0, (.lit [(nat N), (ptr pu 0), (Value.slice (some ⟨m, 0, none⟩) n c), (u64 b), (u64 e), (u64 d)])⟩, ⟨pu, false, 0, (.lit [(Value.slice (some ⟨pr, 0, none⟩) (3 * N + 2) pc)])⟩, ⟨pr, true, 0, (tabF (3 * N + 2) (fun k => u64 (G k)))⟩, ⟨m, true, 0, (tabS c F)⟩] 0 (fun _ => u64 (ffT N G (F q) x)) (fun _ => [some ⟨w, true, 0, (.lit [(nat N), (ptr pu 0), (Value.slice (some ⟨m, 0, none⟩) (n - 1) c), (u64 b), (u64 e), (u64 d)])⟩, some ⟨pu, false, 0, (.lit [(Value.slice (some ⟨pr, 0, none⟩) (3 * N + 2) pc)])⟩, some ⟨pr, true, 0, (tabF (3 * N + 2) (fun k => u64 (ffG N G (F q) x k)))⟩, some ⟨m, true, 0, (tabS c (remF ltP (upd F q (ffP (F q) (ffT N G (F q) x))) (n - 1) q))⟩]) :=
  runs_of_ev mix Try.func52 rfl rfl 400 (.reg (rg [.g]) (.reg (rg [.g, .g, .g, (.ld 0 (.lit 2)), .g, (.as (ptr m (0 + q * 4))), .g]) (.reg (rg [.g, .g, .g, (.ld 0 (.lit 1)), .g, .g, .g, .g, (.ld 3 (.tab q 0)), (.call [(0, true)] 0 0 (fun _ => (nat (2 * N + ((F q).w)))) (fun _ => [none])), .g, (.call [(0, true)] 0 0 (fun _ => (nat (3 * N))) (fun _ => [none])), .g, .g, .g, .g, (.ld 3 (.tab q 1)), (.as (u64 (minU x ((F q).a)))), (.call [(1, true), (2, false)] 0 0 (fun _ => (u64 (takeV (3 * N + 2) G ((2 * N + ((F q).w) : Nat) : Int) ((3 * N : Nat) : Int) (minU x ((F q).a))))) (fun _ => [none, some ⟨pr, true, 0, (tabF (3 * N + 2) (fun k => u64 (moveF (3 * N + 2) G ((2 * N + ((F q).w) : Nat) : Int) ((3 * N : Nat) : Int) (takeN (3 * N + 2) G ((2 * N + ((F q).w) : Nat) : Int) (minU x ((F q).a))) k)))⟩])), .g]) (.reg (rg [.g, .g, .g, (.ld 3 (.tab q 1)), .g, (.as (u64 (((F q).a) - (takeV (3 * N + 2) G ((2 * N + ((F q).w) : Nat) : Int) ((3 * N : Nat) : Int) (minU x ((F q).a)))))), .g, .g, (.stc 3 (.tab q 1) (tabS c (upd F q (PaR.mk ((F q).w) (((F q).a) - (takeV (3 * N + 2) G ((2 * N + ((F q).w) : Nat) : Int) ((3 * N : Nat) : Int) (minU x ((F q).a)))) ((F q).e) ((F q).n)))))]) (.reg (rg [.g, .g, .g, (.ld 3 (.tab q 1)), (.as (Value.bool (((upd F q (PaR.mk ((F q).w) (((F q).a) - (takeV (3 * N + 2) G ((2 * N + ((F q).w) : Nat) : Int) ((3 * N : Nat) : Int) (minU x ((F q).a)))) ((F q).e) ((F q).n)) q).a) == 0)))]) (.yes (.reg (rg [.g, .g, .g, .g, .g, (.call [(0, false), (3, false)] 0 0 (fun _ => (Value.iface 77 (Value.agg #[(nat ((remF ltP (upd F q (PaR.mk ((F q).w) (((F q).a) - (takeV (3 * N + 2) G ((2 * N + ((F q).w) : Nat) : Int) ((3 * N : Nat) : Int) (minU x ((F q).a)))) ((F q).e) ((F q).n))) (n - 1) q (n - 1)).w)), (u64 ((remF ltP (upd F q (PaR.mk ((F q).w) (((F q).a) - (takeV (3 * N + 2) G ((2 * N + ((F q).w) : Nat) : Int) ((3 * N : Nat) : Int) (minU x ((F q).a)))) ((F q).e) ((F q).n))) (n - 1) q (n - 1)).a)), (u64 ((remF ltP (upd F q (PaR.mk ((F q).w) (((F q).a) - (takeV (3 * N + 2) G ((2 * N + ((F q).w) : Nat) : Int) ((3 * N : Nat) : Int) (minU x ((F q).a)))) ((F q).e) ((F q).n))) (n - 1) q (n - 1)).e)), (u64 ((remF ltP (upd F q (PaR.mk ((F q).w) (((F q).a) - (takeV (3 * N + 2) G ((2 * N + ((F q).w) : Nat) : Int) ((3 * N : Nat) : Int) (minU x ((F q).a)))) ((F q).e) ((F q).n))) (n - 1) q (n - 1)).n))]))) (fun _ => [some ⟨w, true, 0, (.lit [(nat N), (ptr pu 0), (Value.slice (some ⟨m, 0, none⟩) (n - 1) c), (u64 b), (u64 e), (u64 d)])⟩, some ⟨m, true, 0, (tabS c (remF ltP (upd F q (PaR.mk ((F q).w) (((F q).a) - (takeV (3 * N + 2) G ((2 * N + ((F q).w) : Nat) : Int) ((3 * N : Nat) : Int) (minU x ((F q).a)))) ((F q).e) ((F q).n))) (n - 1) q))⟩]))]) (.reg (rg [.g, .g]) .done)))))))) [] [] rfl
    (Eq.mp (by kernel_rfl) (aI kV1 (aI (sK3 (aI (aT (ad w 2)) (sk (aI (aT (@is_ixSl Try.prog 52 77 (.tmp 12) (.tmp 13) 4 (by kernel_rfl) (by kernel_rfl) m 0 n c q (show q < n from by omega))) kV1)))) (aI (sK3 (aI (aT (ad w 1)) (sK4 (aI (aT (aI (show q < c from by omega) (@rfl Value (ptr m (0 + q * 4))))) (aI (aT (Runs.dark [true] (acct_runs w N (ptr pu 0) (Value.slice (some ⟨m, 0, none⟩) n c) (u64 b) (u64 e) (u64 d) 2 ((F q).w) (show 2 ≤ 2 from by omega) (show (F q).w < N from by omega) (show N ≤ 8 from by omega)))) (sk (aI (aT (Runs.dark [true] (lpot_runs w N (ptr pu 0) (Value.slice (some ⟨m, 0, none⟩) n c) (u64 b) (u64 e) (u64 d) (show N ≤ 8 from by omega)))) (sK4 (aI (aT (aI (show q < c from by omega) (@rfl Value (ptr m (0 + q * 4 + 1))))) (aI (aT (@is_min64 Try.prog (.tmp 27) (.tmp 31) #[23, 23] x ((F q).a))) (aI (aT (Runs.dark [true, false] (take_runs pu pr (3 * N + 2) pc G ((2 * N + ((F q).w) : Nat) : Int) ((3 * N : Nat) : Int) (minU x ((F q).a)) (show (3 * N + 2) ≤ 40 from by omega)))) kV1))))))))))) (aI (sK3 (aI (aT (aI (show q < c from by omega) (@rfl Value (ptr m (0 + q * 4 + 1))))) (sk (aI (aT (@is_sub64 Try.prog 23 23 (.tmp 37) (.tmp 38) ((F q).a) (takeV (3 * N + 2) G ((2 * N + ((F q).w) : Nat) : Int) ((3 * N : Nat) : Int) (minU x ((F q).a))))) (sK2 (aI (aT (aI (show q < c from by omega) (aI (@rfl Value (ptr m (0 + q * 4 + 1))) (store_tabP (sz := 4) (off := 1) (n := c) paC F q (PaR.mk ((F q).w) (((F q).a) - (takeV (3 * N + 2) G ((2 * N + ((F q).w) : Nat) : Int) ((3 * N : Nat) : Int) (minU x ((F q).a)))) ((F q).e) ((F q).n)) [(u64 (((F q).a) - (takeV (3 * N + 2) G ((2 * N + ((F q).w) : Nat) : Int) ((3 * N : Nat) : Int) (minU x ((F q).a)))))] rfl rfl)))) tV)))))) (aI (sK3 (aI (aT (aI (show q < c from by omega) (@rfl Value (ptr m (0 + q * 4 + 1))))) (aI (aT (@is_eql64 Try.prog 23 23 (.tmp 45) (.const (.int .u64 0)) ((upd F q (PaR.mk ((F q).w) (((F q).a) - (takeV (3 * N + 2) G ((2 * N + ((F q).w) : Nat) : Int) ((3 * N : Nat) : Int) (minU x ((F q).a)))) ((F q).e) ((F q).n)) q).a) 0)) tV))) ((fun (hp1 : (((upd F q (PaR.mk ((F q).w) (((F q).a) - (takeV (3 * N + 2) G ((2 * N + ((F q).w) : Nat) : Int) ((3 * N : Nat) : Int) (minU x ((F q).a)))) ((F q).e) ((F q).n)) q).a) == 0) = true) => aT (aI hp1 (aI (sK4 (sk (aI (aT (hrem_runs w (nat N) (ptr pu 0) (u64 b) (u64 e) (u64 d) m n c (upd F q (PaR.mk ((F q).w) (((F q).a) - (takeV (3 * N + 2) G ((2 * N + ((F q).w) : Nat) : Int) ((3 * N : Nat) : Int) (minU x ((F q).a)))) ((F q).e) ((F q).n))) q (show q < n ∧ n ≤ c ∧ n ≤ 1000000 from by omega))) tV))) (aI kV2 (aT (eX (fun (ns : List Nat) => ns.length = 0 ∧ ((u64 (takeV (3 * N + 2) G ((2 * N + ((F q).w) : Nat) : Int) ((3 * N : Nat) : Int) (minU x ((F q).a)))) : Value) = (fun _ => u64 (ffT N G (F q) x)) ns ∧ ([some ⟨w, true, 0, (.lit [(nat N), (ptr pu 0), (Value.slice (some ⟨m, 0, none⟩) (n - 1) c), (u64 b), (u64 e), (u64 d)])⟩, some ⟨pu, false, 0, (.lit [(Value.slice (some ⟨pr, 0, none⟩) (3 * N + 2) pc)])⟩, some ⟨pr, true, 0, (tabF (3 * N + 2) (fun k => u64 (moveF (3 * N + 2) G ((2 * N + ((F q).w) : Nat) : Int) ((3 * N : Nat) : Int) (takeN (3 * N + 2) G ((2 * N + ((F q).w) : Nat) : Int) (minU x ((F q).a))) k)))⟩, some ⟨m, true, 0, (tabS c (remF ltP (upd F q (PaR.mk ((F q).w) (((F q).a) - (takeV (3 * N + 2) G ((2 * N + ((F q).w) : Nat) : Int) ((3 * N : Nat) : Int) (minU x ((F q).a)))) ((F q).e) ((F q).n))) (n - 1) q))⟩] : List (Option Blk)) = (fun _ => [some ⟨w, true, 0, (.lit [(nat N), (ptr pu 0), (Value.slice (some ⟨m, 0, none⟩) (n - 1) c), (u64 b), (u64 e), (u64 d)])⟩, some ⟨pu, false, 0, (.lit [(Value.slice (some ⟨pr, 0, none⟩) (3 * N + 2) pc)])⟩, some ⟨pr, true, 0, (tabF (3 * N + 2) (fun k => u64 (ffG N G (F q) x k)))⟩, some ⟨m, true, 0, (tabS c (remF ltP (upd F q (ffP (F q) (ffT N G (F q) x))) (n - 1) q))⟩]) ns) [] (aI (@rfl Nat 0) (aI (@rfl Value (u64 (ffT N G (F q) x))) (@rfl (List (Option Blk)) [some ⟨w, true, 0, (.lit [(nat N), (ptr pu 0), (Value.slice (some ⟨m, 0, none⟩) (n - 1) c), (u64 b), (u64 e), (u64 d)])⟩, some ⟨pu, false, 0, (.lit [(Value.slice (some ⟨pr, 0, none⟩) (3 * N + 2) pc)])⟩, some ⟨pr, true, 0, (tabF (3 * N + 2) (fun k => u64 (ffG N G (F q) x k)))⟩, some ⟨m, true, 0, (tabS c (remF ltP (upd F q (ffP (F q) (ffT N G (F q) x))) (n - 1) q))⟩]))))))))) (show (((upd F q (PaR.mk ((F q).w) (((F q).a) - (takeV (3 * N + 2) G ((2 * N + ((F q).w) : Nat) : Int) ((3 * N : Nat) : Int) (minU x ((F q).a)))) ((F q).e) ((F q).n)) q).a) == 0) = true from by rw [upd_at]; exact beq_iff_eq.2 h0))))))))
end Go.Proofs.Ytchkbchbfilipaa
end
section
namespace Go.Eng
theorem minU_nat (a b : UInt64) : (minU a b).toNat = min a.toNat b.toNat := by
  unfold minU
  by_cases h : b < a
  · have h' : b.toNat < a.toNat := h
    rw [if_pos h]; omega
  · have h' : ¬ b.toNat < a.toNat := h
    rw [if_neg h]; omega
theorem hasV_nat {n : Nat} {f : Nat → UInt64} {k : Nat} (h : k < n) : hasV n f ((k : Nat) : Int) = f k := by unfold hasV; rw [isI_nat h]; rfl
def mvF (f : Nat → UInt64) (a b : Nat) (x : UInt64) : Nat → UInt64 := fun j => if j = b then f b + x else if j = a then f a - x else f j
theorem moveE_at {n a b : Nat} {f : Nat → UInt64} {x : UInt64} (ha : a < n) (hb : b < n) : moveE n f ((a : Nat) : Int) ((b : Nat) : Int) x = if f a < x then 50 else 0 := by
  unfold moveE; rw [if_pos ⟨isI_nat ha, isI_nat hb⟩]; rfl
theorem moveF_at {n a b : Nat} {f : Nat → UInt64} {x : UInt64} (ha : a < n) (hb : b < n) (hab : a ≠ b) (hx : ¬ f a < x) : moveF n f ((a : Nat) : Int) ((b : Nat) : Int) x = mvF f a b x := by
  rw [moveF_ok (by rw [moveE_at ha hb, if_neg hx])]
  simp only [Int.toNat_natCast]
  funext j
  unfold mvF upd
  by_cases h1 : j = b
  · rw [if_pos h1, if_pos h1, if_neg (Ne.symm hab)]
  · rw [if_neg h1, if_neg h1]
theorem take_at {n a b : Nat} {f : Nat → UInt64} {x : UInt64} (ha : a < n) (hb : b < n) (hab : a ≠ b) :
    takeV n f ((a : Nat) : Int) ((b : Nat) : Int) x = minU x (f a) ∧ moveF n f ((a : Nat) : Int) ((b : Nat) : Int) (takeN n f ((a : Nat) : Int) x) = mvF f a b (minU x (f a)) := by
  have e : takeN n f ((a : Nat) : Int) x = minU x (f a) := by unfold takeN; rw [hasV_nat ha]
  have hm : ¬ f a < minU x (f a) := by
    intro h
    have h' : (f a).toNat < (minU x (f a)).toNat := h
    rw [minU_nat] at h'; omega
  rw [e]
  refine ⟨?_, moveF_at ha hb hab hm⟩
  unfold takeV
  rw [e, if_pos (by rw [moveE_at ha hb, if_neg hm])]
structure FlRel (N : Nat) (S : FlS) (L : List PaR) : Prop where
  std : StdG ltP S.F S.n L
  who : ∀ p ∈ L, p.w < N
  pos : ∀ p ∈ L, 0 < p.a.toNat
  wt : ∀ w, w < N → (S.G (2 * N + w)).toNat = sumA w L
  good : goodN (3 * N + 2) S.G
theorem FlRel.took {N : Nat} {S : FlS} {L : List PaR} {p : PaR} (h : FlRel N S L) (hp : p ∈ L) (x : UInt64) : ffT N S.G p x = minU x p.a ∧ ffG N S.G p x = mvF S.G (2 * N + p.w) (3 * N) (minU x p.a) ∧ (minU x p.a).toNat ≤ (S.G (2 * N + p.w)).toNat := by
  have hw := h.who p hp
  have h1 := sumA_one hp rfl
  rw [← h.wt p.w hw] at h1
  have h2 : minU (minU x p.a) (S.G (2 * N + p.w)) = minU x p.a := by
    apply UInt64.toNat_inj.1
    rw [minU_nat, minU_nat]; omega
  obtain ⟨h3, h4⟩ := take_at (n := 3 * N + 2) (a := 2 * N + p.w) (b := 3 * N) (f := S.G) (x := minU x p.a) (by omega) (by omega) (by omega)
  rw [h2] at h3 h4
  exact ⟨h3, h4, by rw [minU_nat]; omega⟩
theorem sub_nat {a b : UInt64} (h : b.toNat ≤ a.toNat) : (a - b).toNat = a.toNat - b.toNat := UInt64.toNat_sub_of_le _ _ (UInt64.le_iff_toNat_le.2 h)
theorem good_mv {n a b : Nat} {f : Nat → UInt64} {x : UInt64} (hg : goodN n f) (ha : a < n) (hb : b < n) (hab : a ≠ b) (hx : x.toNat ≤ (f a).toNat) : goodN n (mvF f a b x) ∧ sumU (mvF f a b x) n = sumU f n := by
  have hx' : ¬ f a < x := by intro h; have h' : (f a).toNat < x.toNat := h; omega
  have e := moveF_at (n := n) ha hb hab hx'
  rw [← e]
  exact ⟨good_of_sum hg (sum_move hg), sum_move hg⟩
theorem ltP_same {p q : PaR} (he : p.e = q.e) (hn : p.n = q.n) : (∀ z, ltP z p = ltP z q) ∧ ∀ z, ltP p z = ltP q z := by
  refine ⟨fun z => ?_, fun z => ?_⟩ <;> (unfold ltP ordP; rw [he, hn])
theorem FlRel.step {N : Nat} {S : FlS} {A B : List PaR} {p : PaR} {q : Nat} (h : FlRel N S (A ++ p :: B)) (hq : q < S.n) (hF : S.F q = p) (x : UInt64) :
    ((p.a.toNat ≤ x.toNat ∧ p.a - ffT N S.G p x = 0 ∧ FlRel N (ffS N S q x) (A ++ B) ∧ (ffS N S q x).n = S.n - 1) ∨
     (x.toNat < p.a.toNat ∧ ¬ p.a - ffT N S.G p x = 0 ∧ FlRel N (ffS N S q x) (A ++ ffP p x :: B) ∧ (ffS N S q x).n = S.n)) ∧
    (ffS N S q x).t = S.t + minU x p.a ∧ (ffS N S q x).G = mvF S.G (2 * N + p.w) (3 * N) (minU x p.a) := by
  have hp : p ∈ A ++ p :: B := by simp
  obtain ⟨h1, h2, h3⟩ := h.took hp x
  have hw := h.who p hp
  have hmn := minU_nat x p.a
  obtain ⟨hg, _⟩ := good_mv (x := minU x p.a) h.good (show 2 * N + p.w < 3 * N + 2 by omega) (show 3 * N < 3 * N + 2 by omega) (show 2 * N + p.w ≠ 3 * N by omega) h3
  have hle : (ffT N S.G p x).toNat ≤ p.a.toNat := by rw [h1, hmn]; omega
  have hsb := sub_nat hle
  rw [h1] at hsb
  have hG : ∀ w, w < N → (mvF S.G (2 * N + p.w) (3 * N) (minU x p.a) (2 * N + w)).toNat = if p.w = w then (S.G (2 * N + w)).toNat - (minU x p.a).toNat else (S.G (2 * N + w)).toNat := fun w hw2 => by
    unfold mvF
    rw [if_neg (by omega)]
    by_cases e : p.w = w
    · rw [if_pos e, if_pos (by omega), ← e]; exact sub_nat h3
    · rw [if_neg e, if_neg (by omega)]
  by_cases hx : p.a.toNat ≤ x.toNat
  · have h0 : p.a - ffT N S.G p x = 0 := by
      apply UInt64.toNat_inj.1
      rw [h1, hsb, hmn]; show _ = 0; omega
    have e : ffS N S q x = ⟨remF ltP (upd S.F q (ffP (S.F q) (ffT N S.G (S.F q) x))) (S.n - 1) q, S.n - 1, ffG N S.G (S.F q) x, S.t + ffT N S.G (S.F q) x⟩ := by unfold ffS; rw [if_pos (by rw [hF]; exact h0)]
    rw [e, hF, h1, h2]
    refine ⟨.inl ⟨hx, by rw [← h1]; exact h0, ⟨?_, fun y hy => h.who y ?_, fun y hy => h.pos y ?_, fun w hw2 => ?_, hg⟩, rfl⟩, rfl, rfl⟩
    · obtain ⟨k1, k2⟩ := ltP_same (p := ffP p (minU x p.a)) (q := p) rfl rfl
      have hs := h.std.set ltP_swo hq hF k1 k2
      exact hs.rem ltP_swo hq (upd_at _ _ _)
    · simp only [List.mem_append] at hy; simp only [List.mem_append, List.mem_cons]
      rcases hy with hy | hy
      · exact .inl hy
      · exact .inr (.inr hy)
    · simp only [List.mem_append] at hy; simp only [List.mem_append, List.mem_cons]
      rcases hy with hy | hy
      · exact .inl hy
      · exact .inr (.inr hy)
    · have := h.wt w hw2
      show (mvF S.G (2 * N + p.w) (3 * N) (minU x p.a) (2 * N + w)).toNat = _
      rw [hG w hw2, this, sumA_app, sumA_app, sumA]
      by_cases e2 : p.w = w
      · rw [if_pos e2, if_pos e2, hmn]; omega
      · rw [if_neg e2, if_neg e2]; omega
  · have h0 : ¬ p.a - ffT N S.G p x = 0 := fun h0 => by
      have h4 : (p.a - ffT N S.G p x).toNat = 0 := by rw [h0]; rfl
      rw [h1, hsb, hmn] at h4; omega
    have ex : minU x p.a = x := by apply UInt64.toNat_inj.1; rw [hmn]; omega
    have e : ffS N S q x = ⟨upd S.F q (ffP (S.F q) (ffT N S.G (S.F q) x)), S.n, ffG N S.G (S.F q) x, S.t + ffT N S.G (S.F q) x⟩ := by unfold ffS; rw [if_neg (by rw [hF]; exact h0)]
    rw [e, hF, h1, h2]
    rw [ex] at hsb
    refine ⟨.inr ⟨by omega, by rw [← h1]; exact h0, ⟨?_, fun y hy => ?_, fun y hy => ?_, fun w hw2 => ?_, hg⟩, rfl⟩, rfl, rfl⟩
    · obtain ⟨k1, k2⟩ := ltP_same (p := ffP p (minU x p.a)) (q := p) rfl rfl
      rw [ex] at k1 k2 ⊢
      exact h.std.set ltP_swo hq hF k1 k2
    · simp only [List.mem_append, List.mem_cons] at hy
      rcases hy with hy | rfl | hy
      · exact h.who y (by simp [hy])
      · exact hw
      · exact h.who y (by simp [hy])
    · simp only [List.mem_append, List.mem_cons] at hy
      rcases hy with hy | rfl | hy
      · exact h.pos y (by simp [hy])
      · show 0 < (p.a - x).toNat
        rw [hsb]; omega
      · exact h.pos y (by simp [hy])
    · have := h.wt w hw2
      show (mvF S.G (2 * N + p.w) (3 * N) (minU x p.a) (2 * N + w)).toNat = _
      rw [hG w hw2, this, sumA_app, sumA_app, sumA, sumA]
      have e3 : (ffP p x).w = p.w := rfl
      have e4 : (ffP p x).a.toNat = p.a.toNat - x.toNat := hsb
      rw [e3, e4]
      by_cases e2 : p.w = w
      · rw [if_pos e2, if_pos e2, if_pos e2, ex]; omega
      · rw [if_neg e2, if_neg e2, if_neg e2]
def fltL (w : Nat) : List PaR → UInt64 → List PaR × UInt64
  | [], x => ([], x)
  | p :: L, x => if p.w = w ∧ (fltL w L x).2 ≠ 0 then (if p.a.toNat ≤ (fltL w L x).2.toNat then ((fltL w L x).1, (fltL w L x).2 - p.a) else (ffP p (fltL w L x).2 :: (fltL w L x).1, 0)) else (p :: (fltL w L x).1, (fltL w L x).2)
theorem fltL_zero (w : Nat) : ∀ L, fltL w L 0 = (L, 0)
  | [] => rfl
  | p :: L => by rw [fltL, fltL_zero w L, if_neg (fun h => h.2 rfl)]
theorem fltL_none {w : Nat} {x : UInt64} : ∀ {L : List PaR}, (∀ p ∈ L, p.w ≠ w) → fltL w L x = (L, x)
  | [], _ => rfl
  | p :: L, h => by rw [fltL, fltL_none fun y hy => h y (by simp [hy]), if_neg (fun h2 => h p (by simp) h2.1)]
theorem fltL_app (w : Nat) (B : List PaR) (x : UInt64) : ∀ A, fltL w (A ++ B) x = ((fltL w A (fltL w B x).2).1 ++ (fltL w B x).1, (fltL w A (fltL w B x).2).2)
  | [] => rfl
  | p :: A => by
    rw [List.cons_append, fltL, fltL, fltL_app w B x A]
    simp only
    split
    · split <;> rfl
    · rfl
structure FlOut (N w : Nat) (x : UInt64) (S R : FlS) (L : List PaR) : Prop where
  rel : FlRel N R (fltL w L (x - S.t)).1
  t : R.t.toNat = x.toNat - (fltL w L (x - S.t)).2.toNat
  le : (fltL w L (x - S.t)).2.toNat ≤ (x - S.t).toNat
  pot : R.G (3 * N) = S.G (3 * N) + (R.t - S.t)
  oth : ∀ j, (j < 2 * N ∨ 3 * N < j) → R.G j = S.G j
  oth2 : ∀ v, v < N → v ≠ w → R.G (2 * N + v) = S.G (2 * N + v)
  n : R.n ≤ S.n
  sum : sumU R.G (3 * N + 2) = sumU S.G (3 * N + 2)
theorem fl_run {N w : Nat} {x : UInt64} (hw : w < N) : ∀ (m : Nat) (S : FlS) (L : List PaR), FlRel N S L → S.t.toNat ≤ x.toNat → S.n + (if S.t < x then 1 else 0) ≤ m → FlOut N w x S (flI N w x m S) L
  | m, S, L, h, ht, hm => by
    have hxt := sub_nat ht
    have hend : fltL w L (x - S.t) = (L, x - S.t) → flC w x S = false → FlOut N w x S (flI N w x m S) L := fun e1 e2 => by
      rw [flI_end e2]
      refine ⟨by rw [e1]; exact h, ?_, by rw [e1]; exact Nat.le_refl _, ?_, fun _ _ => rfl, fun _ _ _ => rfl, Nat.le_refl _, rfl⟩
      · rw [e1]; show S.t.toNat = _ - (x - S.t).toNat; rw [hxt]; omega
      · rw [UInt64.sub_self, UInt64.add_zero]
    by_cases hlt : S.t < x
    · have hlt' : S.t.toNat < x.toNat := hlt
      rcases h.std.last w with ⟨h1, h2⟩ | ⟨q, A, p, B, hq, h1, hF, rfl, hpw, hB⟩
      · refine hend (fltL_none h2) ?_
        unfold flC; rw [h1, decide_eq_false (by omega)]; rfl
      · have hc : flC w x S = true := by unfold flC; rw [h1, decide_eq_true (by omega), decide_eq_true hlt]; rfl
        rw [if_pos hlt] at hm
        match m, hm with
        | m + 1, hm =>
          rw [flI_go hc, h1]
          simp only [Int.toNat_natCast]
          obtain ⟨h3, h4, h5⟩ := h.step hq hF (x - S.t)
          have hmn := minU_nat (x - S.t) p.a
          have htn : (ffS N S q (x - S.t)).t.toNat = S.t.toNat + (minU (x - S.t) p.a).toNat := by
            rw [h4, UInt64.toNat_add, Nat.mod_eq_of_lt]; have := x.toNat_lt; omega
          have hpN := h.who p (by simp)
          have hmv : ∀ j, (j < 2 * N ∨ 3 * N < j) → (ffS N S q (x - S.t)).G j = S.G j := fun j hj => by
            rw [h5]; unfold mvF; rw [if_neg (by omega), if_neg (by omega)]
          have hmv2 : ∀ v, v < N → v ≠ w → (ffS N S q (x - S.t)).G (2 * N + v) = S.G (2 * N + v) := fun v hv hne => by
            rw [h5]; unfold mvF; rw [if_neg (by omega), if_neg (by omega)]
          have hmv3 : (ffS N S q (x - S.t)).G (3 * N) = S.G (3 * N) + minU (x - S.t) p.a := by rw [h5]; unfold mvF; rw [if_pos rfl]
          have hsum : sumU (ffS N S q (x - S.t)).G (3 * N + 2) = sumU S.G (3 * N + 2) := by
            rw [h5]
            exact (good_mv h.good (by omega) (by omega) (by omega) (h.took (p := p) (by simp) _).2.2).2
          have hBx : fltL w B (x - S.t) = (B, x - S.t) := fltL_none hB
          have hx0 : x - S.t ≠ 0 := fun e => by
            have h7 : (x - S.t).toNat = 0 := by
              rw [e]; rfl
            omega
          have hsub : x - S.t - minU (x - S.t) p.a = x - (ffS N S q (x - S.t)).t := by
            apply UInt64.toNat_inj.1
            rw [sub_nat (a := x - S.t) (b := minU (x - S.t) p.a) (by omega), sub_nat (a := x) (b := (ffS N S q (x - S.t)).t) (by omega), hxt, htn]; omega
          have h9 := sub_nat (a := x - S.t) (b := minU (x - S.t) p.a) (by omega)
          rw [hsub] at h9
          have hd : ∀ U : UInt64, S.G (3 * N) + minU (x - S.t) p.a + (U - (ffS N S q (x - S.t)).t) = S.G (3 * N) + (U - S.t) := fun U => by
            rw [h4]
            apply UInt64.toBitVec_inj.1
            simp only [UInt64.toBitVec_add, UInt64.toBitVec_sub]
            bv_omega
          rcases h3 with ⟨k1, k2, k3, k4⟩ | ⟨k1, k2, k3, k4⟩
          · have hall : minU (x - S.t) p.a = p.a := by apply UInt64.toNat_inj.1; rw [hmn]; omega
            have e1 : fltL w (A ++ p :: B) (x - S.t) = fltL w (A ++ B) (x - (ffS N S q (x - S.t)).t) := by
              rw [← hsub, hall, fltL_app, fltL_app, fltL_none (x := x - S.t - p.a) hB, fltL, hBx, if_pos ⟨hpw, hx0⟩, if_pos k1]
            obtain ⟨r1, r2, r3, r4, r5, r6, r7, r8⟩ := fl_run (x := x) hw m (ffS N S q (x - S.t)) (A ++ B) k3 (by omega) (by rw [k4]; split <;> omega)
            refine ⟨by rw [e1]; exact r1, by rw [e1]; exact r2, ?_, ?_, fun j hj => (r5 j hj).trans (hmv j hj), fun v hv hne => (r6 v hv hne).trans (hmv2 v hv hne), by omega, r8.trans hsum⟩
            · rw [e1]; omega
            · rw [r4, hmv3]; exact hd _
          · have hx : minU (x - S.t) p.a = x - S.t := by apply UInt64.toNat_inj.1; rw [hmn]; omega
            have ht2 : (ffS N S q (x - S.t)).t = x := by apply UInt64.toNat_inj.1; rw [htn, hx, hxt]; omega
            have hz : x - (ffS N S q (x - S.t)).t = 0 := by rw [ht2, UInt64.sub_self]
            have e1 : fltL w (A ++ p :: B) (x - S.t) = fltL w (A ++ ffP p (x - S.t) :: B) (x - (ffS N S q (x - S.t)).t) := by
              rw [hz, fltL_zero, fltL_app, fltL, hBx, if_pos ⟨hpw, hx0⟩, if_neg (show ¬ p.a.toNat ≤ (x - S.t).toNat by omega)]
              simp only [fltL_zero]
            obtain ⟨r1, r2, r3, r4, r5, r6, r7, r8⟩ := fl_run (x := x) hw m (ffS N S q (x - S.t)) (A ++ ffP p (x - S.t) :: B) k3 (by rw [ht2]; exact Nat.le_refl _) (by rw [k4, ht2, if_neg (show ¬ x < x from fun h => Nat.lt_irrefl _ h)]; omega)
            refine ⟨by rw [e1]; exact r1, by rw [e1]; exact r2, ?_, ?_, fun j hj => (r5 j hj).trans (hmv j hj), fun v hv hne => (r6 v hv hne).trans (hmv2 v hv hne), by omega, r8.trans hsum⟩
            · rw [e1, hz, fltL_zero]; exact Nat.zero_le _
            · rw [r4, hmv3]; exact hd _
    · have ex : S.t = x := by
        apply UInt64.toNat_inj.1
        have : ¬ S.t.toNat < x.toNat := hlt
        omega
      have e0 : x - S.t = 0 := by rw [ex, UInt64.sub_self]
      refine hend (by rw [e0]; exact fltL_zero w L) ?_
      unfold flC; rw [decide_eq_false hlt]; cases decide (lastP S.F w S.n ≥ 0) <;> rfl
end Go.Eng
end
section
namespace Go.Eng
def intC (x : Int) : List Value := [int x]
theorem intC_ok (x : Int) : (intC x).length = 1 ∧ (intC x).all Value.oneCell' = true := ⟨rfl, rfl⟩
def dueP (e : UInt64) (L : List PaR) : Nat := (L.takeWhile fun p => decide (p.e ≤ e)).length
theorem dueP_at {e : UInt64} : ∀ (L : List PaR), dueP e L ≤ L.length ∧ (∀ k, k < dueP e L → decide ((L.getD k paZ).e ≤ e) = true) ∧ (dueP e L < L.length → decide ((L.getD (dueP e L) paZ).e ≤ e) = false)
  | [] => ⟨Nat.le_refl _, fun k h => absurd h (Nat.not_lt_zero k), fun h => absurd h (Nat.lt_irrefl 0)⟩
  | x :: l => by
    obtain ⟨h1, h2, h3⟩ := dueP_at (e := e) l
    by_cases h : x.e ≤ e
    · have e1 : dueP e (x :: l) = dueP e l + 1 := by unfold dueP; simp [h]
      rw [e1]
      refine ⟨by simp; omega, fun k hk => ?_, fun hk => ?_⟩
      · cases k with
        | zero => simpa using h
        | succ k => simpa using h2 k (by omega)
      · simpa using h3 (by simpa using hk)
    · have e1 : dueP e (x :: l) = 0 := by unfold dueP; simp [h]
      rw [e1]
      exact ⟨Nat.zero_le _, fun k hk => absurd hk (Nat.not_lt_zero k), fun _ => by simpa using h⟩
def frG (N : Nat) (L : List PaR) (G : Nat → UInt64) : Nat → Nat → UInt64
  | 0 => G
  | k + 1 => moveF (3 * N + 2) (frG N L G k) ((2 * N + (L.getD k paZ).w : Nat) : Int) ((0 * N + (L.getD k paZ).w : Nat) : Int) (L.getD k paZ).a
section
variable {F P : Nat → PaR} {n j k : Nat} {L : List PaR} {e : UInt64}
theorem due_yes (hs : StdG ltP F n L) (hk : k ≤ dueP e L) (hj : j = n - k) (hP : P = popG ltP F n k) (h : selB (decide (0 < j)) (decide ((P 0).e ≤ e)) false = true) : k < dueP e L ∧ k < n ∧ popF ltP P (j - 1) (j - 1) = L.getD k paZ := by
  obtain ⟨h1, h2, h3⟩ := dueP_at (e := e) L
  have hl := hs.len
  subst hj hP
  simp [selB_and] at h
  have h4 := (hs.popG ltP_swo paZ k (by omega)).2 (by omega)
  refine ⟨?_, by omega, h4.2⟩
  rcases Nat.lt_or_ge k (dueP e L) with h5 | h5
  · exact h5
  · have e0 : k = dueP e L := by omega
    subst e0
    have := h3 (by omega)
    rw [← h4.1] at this
    rw [decide_eq_true h.2] at this; cases this
theorem due_no (hs : StdG ltP F n L) (hk : k ≤ dueP e L) (hj : j = n - k) (hP : P = popG ltP F n k) (h : selB (decide (0 < j)) (decide ((P 0).e ≤ e)) false = false) : k = dueP e L := by
  obtain ⟨h1, h2, h3⟩ := dueP_at (e := e) L
  have hl := hs.len
  subst hj hP
  rcases Nat.lt_or_ge k (dueP e L) with h5 | h5
  · have h4 := (hs.popG ltP_swo paZ k (by omega)).2 (by omega)
    have := h2 k h5
    rw [← h4.1] at this
    rw [this, decide_eq_true (by omega)] at h; cases h
  · omega
end
theorem nx_cat {f g : Nat → Int} {n : Nat} {w : Int} (h : ∀ k, k < n → f k = g k) (hw : w = g n) : ∀ k, k < n + 1 → catU f n (fun _ => w) k = g k := fun k hk => by
  unfold catU
  by_cases h7 : k < n
  · rw [if_pos h7]; exact h k h7
  · rw [if_neg h7, show k = n by omega]; exact hw
def FlAt (N w : Nat) (x : UInt64) (S : FlS) : Prop := (∃ L, FlRel N S L) ∧ S.t.toNat ≤ x.toNat
theorem flC_no {P : Nat → PaR} {w j : Nat} {H : Nat → UInt64} {t x : UInt64} {l : Int} (hl : l = lastP P w j) (h : selB (decide (l ≥ 0)) (decide (t < x)) false = false) : flC w x ⟨P, j, H, t⟩ = false := by subst hl; exact h
theorem fl_who {N w : Nat} {x : UInt64} {P : Nat → PaR} {j : Nat} {H : Nat → UInt64} {t : UInt64} (h : FlAt N w x ⟨P, j, H, t⟩) (q : Nat) : q < j → (P q).w < N := fun hq => by
  obtain ⟨⟨L, hL⟩, _⟩ := h
  exact hL.who _ (hL.std.en.mem q hq)
theorem fl_step {N w : Nat} {x : UInt64} {P : Nat → PaR} {j : Nat} {H : Nat → UInt64} {t : UInt64} {l : Int} {R : FlS} (h : FlAt N w x ⟨P, j, H, t⟩) (hl : l = lastP P w j) (hc : selB (decide (l ≥ 0)) (decide (t < x)) false = true) (hR : flI N w x (j + 1) ⟨P, j, H, t⟩ = R) :
    ((P l.toNat).a - ffT N H (P l.toNat) (x - t) = 0 → (FlAt N w x ⟨remF ltP (upd P l.toNat (ffP (P l.toNat) (ffT N H (P l.toNat) (x - t)))) (j - 1) l.toNat, j - 1, ffG N H (P l.toNat) (x - t), t + ffT N H (P l.toNat) (x - t)⟩ ∧
      flI N w x (j - 1 + 1) ⟨remF ltP (upd P l.toNat (ffP (P l.toNat) (ffT N H (P l.toNat) (x - t)))) (j - 1) l.toNat, j - 1, ffG N H (P l.toNat) (x - t), t + ffT N H (P l.toNat) (x - t)⟩ = R) ∧
      j - 1 + (if t + ffT N H (P l.toNat) (x - t) < x then 1 else 0) < j + (if t < x then 1 else 0)) ∧
    (¬ (P l.toNat).a - ffT N H (P l.toNat) (x - t) = 0 → (FlAt N w x ⟨upd P l.toNat (ffP (P l.toNat) (ffT N H (P l.toNat) (x - t))), j, ffG N H (P l.toNat) (x - t), t + ffT N H (P l.toNat) (x - t)⟩ ∧
      flI N w x (j + 1) ⟨upd P l.toNat (ffP (P l.toNat) (ffT N H (P l.toNat) (x - t))), j, ffG N H (P l.toNat) (x - t), t + ffT N H (P l.toNat) (x - t)⟩ = R) ∧
      j + (if t + ffT N H (P l.toNat) (x - t) < x then 1 else 0) < j + (if t < x then 1 else 0)) := by
  obtain ⟨⟨L, hL⟩, ht⟩ := h
  subst hl
  have hfc : flC w x ⟨P, j, H, t⟩ = true := hc
  simp [selB_and] at hc
  have hlt : t.toNat < x.toNat := hc.2
  have ht' : t.toNat ≤ x.toNat := ht
  rcases hL.std.last w with ⟨h1, _⟩ | ⟨q, A, p, B, hq, h1, hF, rfl, hpw, hB⟩
  · have h1' : lastP P w j = -1 := h1
    omega
  have h1' : lastP P w j = (q : Int) := h1
  have hF' : P q = p := hF
  have hq' : q < j := hq
  rw [flI_go hfc] at hR
  simp only [h1', Int.toNat_natCast] at hR ⊢
  subst hF'
  obtain ⟨h3, h4, h5⟩ := hL.step hq hF (x - t)
  have hxt := sub_nat ht'
  have hmn := minU_nat (x - t) (P q).a
  obtain ⟨k1, k2, k3⟩ := hL.took (p := P q) (by simp) (x - t)
  have k1' : ffT N H (P q) (x - t) = minU (x - t) (P q).a := k1
  have htn : (t + minU (x - t) (P q).a).toNat = t.toNat + (minU (x - t) (P q).a).toNat := by
    rw [UInt64.toNat_add, Nat.mod_eq_of_lt]; have := x.toNat_lt; omega
  have hlt2 : ∀ a b : UInt64, (a < b) = (a.toNat < b.toNat) := fun _ _ => rfl
  constructor
  · intro h0
    have e : ffS N ⟨P, j, H, t⟩ q (x - t) = ⟨remF ltP (upd P q (ffP (P q) (ffT N H (P q) (x - t)))) (j - 1) q, j - 1, ffG N H (P q) (x - t), t + ffT N H (P q) (x - t)⟩ := by
      unfold ffS; simp only []; rw [if_pos h0]
    rw [e] at hR h3
    rcases h3 with ⟨_, _, r3, _⟩ | ⟨_, r2, _⟩
    · refine ⟨⟨⟨⟨_, r3⟩, ?_⟩, ?_⟩, ?_⟩
      · show (t + ffT N H (P q) (x - t)).toNat ≤ _; rw [k1', htn]; omega
      · rw [show j - 1 + 1 = j by omega]; exact hR
      · rw [if_pos hc.2]; split <;> omega
    · exact absurd h0 r2
  · intro h0
    have e : ffS N ⟨P, j, H, t⟩ q (x - t) = ⟨upd P q (ffP (P q) (ffT N H (P q) (x - t))), j, ffG N H (P q) (x - t), t + ffT N H (P q) (x - t)⟩ := by
      unfold ffS; simp only []; rw [if_neg h0]
    rw [e] at hR h3
    rcases h3 with ⟨_, r2, _⟩ | ⟨r1, _, r3, _⟩
    · exact absurd r2 h0
    · have ex : t + ffT N H (P q) (x - t) = x := by apply UInt64.toNat_inj.1; rw [k1', htn, hmn]; omega
      have hn : ¬ t + ffT N H (P q) (x - t) < x := by rw [ex]; exact fun h => Nat.lt_irrefl _ h
      have hnc : flC w x ⟨upd P q (ffP (P q) (ffT N H (P q) (x - t))), j, ffG N H (P q) (x - t), t + ffT N H (P q) (x - t)⟩ = false := by
        unfold flC; simp only; rw [decide_eq_false hn]; cases decide (lastP (upd P q (ffP (P q) (ffT N H (P q) (x - t)))) w j ≥ 0) <;> rfl
      refine ⟨⟨⟨⟨_, r3⟩, ?_⟩, ?_⟩, ?_⟩
      · show (t + ffT N H (P q) (x - t)).toNat ≤ _; rw [ex]; exact Nat.le_refl _
      · rw [flI_end hnc] at hR ⊢; exact hR
      · rw [if_pos hc.2, if_neg hn]; omega
theorem who_at {N k : Nat} {L : List PaR} (h : ∀ p ∈ L, p.w < N) (hk : k < L.length) : (L.getD k paZ).w < N := by
  rw [List.getD_eq_getElem?_getD, List.getElem?_eq_getElem hk]; exact h _ (List.getElem_mem hk)
structure LgR.ok (X : LgR) : Prop where
  z0 : X.z = true → X.n = 0 ∧ X.c = 0
  cap : X.n ≤ X.c
  le : X.n ≤ 20
  N1 : 1 ≤ X.N
  N8 : X.N ≤ 8
def bondE (X : LgR) (i : Int) (x : UInt64) : Int := if isI X.N i = true then (if X.G (0 * X.N + i.toNat) < x then 50 else 0) else 1
def bondX (X : LgR) (i : Int) (x : UInt64) : LgR := if isI X.N i = true then { X with G := moveF (3 * X.N + 2) X.G ((0 * X.N + i.toNat : Nat) : Int) ((1 * X.N + i.toNat : Nat) : Int) x } else X
def unbE (X : LgR) (i : Int) (x : UInt64) : Int := if isI X.N i = true then (if X.G (1 * X.N + i.toNat) < x then 50 else if x = 0 then 0 else if X.n = 20 then 52 else 0) else 1
def unbP (X : LgR) (i : Int) (x : UInt64) : PaR := ⟨i.toNat, x, X.e + X.d + 1, X.b⟩
def unbX (X : LgR) (i : Int) (x : UInt64) (nm r : Nat) : LgR :=
  if unbE X i x = 0 ∧ x ≠ 0 then { X with G := moveF (3 * X.N + 2) X.G ((1 * X.N + i.toNat : Nat) : Int) ((2 * X.N + i.toNat : Nat) : Int) x, z := false, m := nm, n := X.n + 1, c := X.n + 1 + r, F := upF ltP (if X.z = true then pshG (fun _ => paZ) 0 (unbP X i x) paZ 0 0 else pshG X.F X.n (unbP X i x) paZ X.m nm) X.n, b := X.b + 1, L := X.L ++ [unbP X i x] } else X
def fltS (X : LgR) (i : Nat) (x : UInt64) : FlS := ⟨X.F, X.n, moveF (3 * X.N + 2) X.G ((1 * X.N + i : Nat) : Int) ((3 * X.N : Nat) : Int) (takeN (3 * X.N + 2) X.G ((1 * X.N + i : Nat) : Int) x), takeV (3 * X.N + 2) X.G ((1 * X.N + i : Nat) : Int) ((3 * X.N : Nat) : Int) x⟩
def fltR (X : LgR) (i : Nat) (x : UInt64) : FlS := if X.n = 0 then fltS X i x else flI X.N i x (X.n + 1) (fltS X i x)
def fauE (X : LgR) (i : Int) : Int := if isI X.N i = true then 0 else 1
def fauV (X : LgR) (i : Int) (x : UInt64) : UInt64 := if isI X.N i = true then (fltR X i.toNat x).t else 0
def fauL (X : LgR) (L : List PaR) (i : Int) (x : UInt64) : List PaR := if isI X.N i = true then (fltL i.toNat L (x - minU x (X.G (1 * X.N + i.toNat)))).1 else L
def fauX (X : LgR) (i : Int) (x : UInt64) : LgR := if isI X.N i = true then { X with G := (fltR X i.toNat x).G, n := (fltR X i.toNat x).n, F := (fltR X i.toNat x).F, L := fauL X X.L i x } else X
def nxtX (X : LgR) : LgR := { X with G := spreadF (3 * X.N + 2) (frG X.N X.L X.G (dueP (X.e + 1) X.L)) ((3 * X.N : Nat) : Int) ((3 * X.N + 1 : Nat) : Int) (3 * X.N + 2) (wtF X.N (frG X.N X.L X.G (dueP (X.e + 1) X.L))), n := X.n - dueP (X.e + 1) X.L, F := popG ltP X.F X.n (dueP (X.e + 1) X.L), e := X.e + 1, L := X.L.drop (dueP (X.e + 1) X.L) }
def nxtA (X : LgR) (nm r : Nat) : Grw Int := gsOf (dueP (X.e + 1) X.L) (fun k => (((X.L.getD k paZ).w : Nat) : Int)) nm r
section
variable {F : Blk → Prop} {P : Program} {f : FuncId} {args : List Value} {b0 b1 b2 b3 : Option Blk} {k : Nat} {v : List Nat → Value} {x0 y z : List Nat → Option Blk} {o0 o2 o3 o4 : List Nat → Option Blk}
theorem fr_row (h : RunsO F P f args [roO b0, roO b1, b2] k v (fun ns => [x0 ns, y ns, o2 ns])) : RunsO F P f args [b0, b1, b2, b3] k v (fun ns => [b0, b1, o2 ns, b3]) :=
  RunsO.frame (bs := [b0, b1, b2, b3]) (ps := [(0, true), (1, true), (2, false)]) h rfl id fun ns hns => ⟨hns, rfl, Nat.le_refl _, fun p b hb => by
    rcases p with _ | _ | _ | _ | p
    · exact hb
    · exact hb
    · exact hb
    · exact hb
    · simp [listMem] at hb⟩
theorem fr_hr (h : RunsO F P f args [b0, roO b1, b2] k v (fun ns => [o0 ns, y ns, o2 ns])) : RunsO F P f args [b0, b1, b2, b3] k v (fun ns => [o0 ns, b1, o2 ns, b3]) :=
  RunsO.frame (bs := [b0, b1, b2, b3]) (ps := [(0, false), (1, true), (2, false)]) h rfl id fun ns hns => ⟨hns, rfl, Nat.le_refl _, fun p b hb => by
    rcases p with _ | _ | _ | _ | p
    · exact hb
    · exact hb
    · exact hb
    · exact hb
    · simp [listMem] at hb⟩
theorem fr_hr4 (h : RunsO F P f args [b0, roO b1, b2] k v (fun ns => [o0 ns, y ns, o2 ns, o4 ns])) : RunsO F P f args [b0, b1, b2, b3] k v (fun ns => [o0 ns, b1, o2 ns, b3, o4 ns]) :=
  RunsO.frame (bs := [b0, b1, b2, b3]) (ps := [(0, false), (1, true), (2, false)]) h rfl id fun ns hns => ⟨hns, rfl, by simp, fun p b hb => by
    rcases p with _ | _ | _ | _ | _ | p
    · exact hb
    · exact hb
    · exact hb
    · exact hb
    · exact hb
    · simp [listMem] at hb⟩
theorem fr_all (h : RunsO F P f args [b0, roO b1, b2, b3] k v (fun ns => [o0 ns, y ns, o2 ns, o3 ns])) : RunsO F P f args [b0, b1, b2, b3] k v (fun ns => [o0 ns, b1, o2 ns, o3 ns]) :=
  RunsO.frame (bs := [b0, b1, b2, b3]) (ps := [(0, false), (1, true), (2, false), (3, false)]) h rfl id fun ns hns => ⟨hns, rfl, Nat.le_refl _, fun p b hb => by
    rcases p with _ | _ | _ | _ | p
    · exact hb
    · exact hb
    · exact hb
    · exact hb
    · simp [listMem] at hb⟩
theorem fr_all5 (h : RunsO F P f args [b0, roO b1, b2, b3] k v (fun ns => [o0 ns, y ns, o2 ns, o3 ns, o4 ns])) : RunsO F P f args [b0, b1, b2, b3] k v (fun ns => [o0 ns, b1, o2 ns, o3 ns, o4 ns]) :=
  RunsO.frame (bs := [b0, b1, b2, b3]) (ps := [(0, false), (1, true), (2, false), (3, false)]) h rfl id fun ns hns => ⟨hns, rfl, by simp, fun p b hb => by
    rcases p with _ | _ | _ | _ | _ | p
    · exact hb
    · exact hb
    · exact hb
    · exact hb
    · exact hb
    · simp [listMem] at hb⟩
theorem fr_read {v0 : Value} {o : List Nat → List (Option Blk)} (h : RunsO F P f args [roO b0, roO b1, roO b2] 0 (fun _ => v0) o) : RunsO F P f args [b0, b1, b2, b3] k (fun _ => v0) (fun _ => [b0, b1, b2, b3]) :=
  RunsO.reads (bs := [b0, b1, b2, b3]) [(0, true), (1, true), (2, true)] h rfl rfl
end
end Go.Eng
end
section
namespace Go.Proofs.Ytchkbchbfilipaa
open Go Go.Eng
theorem agg3 : AggC Try.prog 3 [int 0] 1 8 := aggC_of (z := int 0) (by kernel_rfl) rfl rfl (by decide)
theorem plen_runs (b r n c : Nat) : Runs Try.prog 48 [(ptr b 0)] [⟨b, false, 0, (.lit [(Value.slice (some ⟨r, 0, none⟩) n c)])⟩] 0 (fun _ => nat n) (fun _ => [some ⟨b, false, 0, (.lit [(Value.slice (some ⟨r, 0, none⟩) n c)])⟩]) :=
  runs_of_ev mix Try.func48 rfl rfl 400 (.reg (rg [.g]) (.reg (rg [.g, .g, .g, (.ld 0 (.lit 0)), (.as (nat n)), .g]) .done)) [] [] rfl
    (Eq.mp (by kernel_rfl) (aI kV1 (aI (sK3 (aI (aT (ad b 0)) (aI (aT (@is_len Try.prog 22 23 (.tmp 6) (by kernel_rfl) (some ⟨r, 0, none⟩) n c)) kV1))) (aT (eX (fun (ns : List Nat) => ns.length = 0 ∧ ((nat n) : Value) = (fun _ => nat n) ns ∧ ([some ⟨b, false, 0, (.lit [(Value.slice (some ⟨r, 0, none⟩) n c)])⟩] : List (Option Blk)) = (fun _ => [some ⟨b, false, 0, (.lit [(Value.slice (some ⟨r, 0, none⟩) n c)])⟩]) ns) [] (aI (@rfl Nat 0) (aI (@rfl Value (nat n)) (@rfl (List (Option Blk)) [some ⟨b, false, 0, (.lit [(Value.slice (some ⟨r, 0, none⟩) n c)])⟩]))))))))
theorem fault_out (w N pu pr pc : Nat) (wa : Option Addr) (wn wc : Nat) (b e d : UInt64) (G : Nat → UInt64) (i : Int) (x : UInt64) (hi : isI N i = false) (hN : N ≤ 8) : Runs Try.prog 27 [(ptr w 0), (int i), (u64 x)] [⟨w, false, 0, (.lit [(nat N), (ptr pu 0), (Value.slice wa wn wc), (u64 b), (u64 e), (u64 d)])⟩, ⟨pu, false, 0, (.lit [(Value.slice (some ⟨pr, 0, none⟩) (3 * N + 2) pc)])⟩, ⟨pr, true, 0, (tabF (3 * N + 2) (fun k => u64 (G k)))⟩] 0 (fun _ => Value.tuple #[u64 0, int 1]) (fun _ => [some ⟨w, false, 0, (.lit [(nat N), (ptr pu 0), (Value.slice wa wn wc), (u64 b), (u64 e), (u64 d)])⟩, some ⟨pu, false, 0, (.lit [(Value.slice (some ⟨pr, 0, none⟩) (3 * N + 2) pc)])⟩, some ⟨pr, true, 0, (tabF (3 * N + 2) (fun k => u64 (G k)))⟩]) :=
  runs_of_ev mix Try.func27 rfl rfl 400 (.reg (rg [.g, .g]) (.reg (rg [.g, .g, (.call [(0, true)] 0 0 (fun _ => (Value.bool (isI N i))) (fun _ => [none])), .g]) (.yes (.reg (rg [.g, .g]) .done)))) [] [] rfl
    (Eq.mp (by kernel_rfl) (aI kV2 (aI (sK2 (aI (aT (Runs.dark [true] (lthere_runs w N (ptr pu 0) (Value.slice wa wn wc) (u64 b) (u64 e) (u64 d) i (show N ≤ 8 from by omega)))) kV1)) ((fun (hp1 : (!(isI N i)) = true) => have f1 : (isI N i) = false := (bnot_t hp1); aT (aI hp1 (aI kV2 (aT (eX (fun (ns : List Nat) => ns.length = 0 ∧ ((Value.tuple #[(u64 0), (int 1)]) : Value) = (fun _ => Value.tuple #[u64 0, int 1]) ns ∧ ([some ⟨w, false, 0, (.lit [(nat N), (ptr pu 0), (Value.slice wa wn wc), (u64 b), (u64 e), (u64 d)])⟩, some ⟨pu, false, 0, (.lit [(Value.slice (some ⟨pr, 0, none⟩) (3 * N + 2) pc)])⟩, some ⟨pr, true, 0, (tabF (3 * N + 2) (fun k => u64 (G k)))⟩] : List (Option Blk)) = (fun _ => [some ⟨w, false, 0, (.lit [(nat N), (ptr pu 0), (Value.slice wa wn wc), (u64 b), (u64 e), (u64 d)])⟩, some ⟨pu, false, 0, (.lit [(Value.slice (some ⟨pr, 0, none⟩) (3 * N + 2) pc)])⟩, some ⟨pr, true, 0, (tabF (3 * N + 2) (fun k => u64 (G k)))⟩]) ns) [] (aI (@rfl Nat 0) (aI (@rfl Value (Value.tuple #[u64 0, int 1])) (@rfl (List (Option Blk)) [some ⟨w, false, 0, (.lit [(nat N), (ptr pu 0), (Value.slice wa wn wc), (u64 b), (u64 e), (u64 d)])⟩, some ⟨pu, false, 0, (.lit [(Value.slice (some ⟨pr, 0, none⟩) (3 * N + 2) pc)])⟩, some ⟨pr, true, 0, (tabF (3 * N + 2) (fun k => u64 (G k)))⟩])))))))) (show (!(isI N i)) = true from by rw [hi] <;> rfl)))))
theorem fault_none (w N pu pr pc : Nat) (wa : Option Addr) (wn wc : Nat) (b e d : UInt64) (G : Nat → UInt64) (i : Nat) (x : UInt64) (hi : i < N) (hN : N ≤ 8) (h0 : wn = 0) : Runs Try.prog 27 [(ptr w 0), (nat i), (u64 x)] [⟨w, false, 0, (.lit [(nat N), (ptr pu 0), (Value.slice wa wn wc), (u64 b), (u64 e), (u64 d)])⟩, ⟨pu, false, 0, (.lit [(Value.slice (some ⟨pr, 0, none⟩) (3 * N + 2) pc)])⟩, ⟨pr, true, 0, (tabF (3 * N + 2) (fun k => u64 (G k)))⟩] 0 (fun _ => Value.tuple #[u64 (takeV (3 * N + 2) G ((1 * N + i : Nat) : Int) ((3 * N : Nat) : Int) x), int 0]) (fun _ => [some ⟨w, false, 0, (.lit [(nat N), (ptr pu 0), (Value.slice wa wn wc), (u64 b), (u64 e), (u64 d)])⟩, some ⟨pu, false, 0, (.lit [(Value.slice (some ⟨pr, 0, none⟩) (3 * N + 2) pc)])⟩, some ⟨pr, true, 0, (tabF (3 * N + 2) (fun k => u64 (moveF (3 * N + 2) G ((1 * N + i : Nat) : Int) ((3 * N : Nat) : Int) (takeN (3 * N + 2) G ((1 * N + i : Nat) : Int) x) k)))⟩]) :=
  runs_of_ev mix Try.func27 rfl rfl 400 (.reg (rg [.g, .g]) (.reg (rg [.g, .g, (.call [(0, true)] 0 0 (fun _ => (Value.bool (isI N ((i : Nat) : Int)))) (fun _ => [none])), .g]) (.no (.reg (rg [.g, .g, .g, (.ld 0 (.lit 1)), .g, .g, (.call [(0, true)] 0 0 (fun _ => (nat (1 * N + i))) (fun _ => [none])), .g, (.call [(0, true)] 0 0 (fun _ => (nat (3 * N))) (fun _ => [none])), .g, (.call [(1, true), (2, false)] 0 0 (fun _ => (u64 (takeV (3 * N + 2) G ((1 * N + i : Nat) : Int) ((3 * N : Nat) : Int) x))) (fun _ => [none, some ⟨pr, true, 0, (tabF (3 * N + 2) (fun k => u64 (moveF (3 * N + 2) G ((1 * N + i : Nat) : Int) ((3 * N : Nat) : Int) (takeN (3 * N + 2) G ((1 * N + i : Nat) : Int) x) k)))⟩])), .g]) (.reg (rg [.g, .g, (.call [(0, true)] 0 0 (fun _ => (int (-1))) (fun _ => [none])), .g]) (.unroll (.reg (rg [.g, .g, .g, .skip, .skip, .skip, .pk]) (.no (.reg (rg [.g, .g, .g]) .done))))))))) [] [] rfl
    (Eq.mp (by kernel_rfl) (aI kV2 (aI (sK2 (aI (aT (Runs.dark [true] (lthere_runs w N (ptr pu 0) (Value.slice wa wn wc) (u64 b) (u64 e) (u64 d) ((i : Nat) : Int) (show N ≤ 8 from by omega)))) kV1)) ((fun (hp1 : (!(isI N ((i : Nat) : Int))) = false) => have f3 : (isI N ((i : Nat) : Int)) = true := (bnot_f hp1); aT (aI hp1 (aI (sK3 (aI (aT (ad w 1)) (sK2 (aI (aT (Runs.dark [true] (acct_runs w N (ptr pu 0) (Value.slice wa wn wc) (u64 b) (u64 e) (u64 d) 1 i (show 1 ≤ 2 from by omega) (show i < N from by omega) (show N ≤ 8 from by omega)))) (sk (aI (aT (Runs.dark [true] (lpot_runs w N (ptr pu 0) (Value.slice wa wn wc) (u64 b) (u64 e) (u64 d) (show N ≤ 8 from by omega)))) (sk (aI (aT (Runs.dark [true, false] (take_runs pu pr (3 * N + 2) pc G ((1 * N + i : Nat) : Int) ((3 * N : Nat) : Int) x (show (3 * N + 2) ≤ 40 from by omega)))) kV1)))))))) (aI (sK2 (aI (aT (Runs.dark [true] (last_none w N pu pr pc wa wn wc b e d i (show wn = 0 from by omega)))) kV1)) (aI (sK3 (aI (@rfl Bool false) (aI (@rfl Bool false) (aI (@rfl Bool false) (aI (aT (aI (fun (_ : false = true) => tV) (fun (_ : false = false) => tV))) tV))))) (aT (aI (@rfl Bool false) (aI kV3 (aT (eX (fun (ns : List Nat) => ns.length = 0 ∧ ((Value.tuple #[(u64 (takeV (3 * N + 2) G ((1 * N + i : Nat) : Int) ((3 * N : Nat) : Int) x)), (int 0)]) : Value) = (fun _ => Value.tuple #[u64 (takeV (3 * N + 2) G ((1 * N + i : Nat) : Int) ((3 * N : Nat) : Int) x), int 0]) ns ∧ ([some ⟨w, false, 0, (.lit [(nat N), (ptr pu 0), (Value.slice wa wn wc), (u64 b), (u64 e), (u64 d)])⟩, some ⟨pu, false, 0, (.lit [(Value.slice (some ⟨pr, 0, none⟩) (3 * N + 2) pc)])⟩, some ⟨pr, true, 0, (tabF (3 * N + 2) (fun k => u64 (moveF (3 * N + 2) G ((1 * N + i : Nat) : Int) ((3 * N : Nat) : Int) (takeN (3 * N + 2) G ((1 * N + i : Nat) : Int) x) k)))⟩] : List (Option Blk)) = (fun _ => [some ⟨w, false, 0, (.lit [(nat N), (ptr pu 0), (Value.slice wa wn wc), (u64 b), (u64 e), (u64 d)])⟩, some ⟨pu, false, 0, (.lit [(Value.slice (some ⟨pr, 0, none⟩) (3 * N + 2) pc)])⟩, some ⟨pr, true, 0, (tabF (3 * N + 2) (fun k => u64 (moveF (3 * N + 2) G ((1 * N + i : Nat) : Int) ((3 * N : Nat) : Int) (takeN (3 * N + 2) G ((1 * N + i : Nat) : Int) x) k)))⟩]) ns) [] (aI (@rfl Nat 0) (aI (@rfl Value (Value.tuple #[u64 (takeV (3 * N + 2) G ((1 * N + i : Nat) : Int) ((3 * N : Nat) : Int) x), int 0])) (@rfl (List (Option Blk)) [some ⟨w, false, 0, (.lit [(nat N), (ptr pu 0), (Value.slice wa wn wc), (u64 b), (u64 e), (u64 d)])⟩, some ⟨pu, false, 0, (.lit [(Value.slice (some ⟨pr, 0, none⟩) (3 * N + 2) pc)])⟩, some ⟨pr, true, 0, (tabF (3 * N + 2) (fun k => u64 (moveF (3 * N + 2) G ((1 * N + i : Nat) : Int) ((3 * N : Nat) : Int) (takeN (3 * N + 2) G ((1 * N + i : Nat) : Int) x) k)))⟩]))))))))))))) (show (!(isI N ((i : Nat) : Int))) = false from by rw [isI_nat hi] <;> rfl)))))
def fault_own_S1 (w : Nat) (N : Nat) (pu : Nat) (pr : Nat) (pc : Nat) (b : UInt64) (e : UInt64) (d : UInt64) (G : Nat → UInt64) (m : Nat) (n : Nat) (c : Nat) (F : Nat → PaR) (i : Nat) (x : UInt64) (L : List PaR) (x1 : Nat × (Nat → PaR) × (Nat → UInt64) × UInt64 × Int) : St := ⟨[(0, .v (ptr w 0)), (1, .v (nat i)), (2, .v (u64 x)), (8, .v (u64 x1.2.2.2.1)), (9, .v (int x1.2.2.2.2))], [(0, some ⟨w, true, 0, (.lit [(nat N), (ptr pu 0), (Value.slice (some ⟨m, 0, none⟩) x1.1 c), (u64 b), (u64 e), (u64 d)])⟩), (1, some ⟨pu, false, 0, (.lit [(Value.slice (some ⟨pr, 0, none⟩) (3 * N + 2) pc)])⟩), (2, some ⟨pr, true, 0, (tabF (3 * N + 2) (fun k => u64 (x1.2.2.1 k)))⟩), (3, some ⟨m, true, 0, (tabS c x1.2.1)⟩)], 4⟩
def fault_own_R1 (w : Nat) (N : Nat) (pu : Nat) (pr : Nat) (pc : Nat) (b : UInt64) (e : UInt64) (d : UInt64) (G : Nat → UInt64) (m : Nat) (n : Nat) (c : Nat) (F : Nat → PaR) (i : Nat) (x : UInt64) (L : List PaR) (x1 : Nat × (Nat → PaR) × (Nat → UInt64) × UInt64 × Int) : Prop := (FlAt N i x (FlS.mk x1.2.1 x1.1 x1.2.2.1 x1.2.2.2.1)) ∧ (flI N i x (x1.1 + 1) (FlS.mk x1.2.1 x1.1 x1.2.2.1 x1.2.2.2.1) = flI N i x (n + 1) (FlS.mk F n (moveF (3 * N + 2) G ((1 * N + i : Nat) : Int) ((3 * N : Nat) : Int) (takeN (3 * N + 2) G ((1 * N + i : Nat) : Int) x)) (takeV (3 * N + 2) G ((1 * N + i : Nat) : Int) ((3 * N : Nat) : Int) x))) ∧ (x1.1 ≤ n) ∧ (x1.2.2.2.2 = lastP x1.2.1 i x1.1)
def fault_own_mu1 (w : Nat) (N : Nat) (pu : Nat) (pr : Nat) (pc : Nat) (b : UInt64) (e : UInt64) (d : UInt64) (G : Nat → UInt64) (m : Nat) (n : Nat) (c : Nat) (F : Nat → PaR) (i : Nat) (x : UInt64) (L : List PaR) (x1 : Nat × (Nat → PaR) × (Nat → UInt64) × UInt64 × Int) : Nat := x1.1 + (if x1.2.2.2.1 < x then 1 else 0)
theorem fault_own (w N pu pr pc : Nat) (b e d : UInt64) (G : Nat → UInt64) (m n c : Nat) (F : Nat → PaR) (i : Nat) (x : UInt64) (L : List PaR) (hi : i < N) (hN : N ≤ 8) (hn : n ≤ c ∧ n ≤ 20) (hL : FlRel N (FlS.mk F n (moveF (3 * N + 2) G ((1 * N + i : Nat) : Int) ((3 * N : Nat) : Int) (takeN (3 * N + 2) G ((1 * N + i : Nat) : Int) x)) (takeV (3 * N + 2) G ((1 * N + i : Nat) : Int) ((3 * N : Nat) : Int) x)) L) (ht : (FlS.mk F n (moveF (3 * N + 2) G ((1 * N + i : Nat) : Int) ((3 * N : Nat) : Int) (takeN (3 * N + 2) G ((1 * N + i : Nat) : Int) x)) (takeV (3 * N + 2) G ((1 * N + i : Nat) : Int) ((3 * N : Nat) : Int) x)).t.toNat ≤ x.toNat) : Runs Try.prog 27 [(ptr w 0), (nat i), (u64 x)] [⟨w, true, 0, (.lit [(nat N), (ptr pu 0), (Value.slice (some ⟨m, 0, none⟩) n c), (u64 b), (u64 e), (u64 d)])⟩, ⟨pu, false, 0, (.lit [(Value.slice (some ⟨pr, 0, none⟩) (3 * N + 2) pc)])⟩, ⟨pr, true, 0, (tabF (3 * N + 2) (fun k => u64 (G k)))⟩, ⟨m, true, 0, (tabS c F)⟩] 0 (fun _ => Value.tuple #[u64 (flI N i x (n + 1) (FlS.mk F n (moveF (3 * N + 2) G ((1 * N + i : Nat) : Int) ((3 * N : Nat) : Int) (takeN (3 * N + 2) G ((1 * N + i : Nat) : Int) x)) (takeV (3 * N + 2) G ((1 * N + i : Nat) : Int) ((3 * N : Nat) : Int) x))).t, int 0]) (fun _ => [some ⟨w, true, 0, (.lit [(nat N), (ptr pu 0), (Value.slice (some ⟨m, 0, none⟩) ((flI N i x (n + 1) (FlS.mk F n (moveF (3 * N + 2) G ((1 * N + i : Nat) : Int) ((3 * N : Nat) : Int) (takeN (3 * N + 2) G ((1 * N + i : Nat) : Int) x)) (takeV (3 * N + 2) G ((1 * N + i : Nat) : Int) ((3 * N : Nat) : Int) x))).n) c), (u64 b), (u64 e), (u64 d)])⟩, some ⟨pu, false, 0, (.lit [(Value.slice (some ⟨pr, 0, none⟩) (3 * N + 2) pc)])⟩, some ⟨pr, true, 0, (tabF (3 * N + 2) (fun k => u64 ((flI N i x (n + 1) (FlS.mk F n (moveF (3 * N + 2) G ((1 * N + i : Nat) : Int) ((3 * N : Nat) : Int) (takeN (3 * N + 2) G ((1 * N + i : Nat) : Int) x)) (takeV (3 * N + 2) G ((1 * N + i : Nat) : Int) ((3 * N : Nat) : Int) x))).G k)))⟩, some ⟨m, true, 0, (tabS c ((flI N i x (n + 1) (FlS.mk F n (moveF (3 * N + 2) G ((1 * N + i : Nat) : Int) ((3 * N : Nat) : Int) (takeN (3 * N + 2) G ((1 * N + i : Nat) : Int) x)) (takeV (3 * N + 2) G ((1 * N + i : Nat) : Int) ((3 * N : Nat) : Int) x))).F))⟩]) :=
  runs_of_ev mix Try.func27 rfl rfl 400 (.reg (rg [.g, .g]) (.reg (rg [.g, .g, (.call [(0, true)] 0 0 (fun _ => (Value.bool (isI N ((i : Nat) : Int)))) (fun _ => [none])), .g]) (.no (.reg (rg [.g, .g, .g, (.ld 0 (.lit 1)), .g, .g, (.call [(0, true)] 0 0 (fun _ => (nat (1 * N + i))) (fun _ => [none])), .g, (.call [(0, true)] 0 0 (fun _ => (nat (3 * N))) (fun _ => [none])), .g, (.call [(1, true), (2, false)] 0 0 (fun _ => (u64 (takeV (3 * N + 2) G ((1 * N + i : Nat) : Int) ((3 * N : Nat) : Int) x))) (fun _ => [none, some ⟨pr, true, 0, (tabF (3 * N + 2) (fun k => u64 (moveF (3 * N + 2) G ((1 * N + i : Nat) : Int) ((3 * N : Nat) : Int) (takeN (3 * N + 2) G ((1 * N + i : Nat) : Int) x) k)))⟩])), .g]) (.reg (rg [.g, .g, (.call [(0, true), (3, true)] 0 0 (fun _ => (int (lastP F i n))) (fun _ => [none, none])), .g]) (.inv [0, 1, 2, 8, 9] [0, 1, 2, 3] 4 (fault_own_R1 w N pu pr pc b e d G m n c F i x L) (fault_own_S1 w N pu pr pc b e d G m n c F i x L) (fault_own_mu1 w N pu pr pc b e d G m n c F i x L) ((n, F, (moveF (3 * N + 2) G ((1 * N + i : Nat) : Int) ((3 * N : Nat) : Int) (takeN (3 * N + 2) G ((1 * N + i : Nat) : Int) x)), (takeV (3 * N + 2) G ((1 * N + i : Nat) : Int) ((3 * N : Nat) : Int) x), (lastP F i n)) : Nat × (Nat → PaR) × (Nat → UInt64) × UInt64 × Int) (fun (x1 : Nat × (Nat → PaR) × (Nat → UInt64) × UInt64 × Int) => (.reg (rg [.g, .g, .g, (.opt .g), (.opt .g), (.opt (.as (Value.bool (decide (x1.2.2.2.1 < x))))), .pk]) (.br (.both (decide ((x1.2.1 ((x1.2.2.2.2).toNat)).a - ffT N x1.2.2.1 (x1.2.1 ((x1.2.2.2.2).toNat)) (x - x1.2.2.2.1) = 0)) (.reg (rg [.g, .g, (.as (nat ((x1.2.2.2.2).toNat))), .g, .g, (.as (u64 (x - x1.2.2.2.1))), (.call [(0, false), (1, true), (2, false), (3, false)] 0 0 (fun _ => u64 (ffT N x1.2.2.1 (x1.2.1 ((x1.2.2.2.2).toNat)) (x - x1.2.2.2.1))) (fun _ => [some ⟨w, true, 0, (.lit [(nat N), (ptr pu 0), (Value.slice (some ⟨m, 0, none⟩) (x1.1 - 1) c), (u64 b), (u64 e), (u64 d)])⟩, none, some ⟨pr, true, 0, (tabF (3 * N + 2) (fun k => u64 (ffG N x1.2.2.1 (x1.2.1 ((x1.2.2.2.2).toNat)) (x - x1.2.2.2.1) k)))⟩, some ⟨m, true, 0, (tabS c (remF ltP (upd x1.2.1 ((x1.2.2.2.2).toNat) (ffP (x1.2.1 ((x1.2.2.2.2).toNat)) (ffT N x1.2.2.1 (x1.2.1 ((x1.2.2.2.2).toNat)) (x - x1.2.2.2.1)))) (x1.1 - 1) ((x1.2.2.2.2).toNat)))⟩])), (.as (u64 (x1.2.2.2.1 + (ffT N x1.2.2.1 (x1.2.1 ((x1.2.2.2.2).toNat)) (x - x1.2.2.2.1))))), .g]) (.reg (rg [.g, .g, (.call [(0, true), (3, true)] 0 0 (fun _ => (int (lastP (remF ltP (upd x1.2.1 ((x1.2.2.2.2).toNat) (ffP (x1.2.1 ((x1.2.2.2.2).toNat)) (ffT N x1.2.2.1 (x1.2.1 ((x1.2.2.2.2).toNat)) (x - x1.2.2.2.1)))) (x1.1 - 1) ((x1.2.2.2.2).toNat)) i (x1.1 - 1)))) (fun _ => [none, none])), .g]) .done)) (.reg (rg [.g, .g, (.as (nat ((x1.2.2.2.2).toNat))), .g, .g, (.as (u64 (x - x1.2.2.2.1))), (.call [(0, false), (1, true), (2, false), (3, false)] 0 0 (fun _ => u64 (ffT N x1.2.2.1 (x1.2.1 ((x1.2.2.2.2).toNat)) (x - x1.2.2.2.1))) (fun _ => [some ⟨w, true, 0, (.lit [(nat N), (ptr pu 0), (Value.slice (some ⟨m, 0, none⟩) x1.1 c), (u64 b), (u64 e), (u64 d)])⟩, none, some ⟨pr, true, 0, (tabF (3 * N + 2) (fun k => u64 (ffG N x1.2.2.1 (x1.2.1 ((x1.2.2.2.2).toNat)) (x - x1.2.2.2.1) k)))⟩, some ⟨m, true, 0, (tabS c (upd x1.2.1 ((x1.2.2.2.2).toNat) (ffP (x1.2.1 ((x1.2.2.2.2).toNat)) (ffT N x1.2.2.1 (x1.2.1 ((x1.2.2.2.2).toNat)) (x - x1.2.2.2.1)))))⟩])), (.as (u64 (x1.2.2.2.1 + (ffT N x1.2.2.1 (x1.2.1 ((x1.2.2.2.2).toNat)) (x - x1.2.2.2.1))))), .g]) (.reg (rg [.g, .g, (.call [(0, true), (3, true)] 0 0 (fun _ => (int (lastP (upd x1.2.1 ((x1.2.2.2.2).toNat) (ffP (x1.2.1 ((x1.2.2.2.2).toNat)) (ffT N x1.2.2.1 (x1.2.1 ((x1.2.2.2.2).toNat)) (x - x1.2.2.2.1)))) i x1.1))) (fun _ => [none, none])), .g]) .done))) (.reg (rg [.g, .g, .g]) .done)))))))))) [] [] rfl
    (Eq.mp (by kernel_rfl) (aI kV2 (aI (sK2 (aI (aT (Runs.dark [true] (lthere_runs w N (ptr pu 0) (Value.slice (some ⟨m, 0, none⟩) n c) (u64 b) (u64 e) (u64 d) ((i : Nat) : Int) (show N ≤ 8 from by omega)))) kV1)) ((fun (hp1 : (!(isI N ((i : Nat) : Int))) = false) => have f3 : (isI N ((i : Nat) : Int)) = true := (bnot_f hp1); aT (aI hp1 (aI (sK3 (aI (aT (ad w 1)) (sK2 (aI (aT (Runs.dark [true] (acct_runs w N (ptr pu 0) (Value.slice (some ⟨m, 0, none⟩) n c) (u64 b) (u64 e) (u64 d) 1 i (show 1 ≤ 2 from by omega) (show i < N from by omega) (show N ≤ 8 from by omega)))) (sk (aI (aT (Runs.dark [true] (lpot_runs w N (ptr pu 0) (Value.slice (some ⟨m, 0, none⟩) n c) (u64 b) (u64 e) (u64 d) (show N ≤ 8 from by omega)))) (sk (aI (aT (Runs.dark [true, false] (take_runs pu pr (3 * N + 2) pc G ((1 * N + i : Nat) : Int) ((3 * N : Nat) : Int) x (show (3 * N + 2) ≤ 40 from by omega)))) kV1)))))))) (aI (sK2 (aI (aT (Runs.dark [true, true] (last_own w (nat N) (ptr pu 0) (u64 b) (u64 e) (u64 d) m n c F i (show n ≤ c ∧ n ≤ 20 from by omega)))) kV1)) (aI (show (fault_own_R1 w N pu pr pc b e d G m n c F i x L) ((n, F, (moveF (3 * N + 2) G ((1 * N + i : Nat) : Int) ((3 * N : Nat) : Int) (takeN (3 * N + 2) G ((1 * N + i : Nat) : Int) x)), (takeV (3 * N + 2) G ((1 * N + i : Nat) : Int) ((3 * N : Nat) : Int) x), (lastP F i n)) : Nat × (Nat → PaR) × (Nat → UInt64) × UInt64 × Int) from (show (FlAt N i x (FlS.mk F n (moveF (3 * N + 2) G ((1 * N + i : Nat) : Int) ((3 * N : Nat) : Int) (takeN (3 * N + 2) G ((1 * N + i : Nat) : Int) x)) (takeV (3 * N + 2) G ((1 * N + i : Nat) : Int) ((3 * N : Nat) : Int) x))) ∧ (flI N i x (n + 1) (FlS.mk F n (moveF (3 * N + 2) G ((1 * N + i : Nat) : Int) ((3 * N : Nat) : Int) (takeN (3 * N + 2) G ((1 * N + i : Nat) : Int) x)) (takeV (3 * N + 2) G ((1 * N + i : Nat) : Int) ((3 * N : Nat) : Int) x)) = flI N i x (n + 1) (FlS.mk F n (moveF (3 * N + 2) G ((1 * N + i : Nat) : Int) ((3 * N : Nat) : Int) (takeN (3 * N + 2) G ((1 * N + i : Nat) : Int) x)) (takeV (3 * N + 2) G ((1 * N + i : Nat) : Int) ((3 * N : Nat) : Int) x))) ∧ (n ≤ n) ∧ ((lastP F i n) = lastP F i n) from by exact ⟨⟨⟨L, hL⟩, ht⟩, rfl, by omega, rfl⟩)) (aI (@rfl St ((fault_own_S1 w N pu pr pc b e d G m n c F i x L) ((n, F, (moveF (3 * N + 2) G ((1 * N + i : Nat) : Int) ((3 * N : Nat) : Int) (takeN (3 * N + 2) G ((1 * N + i : Nat) : Int) x)), (takeV (3 * N + 2) G ((1 * N + i : Nat) : Int) ((3 * N : Nat) : Int) x), (lastP F i n)) : Nat × (Nat → PaR) × (Nat → UInt64) × UInt64 × Int))) (fun (x1 : Nat × (Nat → PaR) × (Nat → UInt64) × UInt64 × Int) (hx1 : (fault_own_R1 w N pu pr pc b e d G m n c F i x L) x1) => have B0 : FlAt N i x (FlS.mk x1.2.1 x1.1 x1.2.2.1 x1.2.2.2.1) := hx1.1; have B1 : flI N i x (x1.1 + 1) (FlS.mk x1.2.1 x1.1 x1.2.2.1 x1.2.2.2.1) = flI N i x (n + 1) (FlS.mk F n (moveF (3 * N + 2) G ((1 * N + i : Nat) : Int) ((3 * N : Nat) : Int) (takeN (3 * N + 2) G ((1 * N + i : Nat) : Int) x)) (takeV (3 * N + 2) G ((1 * N + i : Nat) : Int) ((3 * N : Nat) : Int) x)) := hx1.2.1; have B2 : x1.1 ≤ n := hx1.2.2.1; have B3 : x1.2.2.2.2 = lastP x1.2.1 i x1.1 := hx1.2.2.2; have BL := (lastP_lt x1.2.1 i x1.1); have BW := (fl_who B0 (x1.2.2.2.2).toNat); aI (sK3 (aI (fun (hg : (sameB (decide ((x1.2.2.2.2 : Int) ≥ 0)) true) = true) => t2) (aI (fun (hg : (sameB (decide ((x1.2.2.2.2 : Int) ≥ 0)) true) = true) => t2) (aI (fun (hg : (sameB (decide ((x1.2.2.2.2 : Int) ≥ 0)) true) = true) => (aI (aI hg (aI hg tV)) (@is_lss64 Try.prog 23 23 (.tmp 31) (.tmp 32) x1.2.2.2.1 x))) (aI (aT (aI (fun (hp : (decide ((x1.2.2.2.2 : Int) ≥ 0)) = true) => (sameB_mk hp)) (fun (_ : (decide ((x1.2.2.2.2 : Int) ≥ 0)) = false) => tV))) tV))))) (aT (aI (fun (h2 : (selB (decide ((x1.2.2.2.2 : Int) ≥ 0)) (decide (x1.2.2.2.1 < x)) false) = true) => have f10 : ((x1.2.2.2.2 : Int) ≥ 0) := (oT (sband_l h2)); have f11 : (x1.2.2.2.1 < x) := (oT (sband_r h2)); aI (fun (h3 : (decide ((x1.2.1 ((x1.2.2.2.2).toNat)).a - ffT N x1.2.2.1 (x1.2.1 ((x1.2.2.2.2).toNat)) (x - x1.2.2.2.1) = 0)) = true) => have f12 := (oT h3); aI (sK2 (aI (aT (@is_move_nat Try.prog (.tmp 9) x1.2.2.2.2 ((x1.2.2.2.2).toNat) (show (x1.2.2.2.2 : Int) = (((x1.2.2.2.2).toNat : Nat) : Int) from by omega))) (sK2 (aI (aT (@is_sub64 Try.prog 23 23 (.tmp 41) (.tmp 42) x x1.2.2.2.1)) (aI (aT (Runs.dark [false, true, false, false] (forfeit_all w N pu pr pc b e d x1.2.2.1 m x1.1 c x1.2.1 ((x1.2.2.2.2).toNat) (x - x1.2.2.2.1) (show ((x1.2.2.2.2).toNat) < x1.1 from by omega) (show x1.1 ≤ c ∧ x1.1 ≤ 20 from by omega) (show (x1.2.1 ((x1.2.2.2.2).toNat)).w < N from by omega) (show N ≤ 8 from by omega) (oT h3)))) (aI (aT (@is_add64 Try.prog 23 23 (.tmp 38) (.tmp 44) x1.2.2.2.1 (ffT N x1.2.2.1 (x1.2.1 ((x1.2.2.2.2).toNat)) (x - x1.2.2.2.1)))) kV1)))))) (aI (sK2 (aI (aT (Runs.dark [true, true] (last_own w (nat N) (ptr pu 0) (u64 b) (u64 e) (u64 d) m (x1.1 - 1) c (remF ltP (upd x1.2.1 ((x1.2.2.2.2).toNat) (ffP (x1.2.1 ((x1.2.2.2.2).toNat)) (ffT N x1.2.2.1 (x1.2.1 ((x1.2.2.2.2).toNat)) (x - x1.2.2.2.1)))) (x1.1 - 1) ((x1.2.2.2.2).toNat)) i (show x1.1 - 1 ≤ c ∧ x1.1 - 1 ≤ 20 from by omega)))) kV1)) ((rnd (fault_own_R1 w N pu pr pc b e d G m n c F i x L) (fault_own_S1 w N pu pr pc b e d G m n c F i x L) (fault_own_mu1 w N pu pr pc b e d G m n c F i x L) x1 ((x1.1 - 1, remF ltP (upd x1.2.1 ((x1.2.2.2.2).toNat) (ffP (x1.2.1 ((x1.2.2.2.2).toNat)) (ffT N x1.2.2.1 (x1.2.1 ((x1.2.2.2.2).toNat)) (x - x1.2.2.2.1)))) (x1.1 - 1) ((x1.2.2.2.2).toNat), (ffG N x1.2.2.1 (x1.2.1 ((x1.2.2.2.2).toNat)) (x - x1.2.2.2.1)), (x1.2.2.2.1 + (ffT N x1.2.2.1 (x1.2.1 ((x1.2.2.2.2).toNat)) (x - x1.2.2.2.1))), (lastP (remF ltP (upd x1.2.1 ((x1.2.2.2.2).toNat) (ffP (x1.2.1 ((x1.2.2.2.2).toNat)) (ffT N x1.2.2.1 (x1.2.1 ((x1.2.2.2.2).toNat)) (x - x1.2.2.2.1)))) (x1.1 - 1) ((x1.2.2.2.2).toNat)) i (x1.1 - 1))) : Nat × (Nat → PaR) × (Nat → UInt64) × UInt64 × Int) (show (fault_own_R1 w N pu pr pc b e d G m n c F i x L) ((x1.1 - 1, remF ltP (upd x1.2.1 ((x1.2.2.2.2).toNat) (ffP (x1.2.1 ((x1.2.2.2.2).toNat)) (ffT N x1.2.2.1 (x1.2.1 ((x1.2.2.2.2).toNat)) (x - x1.2.2.2.1)))) (x1.1 - 1) ((x1.2.2.2.2).toNat), (ffG N x1.2.2.1 (x1.2.1 ((x1.2.2.2.2).toNat)) (x - x1.2.2.2.1)), (x1.2.2.2.1 + (ffT N x1.2.2.1 (x1.2.1 ((x1.2.2.2.2).toNat)) (x - x1.2.2.2.1))), (lastP (remF ltP (upd x1.2.1 ((x1.2.2.2.2).toNat) (ffP (x1.2.1 ((x1.2.2.2.2).toNat)) (ffT N x1.2.2.1 (x1.2.1 ((x1.2.2.2.2).toNat)) (x - x1.2.2.2.1)))) (x1.1 - 1) ((x1.2.2.2.2).toNat)) i (x1.1 - 1))) : Nat × (Nat → PaR) × (Nat → UInt64) × UInt64 × Int) ∧ (fault_own_mu1 w N pu pr pc b e d G m n c F i x L) ((x1.1 - 1, remF ltP (upd x1.2.1 ((x1.2.2.2.2).toNat) (ffP (x1.2.1 ((x1.2.2.2.2).toNat)) (ffT N x1.2.2.1 (x1.2.1 ((x1.2.2.2.2).toNat)) (x - x1.2.2.2.1)))) (x1.1 - 1) ((x1.2.2.2.2).toNat), (ffG N x1.2.2.1 (x1.2.1 ((x1.2.2.2.2).toNat)) (x - x1.2.2.2.1)), (x1.2.2.2.1 + (ffT N x1.2.2.1 (x1.2.1 ((x1.2.2.2.2).toNat)) (x - x1.2.2.2.1))), (lastP (remF ltP (upd x1.2.1 ((x1.2.2.2.2).toNat) (ffP (x1.2.1 ((x1.2.2.2.2).toNat)) (ffT N x1.2.2.1 (x1.2.1 ((x1.2.2.2.2).toNat)) (x - x1.2.2.2.1)))) (x1.1 - 1) ((x1.2.2.2.2).toNat)) i (x1.1 - 1))) : Nat × (Nat → PaR) × (Nat → UInt64) × UInt64 × Int) < (fault_own_mu1 w N pu pr pc b e d G m n c F i x L) x1 from (show ((FlAt N i x (FlS.mk (remF ltP (upd x1.2.1 ((x1.2.2.2.2).toNat) (ffP (x1.2.1 ((x1.2.2.2.2).toNat)) (ffT N x1.2.2.1 (x1.2.1 ((x1.2.2.2.2).toNat)) (x - x1.2.2.2.1)))) (x1.1 - 1) ((x1.2.2.2.2).toNat)) (x1.1 - 1) (ffG N x1.2.2.1 (x1.2.1 ((x1.2.2.2.2).toNat)) (x - x1.2.2.2.1)) (x1.2.2.2.1 + (ffT N x1.2.2.1 (x1.2.1 ((x1.2.2.2.2).toNat)) (x - x1.2.2.2.1))))) ∧ (flI N i x ((x1.1 - 1) + 1) (FlS.mk (remF ltP (upd x1.2.1 ((x1.2.2.2.2).toNat) (ffP (x1.2.1 ((x1.2.2.2.2).toNat)) (ffT N x1.2.2.1 (x1.2.1 ((x1.2.2.2.2).toNat)) (x - x1.2.2.2.1)))) (x1.1 - 1) ((x1.2.2.2.2).toNat)) (x1.1 - 1) (ffG N x1.2.2.1 (x1.2.1 ((x1.2.2.2.2).toNat)) (x - x1.2.2.2.1)) (x1.2.2.2.1 + (ffT N x1.2.2.1 (x1.2.1 ((x1.2.2.2.2).toNat)) (x - x1.2.2.2.1)))) = flI N i x (n + 1) (FlS.mk F n (moveF (3 * N + 2) G ((1 * N + i : Nat) : Int) ((3 * N : Nat) : Int) (takeN (3 * N + 2) G ((1 * N + i : Nat) : Int) x)) (takeV (3 * N + 2) G ((1 * N + i : Nat) : Int) ((3 * N : Nat) : Int) x))) ∧ ((x1.1 - 1) ≤ n) ∧ ((lastP (remF ltP (upd x1.2.1 ((x1.2.2.2.2).toNat) (ffP (x1.2.1 ((x1.2.2.2.2).toNat)) (ffT N x1.2.2.1 (x1.2.1 ((x1.2.2.2.2).toNat)) (x - x1.2.2.2.1)))) (x1.1 - 1) ((x1.2.2.2.2).toNat)) i (x1.1 - 1)) = lastP (remF ltP (upd x1.2.1 ((x1.2.2.2.2).toNat) (ffP (x1.2.1 ((x1.2.2.2.2).toNat)) (ffT N x1.2.2.1 (x1.2.1 ((x1.2.2.2.2).toNat)) (x - x1.2.2.2.1)))) (x1.1 - 1) ((x1.2.2.2.2).toNat)) i (x1.1 - 1))) ∧ ((x1.1 - 1) + (if (x1.2.2.2.1 + (ffT N x1.2.2.1 (x1.2.1 ((x1.2.2.2.2).toNat)) (x - x1.2.2.2.1))) < x then 1 else 0)) < (x1.1 + (if x1.2.2.2.1 < x then 1 else 0)) from by first | (have q := (fl_step B0 B3 (by assumption) B1).1 (by assumption); exact ⟨⟨q.1.1, q.1.2, by omega, rfl⟩, q.2⟩) | (have q := (fl_step B0 B3 (by assumption) B1).2 (by assumption); exact ⟨⟨q.1.1, q.1.2, by omega, rfl⟩, q.2⟩))))))) (fun (h3 : (decide ((x1.2.1 ((x1.2.2.2.2).toNat)).a - ffT N x1.2.2.1 (x1.2.1 ((x1.2.2.2.2).toNat)) (x - x1.2.2.2.1) = 0)) = false) => have f12 := (oF h3); aI (sK2 (aI (aT (@is_move_nat Try.prog (.tmp 9) x1.2.2.2.2 ((x1.2.2.2.2).toNat) (show (x1.2.2.2.2 : Int) = (((x1.2.2.2.2).toNat : Nat) : Int) from by omega))) (sK2 (aI (aT (@is_sub64 Try.prog 23 23 (.tmp 41) (.tmp 42) x x1.2.2.2.1)) (aI (aT (Runs.dark [false, true, false, false] (forfeit_some w N pu pr pc b e d x1.2.2.1 m x1.1 c x1.2.1 ((x1.2.2.2.2).toNat) (x - x1.2.2.2.1) (show ((x1.2.2.2.2).toNat) < x1.1 from by omega) (show x1.1 ≤ c ∧ x1.1 ≤ 20 from by omega) (show (x1.2.1 ((x1.2.2.2.2).toNat)).w < N from by omega) (show N ≤ 8 from by omega) (oF h3)))) (aI (aT (@is_add64 Try.prog 23 23 (.tmp 38) (.tmp 44) x1.2.2.2.1 (ffT N x1.2.2.1 (x1.2.1 ((x1.2.2.2.2).toNat)) (x - x1.2.2.2.1)))) kV1)))))) (aI (sK2 (aI (aT (Runs.dark [true, true] (last_own w (nat N) (ptr pu 0) (u64 b) (u64 e) (u64 d) m x1.1 c (upd x1.2.1 ((x1.2.2.2.2).toNat) (ffP (x1.2.1 ((x1.2.2.2.2).toNat)) (ffT N x1.2.2.1 (x1.2.1 ((x1.2.2.2.2).toNat)) (x - x1.2.2.2.1)))) i (show x1.1 ≤ c ∧ x1.1 ≤ 20 from by omega)))) kV1)) ((rnd (fault_own_R1 w N pu pr pc b e d G m n c F i x L) (fault_own_S1 w N pu pr pc b e d G m n c F i x L) (fault_own_mu1 w N pu pr pc b e d G m n c F i x L) x1 ((x1.1, upd x1.2.1 ((x1.2.2.2.2).toNat) (ffP (x1.2.1 ((x1.2.2.2.2).toNat)) (ffT N x1.2.2.1 (x1.2.1 ((x1.2.2.2.2).toNat)) (x - x1.2.2.2.1))), (ffG N x1.2.2.1 (x1.2.1 ((x1.2.2.2.2).toNat)) (x - x1.2.2.2.1)), (x1.2.2.2.1 + (ffT N x1.2.2.1 (x1.2.1 ((x1.2.2.2.2).toNat)) (x - x1.2.2.2.1))), (lastP (upd x1.2.1 ((x1.2.2.2.2).toNat) (ffP (x1.2.1 ((x1.2.2.2.2).toNat)) (ffT N x1.2.2.1 (x1.2.1 ((x1.2.2.2.2).toNat)) (x - x1.2.2.2.1)))) i x1.1)) : Nat × (Nat → PaR) × (Nat → UInt64) × UInt64 × Int) (show (fault_own_R1 w N pu pr pc b e d G m n c F i x L) ((x1.1, upd x1.2.1 ((x1.2.2.2.2).toNat) (ffP (x1.2.1 ((x1.2.2.2.2).toNat)) (ffT N x1.2.2.1 (x1.2.1 ((x1.2.2.2.2).toNat)) (x - x1.2.2.2.1))), (ffG N x1.2.2.1 (x1.2.1 ((x1.2.2.2.2).toNat)) (x - x1.2.2.2.1)), (x1.2.2.2.1 + (ffT N x1.2.2.1 (x1.2.1 ((x1.2.2.2.2).toNat)) (x - x1.2.2.2.1))), (lastP (upd x1.2.1 ((x1.2.2.2.2).toNat) (ffP (x1.2.1 ((x1.2.2.2.2).toNat)) (ffT N x1.2.2.1 (x1.2.1 ((x1.2.2.2.2).toNat)) (x - x1.2.2.2.1)))) i x1.1)) : Nat × (Nat → PaR) × (Nat → UInt64) × UInt64 × Int) ∧ (fault_own_mu1 w N pu pr pc b e d G m n c F i x L) ((x1.1, upd x1.2.1 ((x1.2.2.2.2).toNat) (ffP (x1.2.1 ((x1.2.2.2.2).toNat)) (ffT N x1.2.2.1 (x1.2.1 ((x1.2.2.2.2).toNat)) (x - x1.2.2.2.1))), (ffG N x1.2.2.1 (x1.2.1 ((x1.2.2.2.2).toNat)) (x - x1.2.2.2.1)), (x1.2.2.2.1 + (ffT N x1.2.2.1 (x1.2.1 ((x1.2.2.2.2).toNat)) (x - x1.2.2.2.1))), (lastP (upd x1.2.1 ((x1.2.2.2.2).toNat) (ffP (x1.2.1 ((x1.2.2.2.2).toNat)) (ffT N x1.2.2.1 (x1.2.1 ((x1.2.2.2.2).toNat)) (x - x1.2.2.2.1)))) i x1.1)) : Nat × (Nat → PaR) × (Nat → UInt64) × UInt64 × Int) < (fault_own_mu1 w N pu pr pc b e d G m n c F i x L) x1 from (show ((FlAt N i x (FlS.mk (upd x1.2.1 ((x1.2.2.2.2).toNat) (ffP (x1.2.1 ((x1.2.2.2.2).toNat)) (ffT N x1.2.2.1 (x1.2.1 ((x1.2.2.2.2).toNat)) (x - x1.2.2.2.1)))) x1.1 (ffG N x1.2.2.1 (x1.2.1 ((x1.2.2.2.2).toNat)) (x - x1.2.2.2.1)) (x1.2.2.2.1 + (ffT N x1.2.2.1 (x1.2.1 ((x1.2.2.2.2).toNat)) (x - x1.2.2.2.1))))) ∧ (flI N i x (x1.1 + 1) (FlS.mk (upd x1.2.1 ((x1.2.2.2.2).toNat) (ffP (x1.2.1 ((x1.2.2.2.2).toNat)) (ffT N x1.2.2.1 (x1.2.1 ((x1.2.2.2.2).toNat)) (x - x1.2.2.2.1)))) x1.1 (ffG N x1.2.2.1 (x1.2.1 ((x1.2.2.2.2).toNat)) (x - x1.2.2.2.1)) (x1.2.2.2.1 + (ffT N x1.2.2.1 (x1.2.1 ((x1.2.2.2.2).toNat)) (x - x1.2.2.2.1)))) = flI N i x (n + 1) (FlS.mk F n (moveF (3 * N + 2) G ((1 * N + i : Nat) : Int) ((3 * N : Nat) : Int) (takeN (3 * N + 2) G ((1 * N + i : Nat) : Int) x)) (takeV (3 * N + 2) G ((1 * N + i : Nat) : Int) ((3 * N : Nat) : Int) x))) ∧ (x1.1 ≤ n) ∧ ((lastP (upd x1.2.1 ((x1.2.2.2.2).toNat) (ffP (x1.2.1 ((x1.2.2.2.2).toNat)) (ffT N x1.2.2.1 (x1.2.1 ((x1.2.2.2.2).toNat)) (x - x1.2.2.2.1)))) i x1.1) = lastP (upd x1.2.1 ((x1.2.2.2.2).toNat) (ffP (x1.2.1 ((x1.2.2.2.2).toNat)) (ffT N x1.2.2.1 (x1.2.1 ((x1.2.2.2.2).toNat)) (x - x1.2.2.2.1)))) i x1.1)) ∧ (x1.1 + (if (x1.2.2.2.1 + (ffT N x1.2.2.1 (x1.2.1 ((x1.2.2.2.2).toNat)) (x - x1.2.2.2.1))) < x then 1 else 0)) < (x1.1 + (if x1.2.2.2.1 < x then 1 else 0)) from by first | (have q := (fl_step B0 B3 (by assumption) B1).1 (by assumption); exact ⟨⟨q.1.1, q.1.2, by omega, rfl⟩, q.2⟩) | (have q := (fl_step B0 B3 (by assumption) B1).2 (by assumption); exact ⟨⟨q.1.1, q.1.2, by omega, rfl⟩, q.2⟩)))))))) (fun (h2 : (selB (decide ((x1.2.2.2.2 : Int) ≥ 0)) (decide (x1.2.2.2.1 < x)) false) = false) => have f10 : (¬ ((x1.2.2.2.2 : Int) ≥ 0)) ∨ (¬ (x1.2.2.2.1 < x)) := (Or.imp (fun h => (oF h)) (fun h => (oF h)) (sband_f h2)); aI kV3 (aT (eX (fun (ns : List Nat) => ns.length = 0 ∧ ((Value.tuple #[(u64 x1.2.2.2.1), (int 0)]) : Value) = (fun _ => Value.tuple #[u64 (flI N i x (n + 1) (FlS.mk F n (moveF (3 * N + 2) G ((1 * N + i : Nat) : Int) ((3 * N : Nat) : Int) (takeN (3 * N + 2) G ((1 * N + i : Nat) : Int) x)) (takeV (3 * N + 2) G ((1 * N + i : Nat) : Int) ((3 * N : Nat) : Int) x))).t, int 0]) ns ∧ ([some ⟨w, true, 0, (.lit [(nat N), (ptr pu 0), (Value.slice (some ⟨m, 0, none⟩) x1.1 c), (u64 b), (u64 e), (u64 d)])⟩, some ⟨pu, false, 0, (.lit [(Value.slice (some ⟨pr, 0, none⟩) (3 * N + 2) pc)])⟩, some ⟨pr, true, 0, (tabF (3 * N + 2) (fun k => u64 (x1.2.2.1 k)))⟩, some ⟨m, true, 0, (tabS c x1.2.1)⟩] : List (Option Blk)) = (fun _ => [some ⟨w, true, 0, (.lit [(nat N), (ptr pu 0), (Value.slice (some ⟨m, 0, none⟩) ((flI N i x (n + 1) (FlS.mk F n (moveF (3 * N + 2) G ((1 * N + i : Nat) : Int) ((3 * N : Nat) : Int) (takeN (3 * N + 2) G ((1 * N + i : Nat) : Int) x)) (takeV (3 * N + 2) G ((1 * N + i : Nat) : Int) ((3 * N : Nat) : Int) x))).n) c), (u64 b), (u64 e), (u64 d)])⟩, some ⟨pu, false, 0, (.lit [(Value.slice (some ⟨pr, 0, none⟩) (3 * N + 2) pc)])⟩, some ⟨pr, true, 0, (tabF (3 * N + 2) (fun k => u64 ((flI N i x (n + 1) (FlS.mk F n (moveF (3 * N + 2) G ((1 * N + i : Nat) : Int) ((3 * N : Nat) : Int) (takeN (3 * N + 2) G ((1 * N + i : Nat) : Int) x)) (takeV (3 * N + 2) G ((1 * N + i : Nat) : Int) ((3 * N : Nat) : Int) x))).G k)))⟩, some ⟨m, true, 0, (tabS c ((flI N i x (n + 1) (FlS.mk F n (moveF (3 * N + 2) G ((1 * N + i : Nat) : Int) ((3 * N : Nat) : Int) (takeN (3 * N + 2) G ((1 * N + i : Nat) : Int) x)) (takeV (3 * N + 2) G ((1 * N + i : Nat) : Int) ((3 * N : Nat) : Int) x))).F))⟩]) ns) [] (aI (@rfl Nat 0) (aI ((show (Value.tuple #[(u64 x1.2.2.2.1), (int 0)]) = Value.tuple #[u64 (flI N i x (n + 1) (FlS.mk F n (moveF (3 * N + 2) G ((1 * N + i : Nat) : Int) ((3 * N : Nat) : Int) (takeN (3 * N + 2) G ((1 * N + i : Nat) : Int) x)) (takeV (3 * N + 2) G ((1 * N + i : Nat) : Int) ((3 * N : Nat) : Int) x))).t, int 0] from by rw [← B1, flI_end (flC_no B3 (by assumption))])) ((show ([some ⟨w, true, 0, (.lit [(nat N), (ptr pu 0), (Value.slice (some ⟨m, 0, none⟩) x1.1 c), (u64 b), (u64 e), (u64 d)])⟩, some ⟨pu, false, 0, (.lit [(Value.slice (some ⟨pr, 0, none⟩) (3 * N + 2) pc)])⟩, some ⟨pr, true, 0, (tabF (3 * N + 2) (fun k => u64 (x1.2.2.1 k)))⟩, some ⟨m, true, 0, (tabS c x1.2.1)⟩] : List (Option Blk)) = [some ⟨w, true, 0, (.lit [(nat N), (ptr pu 0), (Value.slice (some ⟨m, 0, none⟩) ((flI N i x (n + 1) (FlS.mk F n (moveF (3 * N + 2) G ((1 * N + i : Nat) : Int) ((3 * N : Nat) : Int) (takeN (3 * N + 2) G ((1 * N + i : Nat) : Int) x)) (takeV (3 * N + 2) G ((1 * N + i : Nat) : Int) ((3 * N : Nat) : Int) x))).n) c), (u64 b), (u64 e), (u64 d)])⟩, some ⟨pu, false, 0, (.lit [(Value.slice (some ⟨pr, 0, none⟩) (3 * N + 2) pc)])⟩, some ⟨pr, true, 0, (tabF (3 * N + 2) (fun k => u64 ((flI N i x (n + 1) (FlS.mk F n (moveF (3 * N + 2) G ((1 * N + i : Nat) : Int) ((3 * N : Nat) : Int) (takeN (3 * N + 2) G ((1 * N + i : Nat) : Int) x)) (takeV (3 * N + 2) G ((1 * N + i : Nat) : Int) ((3 * N : Nat) : Int) x))).G k)))⟩, some ⟨m, true, 0, (tabS c ((flI N i x (n + 1) (FlS.mk F n (moveF (3 * N + 2) G ((1 * N + i : Nat) : Int) ((3 * N : Nat) : Int) (takeN (3 * N + 2) G ((1 * N + i : Nat) : Int) x)) (takeV (3 * N + 2) G ((1 * N + i : Nat) : Int) ((3 * N : Nat) : Int) x))).F))⟩] from by rw [← B1, flI_end (flC_no B3 (by assumption))])))))))))))))))) (show (!(isI N ((i : Nat) : Int))) = false from by rw [isI_nat hi] <;> rfl)))))
theorem next_none (w N pu pr pc : Nat) (wa : Option Addr) (wn wc : Nat) (b e d : UInt64) (G : Nat → UInt64) (hN : 1 ≤ N ∧ N ≤ 8) (h0 : wn = 0) : Runs Try.prog 26 [(ptr w 0)] [⟨w, true, 0, (.lit [(nat N), (ptr pu 0), (Value.slice wa wn wc), (u64 b), (u64 e), (u64 d)])⟩, ⟨pu, false, 0, (.lit [(Value.slice (some ⟨pr, 0, none⟩) (3 * N + 2) pc)])⟩, ⟨pr, true, 0, (tabF (3 * N + 2) (fun k => u64 (G k)))⟩] 0 (fun _ => (Value.slice none 0 0)) (fun _ => [some ⟨w, true, 0, (.lit [(nat N), (ptr pu 0), (Value.slice wa wn wc), (u64 b), (u64 (e + 1)), (u64 d)])⟩, some ⟨pu, false, 0, (.lit [(Value.slice (some ⟨pr, 0, none⟩) (3 * N + 2) pc)])⟩, some ⟨pr, true, 0, (tabF (3 * N + 2) (fun k => u64 (spreadF (3 * N + 2) G ((3 * N : Nat) : Int) ((3 * N + 1 : Nat) : Int) (3 * N + 2) (wtF N G) k)))⟩]) :=
  runs_of_ev mix Try.func26 rfl rfl 400 (.reg (rg [.g]) (.reg (rg [.g, .g, .g, (.ld 0 (.lit 4)), (.as (u64 (e + 1))), .g, .g, (.st 0 (.lit 4))]) (.reg (rg [.g]) (.unroll (.reg (rg [.g, .g, .g, (.ld 0 (.lit 2)), (.as (nat wn)), (.as (Value.bool (decide (0 < wn)))), .g, .skip, .skip, .skip, .skip, .skip, .skip, .skip, .skip, .skip, .skip, .skip, .skip, .pk]) (.keep [0, 2, 6, 7, 8, 9, 10, 11, 12, 3, 13, 14, 15, 16, 17, 18, 19, 32] [0, 1, 2] 3 (.told ⟨[(0, .v (ptr w 0)), (2, .v (Value.slice none 0 0)), (6, .v (ptr w 0)), (7, .v (ptr w 0)), (8, .v (ptr w 4)), (9, .v (u64 e)), (10, .v (u64 (e + 1))), (11, .v (ptr w 0)), (12, .v (ptr w 4)), (3, .v (Value.slice none 0 0)), (13, .v (ptr w 0)), (14, .v (ptr w 0)), (15, .v (ptr w 2)), (16, .v (Value.slice wa wn wc)), (17, .v (nat wn)), (18, .v (Value.bool (decide (0 < wn)))), (19, .v (Value.bool (decide (0 < wn)))), (32, .v (Value.bool false))], [(0, some ⟨w, true, 0, (.lit [(nat N), (ptr pu 0), (Value.slice wa wn wc), (u64 b), (u64 (e + 1)), (u64 d)])⟩), (1, some ⟨pu, false, 0, (.lit [(Value.slice (some ⟨pr, 0, none⟩) (3 * N + 2) pc)])⟩), (2, some ⟨pr, true, 0, (tabF (3 * N + 2) (fun k => u64 (G k)))⟩)], 3⟩ (.no (.regn (rg [.g, .g, .g, (.ld 0 (.lit 1)), (.call [(1, true)] 0 0 (fun _ => (nat (3 * N + 2))) (fun _ => [none])), (.oth [] 1 1 (fun ns => Value.slice (some ⟨ns.getD 0 0, 0, none⟩) (3 * N + 2) (3 * N + 2)) (fun ns => [some ⟨ns.getD 0 0, true, 0, (tabF (3 * N + 2) (fun k => u64 ((fun _ => 0) k)))⟩])), .g]) (more (fun n1 => fun _ => (.regn (rg [.g, .g, (.call [(0, true)] 0 0 (fun _ => (nat (1 * N + 0))) (fun _ => [none])), (.asf (slF 1)), .g, (.call [(0, true), (1, true), (2, true)] 1 1 (fun ns => Value.slice (some ⟨(ns.getD 0 0), 0, none⟩) N N) (fun ns => [none, none, none, some ⟨(ns.getD 0 0), true, 0, (tabF N (fun k => u64 (cutU (fun k => G (1 * N + k)) N k)))⟩])), (.oth [(3, false), (4, true)] 0 0 (fun _ => nat N) (fun _ => [some ⟨n1, true, 0, (tabF (3 * N + 2) (fun k => u64 (putU (fun _ => 0) (1 * N + 0) N (cutU (fun k => G (1 * N + k)) N) k)))⟩, none]))]) (more (fun n2 => fun _ => (.reg (rg [.g, .g, .g, (.ld 0 (.lit 1)), .g, (.call [(0, true)] 0 0 (fun _ => (nat (3 * N))) (fun _ => [none])), .g, (.call [(0, true)] 0 0 (fun _ => (nat (3 * N + 1))) (fun _ => [none])), .g, (.call [(1, true), (2, false), (3, true)] 0 0 (fun _ => (int (spreadE (3 * N + 2) ((3 * N : Nat) : Int) ((3 * N + 1 : Nat) : Int) (3 * N + 2)))) (fun _ => [none, some ⟨pr, true, 0, (tabF (3 * N + 2) (fun k => u64 (spreadF (3 * N + 2) G ((3 * N : Nat) : Int) ((3 * N + 1 : Nat) : Int) (3 * N + 2) (putU (fun _ => 0) (1 * N + 0) N (cutU (fun k => G (1 * N + k)) N)) k)))⟩, none]))]) (.reg (rg [.g, .g]) .done)))))))))))))))) [] [] rfl
    (Eq.mp (by kernel_rfl) (aI kV1 (aI (sK3 (aI (aT (ad w 4)) (aI (aT (@is_add64 Try.prog 23 23 (.tmp 9) (.const (.int .u64 1)) e 1)) (sK2 (aI (aT (ad w 4)) tV))))) (aI kV1 (aI (sK3 (aI (aT (ad w 2)) (aI (aT (@is_len Try.prog 52 77 (.tmp 16) (by kernel_rfl) wa wn wc)) (aI (aT (@is_gtrn Try.prog 3 3 (.tmp 17) (.const (.int .i64 0))  wn 0)) (sk (aI (show sameB (decide (0 < wn)) true = false from by rw [show (decide (0 < wn)) = false from (decide_eq_false (show ¬ 0 < wn by omega))] <;> rfl) (aI (show sameB (decide (0 < wn)) true = false from by rw [show (decide (0 < wn)) = false from (decide_eq_false (show ¬ 0 < wn by omega))] <;> rfl) (aI (show sameB (decide (0 < wn)) true = false from by rw [show (decide (0 < wn)) = false from (decide_eq_false (show ¬ 0 < wn by omega))] <;> rfl) (aI (show sameB (decide (0 < wn)) true = false from by rw [show (decide (0 < wn)) = false from (decide_eq_false (show ¬ 0 < wn by omega))] <;> rfl) (aI (show sameB (decide (0 < wn)) true = false from by rw [show (decide (0 < wn)) = false from (decide_eq_false (show ¬ 0 < wn by omega))] <;> rfl) (aI (show sameB (decide (0 < wn)) true = false from by rw [show (decide (0 < wn)) = false from (decide_eq_false (show ¬ 0 < wn by omega))] <;> rfl) (aI (show sameB (decide (0 < wn)) true = false from by rw [show (decide (0 < wn)) = false from (decide_eq_false (show ¬ 0 < wn by omega))] <;> rfl) (aI (show sameB (decide (0 < wn)) true = false from by rw [show (decide (0 < wn)) = false from (decide_eq_false (show ¬ 0 < wn by omega))] <;> rfl) (aI (show sameB (decide (0 < wn)) true = false from by rw [show (decide (0 < wn)) = false from (decide_eq_false (show ¬ 0 < wn by omega))] <;> rfl) (aI (show sameB (decide (0 < wn)) true = false from by rw [show (decide (0 < wn)) = false from (decide_eq_false (show ¬ 0 < wn by omega))] <;> rfl) (aI (show sameB (decide (0 < wn)) true = false from by rw [show (decide (0 < wn)) = false from (decide_eq_false (show ¬ 0 < wn by omega))] <;> rfl) (aI (show sameB (decide (0 < wn)) true = false from by rw [show (decide (0 < wn)) = false from (decide_eq_false (show ¬ 0 < wn by omega))] <;> rfl) (aI (aT (aI (fun (_ : (decide (0 < wn)) = true) => tV) (fun (_ : (decide (0 < wn)) = false) => tV))) tV)))))))))))))))))) (aI (show (⟨[(0, .v (ptr w 0)), (2, .v (Value.slice none 0 0)), (6, .v (ptr w 0)), (7, .v (ptr w 0)), (8, .v (ptr w 4)), (9, .v (u64 e)), (10, .v (u64 (e + 1))), (11, .v (ptr w 0)), (12, .v (ptr w 4)), (3, .v (Value.slice none 0 0)), (13, .v (ptr w 0)), (14, .v (ptr w 0)), (15, .v (ptr w 2)), (16, .v (Value.slice wa wn wc)), (17, .v (nat wn)), (18, .v (Value.bool (decide (0 < wn)))), (19, .v (Value.bool (decide (0 < wn)))), (32, .v (match (decide (0 < wn)) with | true => undef | false => (Value.bool false)))], [(0, some ⟨w, true, 0, (.lit [(nat N), (ptr pu 0), (Value.slice wa wn wc), (u64 b), (u64 (e + 1)), (u64 d)])⟩), (1, some ⟨pu, false, 0, (.lit [(Value.slice (some ⟨pr, 0, none⟩) (3 * N + 2) pc)])⟩), (2, some ⟨pr, true, 0, (tabF (3 * N + 2) (fun k => u64 (G k)))⟩)], 3⟩ : St) = ⟨[(0, .v (ptr w 0)), (2, .v (Value.slice none 0 0)), (6, .v (ptr w 0)), (7, .v (ptr w 0)), (8, .v (ptr w 4)), (9, .v (u64 e)), (10, .v (u64 (e + 1))), (11, .v (ptr w 0)), (12, .v (ptr w 4)), (3, .v (Value.slice none 0 0)), (13, .v (ptr w 0)), (14, .v (ptr w 0)), (15, .v (ptr w 2)), (16, .v (Value.slice wa wn wc)), (17, .v (nat wn)), (18, .v (Value.bool (decide (0 < wn)))), (19, .v (Value.bool (decide (0 < wn)))), (32, .v (Value.bool false))], [(0, some ⟨w, true, 0, (.lit [(nat N), (ptr pu 0), (Value.slice wa wn wc), (u64 b), (u64 (e + 1)), (u64 d)])⟩), (1, some ⟨pu, false, 0, (.lit [(Value.slice (some ⟨pr, 0, none⟩) (3 * N + 2) pc)])⟩), (2, some ⟨pr, true, 0, (tabF (3 * N + 2) (fun k => u64 (G k)))⟩)], 3⟩ from by rw [show (decide (0 < wn)) = false from (decide_eq_false (show ¬ 0 < wn by omega))] <;> rfl) (aT (aI (@rfl Bool false) (fun (n1 : Nat) => aI (sK3 (aI (aT (ad w 1)) (aI (aT (Runs.dark [true] (plen_runs pu pr (3 * N + 2) pc))) (aI (aT (mk_make (P := Try.prog) (t := 22) (e := 23) (by kernel_rfl) one23 (3 * N + 2) (show (8 : Int) * ((3 * N + 2 : Nat) : Int) ≤ 281474976710656 ∧ 3 * N + 2 ≤ 9223372036854775807 from by omega))) kV1)))) (fun (n2 : Nat) => aI (sK2 (aI (aT (Runs.dark [true] (acct_runs w N (ptr pu 0) (Value.slice wa wn wc) (u64 b) (u64 (e + 1)) (u64 d) 1 0 (show 1 ≤ 2 from by omega) (show 0 < N from by omega) (show N ≤ 8 from by omega)))) (aI (aT (@is_slqFrom Try.prog 22 23 (.tmp 65) (.tmp 67) (by kernel_rfl) 1 (by kernel_rfl) (some ⟨n1, 0, none⟩) (3 * N + 2) (3 * N + 2) (1 * N + 0) (show 1 * N + 0 ≤ 3 * N + 2 ∧ 3 * N + 2 ≤ 3 * N + 2 from by omega))) (sk (aI (aT (Runs.dark [true, true, true] (lstakes_runs w N pu pr pc wa wn wc b (e + 1) d G (show N ≤ 8 from by omega)))) (aI (aT (SRuns.dark [false, true] (srun_copyA (P := Try.prog) (dT := 22) (sT := 22) (ty := 3) (e := 23) (by kernel_rfl) (by kernel_rfl) n1 n2 (3 * N + 2) N (1 * N + 0) (3 * N + 2) 0 N (fun _ => 0) (cutU (fun k => G (1 * N + k)) N) (show 1 * N + 0 + N ≤ 3 * N + 2 ∧ 1 * N + 0 < 3 * N + 2 ∧ 3 * N + 2 ≤ (3 * N + 2) from by omega)))) tV)))))) (aI (sK3 (aI (aT (ad w 1)) (sk (aI (aT (Runs.dark [true] (lpot_runs w N (ptr pu 0) (Value.slice wa wn wc) (u64 b) (u64 (e + 1)) (u64 d) (show N ≤ 8 from by omega)))) (sk (aI (aT (Runs.dark [true] (ltre_runs w N (ptr pu 0) (Value.slice wa wn wc) (u64 b) (u64 (e + 1)) (u64 d) (show N ≤ 8 from by omega)))) (sk (aI (aT (Runs.dark [true, false, true] (spread_runs pu pr (3 * N + 2) pc G ((3 * N : Nat) : Int) ((3 * N + 1 : Nat) : Int) n1 0 (3 * N + 2) (3 * N + 2) (putU (fun _ => 0) (1 * N + 0) N (cutU (fun k => G (1 * N + k)) N)) (show (3 * N + 2) ≤ 40 ∧ (3 * N + 2) ≤ 9223372036854775807 from by omega)))) tV)))))))) (aI kV2 (aT (eX (fun (ns : List Nat) => ns.length = 0 ∧ ((Value.slice none 0 0) : Value) = (fun _ => (Value.slice none 0 0)) ns ∧ ([some ⟨w, true, 0, (.lit [(nat N), (ptr pu 0), (Value.slice wa wn wc), (u64 b), (u64 (e + 1)), (u64 d)])⟩, some ⟨pu, false, 0, (.lit [(Value.slice (some ⟨pr, 0, none⟩) (3 * N + 2) pc)])⟩, some ⟨pr, true, 0, (tabF (3 * N + 2) (fun k => u64 (spreadF (3 * N + 2) G ((3 * N : Nat) : Int) ((3 * N + 1 : Nat) : Int) (3 * N + 2) (putU (fun _ => 0) (1 * N + 0) N (cutU (fun k => G (1 * N + k)) N)) k)))⟩] : List (Option Blk)) = (fun _ => [some ⟨w, true, 0, (.lit [(nat N), (ptr pu 0), (Value.slice wa wn wc), (u64 b), (u64 (e + 1)), (u64 d)])⟩, some ⟨pu, false, 0, (.lit [(Value.slice (some ⟨pr, 0, none⟩) (3 * N + 2) pc)])⟩, some ⟨pr, true, 0, (tabF (3 * N + 2) (fun k => u64 (spreadF (3 * N + 2) G ((3 * N : Nat) : Int) ((3 * N + 1 : Nat) : Int) (3 * N + 2) (wtF N G) k)))⟩]) ns) [] (aI (@rfl Nat 0) (aI (@rfl Value (Value.slice none 0 0)) (@rfl (List (Option Blk)) [some ⟨w, true, 0, (.lit [(nat N), (ptr pu 0), (Value.slice wa wn wc), (u64 b), (u64 (e + 1)), (u64 d)])⟩, some ⟨pu, false, 0, (.lit [(Value.slice (some ⟨pr, 0, none⟩) (3 * N + 2) pc)])⟩, some ⟨pr, true, 0, (tabF (3 * N + 2) (fun k => u64 (spreadF (3 * N + 2) G ((3 * N : Nat) : Int) ((3 * N + 1 : Nat) : Int) (3 * N + 2) (wtF N G) k)))⟩])))))))))))))))))
def next_own_S1 (w : Nat) (N : Nat) (pu : Nat) (pr : Nat) (pc : Nat) (b : UInt64) (e : UInt64) (d : UInt64) (G : Nat → UInt64) (m : Nat) (n : Nat) (c : Nat) (F : Nat → PaR) (L : List PaR) (x1 : (Grw Int) × Nat × (Nat → PaR) × (Nat → UInt64)) : St := ⟨[(0, .v (ptr w 0)), (3, .v (gsV x1.1))], [(0, some ⟨w, true, 0, (.lit [(nat N), (ptr pu 0), (Value.slice (some ⟨m, 0, none⟩) x1.2.1 c), (u64 b), (u64 (e + 1)), (u64 d)])⟩), (1, some ⟨pu, false, 0, (.lit [(Value.slice (some ⟨pr, 0, none⟩) (3 * N + 2) pc)])⟩), (2, some ⟨pr, true, 0, (tabF (3 * N + 2) (fun k => u64 (x1.2.2.2 k)))⟩), (3, some ⟨m, true, 0, (tabS c x1.2.2.1)⟩), (4, (gsE intC [int 0] 1 x1.1))], 5⟩
def next_own_R1 (w : Nat) (N : Nat) (pu : Nat) (pr : Nat) (pc : Nat) (b : UInt64) (e : UInt64) (d : UInt64) (G : Nat → UInt64) (m : Nat) (n : Nat) (c : Nat) (F : Nat → PaR) (L : List PaR) (x1 : (Grw Int) × Nat × (Nat → PaR) × (Nat → UInt64)) : Prop := x1.1.ok ∧ (x1.2.1 = n - x1.1.n) ∧ (x1.2.2.1 = popG ltP F n x1.1.n) ∧ (x1.2.2.2 = frG N L G x1.1.n) ∧ (∀ k, k < x1.1.n → x1.1.f k = (((L.getD k paZ).w : Nat) : Int)) ∧ (x1.1.z = decide (x1.1.n = 0)) ∧ (x1.1.n ≤ (dueP (e + 1) L))
def next_own_mu1 (w : Nat) (N : Nat) (pu : Nat) (pr : Nat) (pc : Nat) (b : UInt64) (e : UInt64) (d : UInt64) (G : Nat → UInt64) (m : Nat) (n : Nat) (c : Nat) (F : Nat → PaR) (L : List PaR) (x1 : (Grw Int) × Nat × (Nat → PaR) × (Nat → UInt64)) : Nat := x1.2.1
theorem next_own (w N pu pr pc : Nat) (b e d : UInt64) (G : Nat → UInt64) (m n c : Nat) (F : Nat → PaR) (L : List PaR) (hN : 1 ≤ N ∧ N ≤ 8) (hn : n ≤ c ∧ n ≤ 20) (hs : StdG ltP F n L) (hw : ∀ p ∈ L, p.w < N) : Runs Try.prog 26 [(ptr w 0)] [⟨w, true, 0, (.lit [(nat N), (ptr pu 0), (Value.slice (some ⟨m, 0, none⟩) n c), (u64 b), (u64 e), (u64 d)])⟩, ⟨pu, false, 0, (.lit [(Value.slice (some ⟨pr, 0, none⟩) (3 * N + 2) pc)])⟩, ⟨pr, true, 0, (tabF (3 * N + 2) (fun k => u64 (G k)))⟩, ⟨m, true, 0, (tabS c F)⟩] 2 (fun (ns : List Nat) => (gsV (gsOf (dueP (e + 1) L) (fun k => (((L.getD k paZ).w : Nat) : Int)) (ns.getD 0 0) (ns.getD 1 0)))) (fun (ns : List Nat) => [some ⟨w, true, 0, (.lit [(nat N), (ptr pu 0), (Value.slice (some ⟨m, 0, none⟩) (n - (dueP (e + 1) L)) c), (u64 b), (u64 (e + 1)), (u64 d)])⟩, some ⟨pu, false, 0, (.lit [(Value.slice (some ⟨pr, 0, none⟩) (3 * N + 2) pc)])⟩, some ⟨pr, true, 0, (tabF (3 * N + 2) (fun k => u64 (spreadF (3 * N + 2) (frG N L G (dueP (e + 1) L)) ((3 * N : Nat) : Int) ((3 * N + 1 : Nat) : Int) (3 * N + 2) (putU (fun _ => 0) (1 * N + 0) N (cutU (fun k => (frG N L G (dueP (e + 1) L)) (1 * N + k)) N)) k)))⟩, some ⟨m, true, 0, (tabS c (popG ltP F n (dueP (e + 1) L)))⟩, (gsE intC [int 0] 1 (gsOf (dueP (e + 1) L) (fun k => (((L.getD k paZ).w : Nat) : Int)) (ns.getD 0 0) (ns.getD 1 0)))]) :=
  runs_of_ev mix Try.func26 rfl rfl 400 (.reg (rg [.g]) (.reg (rg [.g, .g, .g, (.ld 0 (.lit 4)), (.as (u64 (e + 1))), .g, .g, (.st 0 (.lit 4))]) (.keep [0, 2, 6, 7, 8, 9, 10, 11, 12] [0, 1, 2, 3] 5 (.reg (rg [.g]) (.inv [0, 3] [0, 1, 2, 3, 4] 5 (next_own_R1 w N pu pr pc b e d G m n c F L) (next_own_S1 w N pu pr pc b e d G m n c F L) (next_own_mu1 w N pu pr pc b e d G m n c F L) (((Grw.mk true 0 0 0 (fun _ => 0)), n, F, G) : (Grw Int) × Nat × (Nat → PaR) × (Nat → UInt64)) (fun (x1 : (Grw Int) × Nat × (Nat → PaR) × (Nat → UInt64)) => (.reg (rg [.g, .g, .g, (.ld 0 (.lit 2)), (.as (nat x1.2.1)), (.as (Value.bool (decide (0 < x1.2.1)))), .g, (.opt .g), (.opt .g), (.opt .g), (.opt (.ld 0 (.lit 2))), (.opt (.as (ptr m (0 + 0 * 4)))), (.opt .g), (.opt (.ld 3 (.tab 0 2))), (.opt .g), (.opt .g), (.opt .g), (.opt (.ld 0 (.lit 4))), (.opt (.as (Value.bool (decide (((x1.2.2.1 0).e) ≤ (e + 1)))))), .pk]) (.br (.regn (rg [.g, .g, .g, .g, (.call [(0, false), (3, false)] 0 0 (fun _ => (Value.iface 77 (Value.agg #[(nat ((popF ltP x1.2.2.1 (x1.2.1 - 1) (x1.2.1 - 1)).w)), (u64 ((popF ltP x1.2.2.1 (x1.2.1 - 1) (x1.2.1 - 1)).a)), (u64 ((popF ltP x1.2.2.1 (x1.2.1 - 1) (x1.2.1 - 1)).e)), (u64 ((popF ltP x1.2.2.1 (x1.2.1 - 1) (x1.2.1 - 1)).n))]))) (fun _ => [some ⟨w, true, 0, (.lit [(nat N), (ptr pu 0), (Value.slice (some ⟨m, 0, none⟩) (x1.2.1 - 1) c), (u64 b), (u64 (e + 1)), (u64 d)])⟩, some ⟨m, true, 0, (tabS c (popF ltP x1.2.2.1 (x1.2.1 - 1)))⟩])), .g, .new, (.st 5 (.lit 0))]) (more (fun n1 => fun _ => (.reg (rg [.g, .g, .g, (.ld 0 (.lit 1)), .g, .g, (.ld 5 (.lit 0)), (.call [(0, true)] 0 0 (fun _ => (nat (2 * N + ((popF ltP x1.2.2.1 (x1.2.1 - 1) (x1.2.1 - 1)).w)))) (fun _ => [none])), .g, .g, (.ld 5 (.lit 0)), (.call [(0, true)] 0 0 (fun _ => (nat (0 * N + ((popF ltP x1.2.2.1 (x1.2.1 - 1) (x1.2.1 - 1)).w)))) (fun _ => [none])), .g, (.ld 5 (.lit 1)), (.call [(1, true), (2, false)] 0 0 (fun _ => (int (moveE (3 * N + 2) x1.2.2.2 ((2 * N + ((popF ltP x1.2.2.1 (x1.2.1 - 1) (x1.2.1 - 1)).w) : Nat) : Int) ((0 * N + ((popF ltP x1.2.2.1 (x1.2.1 - 1) (x1.2.1 - 1)).w) : Nat) : Int) ((popF ltP x1.2.2.1 (x1.2.1 - 1) (x1.2.1 - 1)).a)))) (fun _ => [none, some ⟨pr, true, 0, (tabF (3 * N + 2) (fun k => u64 (moveF (3 * N + 2) x1.2.2.2 ((2 * N + ((popF ltP x1.2.2.1 (x1.2.1 - 1) (x1.2.1 - 1)).w) : Nat) : Int) ((0 * N + ((popF ltP x1.2.2.1 (x1.2.1 - 1) (x1.2.1 - 1)).w) : Nat) : Int) ((popF ltP x1.2.2.1 (x1.2.1 - 1) (x1.2.1 - 1)).a) k)))⟩]))]) (.regn (rg [.g, .g, (.ld 5 (.lit 0)), (.oth [] 1 1 (fun ns => Value.slice (some ⟨ns.getD 0 0, 0, none⟩) 1 1) (fun ns => [some ⟨ns.getD 0 0, true, 0, .lit [(nat ((popF ltP x1.2.2.1 (x1.2.1 - 1) (x1.2.1 - 1)).w))]⟩])), (.othO [(4, false), (6, true)] 2 0 (fun ns => gsV (Grw.mk false (ns.getD 0 0) (x1.1.n + 1) (ns.getD 1 0) (catU x1.1.f x1.1.n (fun _ => (((popF ltP x1.2.2.1 (x1.2.1 - 1) (x1.2.1 - 1)).w : Nat) : Int))))) (fun ns => [(gsE intC [int 0] 1 (Grw.mk false (ns.getD 0 0) (x1.1.n + 1) (ns.getD 1 0) (catU x1.1.f x1.1.n (fun _ => (((popF ltP x1.2.2.1 (x1.2.1 - 1) (x1.2.1 - 1)).w : Nat) : Int))))), none])), .g]) (more (fun n2 => more (fun n3 => more (fun n4 => fun _ => .done))))))))) (.keep [0, 3, 13, 14, 15, 16, 17, 18, 19, 32] [0, 1, 2, 3, 4] 5 (.told ⟨[(0, .v (ptr w 0)), (3, .v (gsV x1.1)), (13, .v (ptr w 0)), (14, .v (ptr w 0)), (15, .v (ptr w 2)), (16, .v (Value.slice (some ⟨m, 0, none⟩) (n - (dueP (e + 1) L)) c)), (17, .v (nat (n - (dueP (e + 1) L)))), (18, .v (Value.bool (decide (0 < n - (dueP (e + 1) L))))), (19, .v (Value.bool (decide (0 < n - (dueP (e + 1) L))))), (32, .v (Value.bool (selB (decide (0 < n - (dueP (e + 1) L))) (decide (((x1.2.2.1 0).e) ≤ (e + 1))) false)))], [(0, some ⟨w, true, 0, (.lit [(nat N), (ptr pu 0), (Value.slice (some ⟨m, 0, none⟩) (n - (dueP (e + 1) L)) c), (u64 b), (u64 (e + 1)), (u64 d)])⟩), (1, some ⟨pu, false, 0, (.lit [(Value.slice (some ⟨pr, 0, none⟩) (3 * N + 2) pc)])⟩), (2, some ⟨pr, true, 0, (tabF (3 * N + 2) (fun k => u64 (x1.2.2.2 k)))⟩), (3, some ⟨m, true, 0, (tabS c x1.2.2.1)⟩), (4, (gsE intC [int 0] 1 x1.1))], 5⟩ (.keep [0, 3, 13, 14, 15, 16, 17, 18, 19, 32] [0, 1, 2, 3, 4] 5 (.told ⟨[(0, .v (ptr w 0)), (3, .v (gsV x1.1)), (13, .v (ptr w 0)), (14, .v (ptr w 0)), (15, .v (ptr w 2)), (16, .v (Value.slice (some ⟨m, 0, none⟩) (n - (dueP (e + 1) L)) c)), (17, .v (nat (n - (dueP (e + 1) L)))), (18, .v (Value.bool (decide (0 < n - (dueP (e + 1) L))))), (19, .v (Value.bool (decide (0 < n - (dueP (e + 1) L))))), (32, .v (Value.bool (selB (decide (0 < n - (dueP (e + 1) L))) (decide (((popG ltP F n (dueP (e + 1) L) 0).e) ≤ (e + 1))) false)))], [(0, some ⟨w, true, 0, (.lit [(nat N), (ptr pu 0), (Value.slice (some ⟨m, 0, none⟩) (n - (dueP (e + 1) L)) c), (u64 b), (u64 (e + 1)), (u64 d)])⟩), (1, some ⟨pu, false, 0, (.lit [(Value.slice (some ⟨pr, 0, none⟩) (3 * N + 2) pc)])⟩), (2, some ⟨pr, true, 0, (tabF (3 * N + 2) (fun k => u64 (x1.2.2.2 k)))⟩), (3, some ⟨m, true, 0, (tabS c (popG ltP F n (dueP (e + 1) L)))⟩), (4, (gsE intC [int 0] 1 x1.1))], 5⟩ (.keep [0, 3, 13, 14, 15, 16, 17, 18, 19, 32] [0, 1, 2, 3, 4] 5 (.told ⟨[(0, .v (ptr w 0)), (3, .v (gsV x1.1)), (13, .v (ptr w 0)), (14, .v (ptr w 0)), (15, .v (ptr w 2)), (16, .v (Value.slice (some ⟨m, 0, none⟩) (n - (dueP (e + 1) L)) c)), (17, .v (nat (n - (dueP (e + 1) L)))), (18, .v (Value.bool (decide (0 < n - (dueP (e + 1) L))))), (19, .v (Value.bool (decide (0 < n - (dueP (e + 1) L))))), (32, .v (Value.bool (selB (decide (0 < n - (dueP (e + 1) L))) (decide (((popG ltP F n (dueP (e + 1) L) 0).e) ≤ (e + 1))) false)))], [(0, some ⟨w, true, 0, (.lit [(nat N), (ptr pu 0), (Value.slice (some ⟨m, 0, none⟩) (n - (dueP (e + 1) L)) c), (u64 b), (u64 (e + 1)), (u64 d)])⟩), (1, some ⟨pu, false, 0, (.lit [(Value.slice (some ⟨pr, 0, none⟩) (3 * N + 2) pc)])⟩), (2, some ⟨pr, true, 0, (tabF (3 * N + 2) (fun k => u64 (frG N L G (dueP (e + 1) L) k)))⟩), (3, some ⟨m, true, 0, (tabS c (popG ltP F n (dueP (e + 1) L)))⟩), (4, (gsE intC [int 0] 1 x1.1))], 5⟩ (.keep [0, 3, 13, 14, 15, 16, 17, 18, 19, 32] [0, 1, 2, 3, 4] 5 (.told ⟨[(0, .v (ptr w 0)), (3, .v (gsV (gsOf (dueP (e + 1) L) (fun k => (((L.getD k paZ).w : Nat) : Int)) x1.1.nm x1.1.r))), (13, .v (ptr w 0)), (14, .v (ptr w 0)), (15, .v (ptr w 2)), (16, .v (Value.slice (some ⟨m, 0, none⟩) (n - (dueP (e + 1) L)) c)), (17, .v (nat (n - (dueP (e + 1) L)))), (18, .v (Value.bool (decide (0 < n - (dueP (e + 1) L))))), (19, .v (Value.bool (decide (0 < n - (dueP (e + 1) L))))), (32, .v (Value.bool (selB (decide (0 < n - (dueP (e + 1) L))) (decide (((popG ltP F n (dueP (e + 1) L) 0).e) ≤ (e + 1))) false)))], [(0, some ⟨w, true, 0, (.lit [(nat N), (ptr pu 0), (Value.slice (some ⟨m, 0, none⟩) (n - (dueP (e + 1) L)) c), (u64 b), (u64 (e + 1)), (u64 d)])⟩), (1, some ⟨pu, false, 0, (.lit [(Value.slice (some ⟨pr, 0, none⟩) (3 * N + 2) pc)])⟩), (2, some ⟨pr, true, 0, (tabF (3 * N + 2) (fun k => u64 (frG N L G (dueP (e + 1) L) k)))⟩), (3, some ⟨m, true, 0, (tabS c (popG ltP F n (dueP (e + 1) L)))⟩), (4, (gsE intC [int 0] 1 (gsOf (dueP (e + 1) L) (fun k => (((L.getD k paZ).w : Nat) : Int)) x1.1.nm x1.1.r)))], 5⟩ (.regn (rg [.g, .g, .g, (.ld 0 (.lit 1)), (.call [(1, true)] 0 0 (fun _ => (nat (3 * N + 2))) (fun _ => [none])), (.oth [] 1 1 (fun ns => Value.slice (some ⟨ns.getD 0 0, 0, none⟩) (3 * N + 2) (3 * N + 2)) (fun ns => [some ⟨ns.getD 0 0, true, 0, (tabF (3 * N + 2) (fun k => u64 ((fun _ => 0) k)))⟩])), .g]) (more (fun n5 => fun _ => (.regn (rg [.g, .g, (.call [(0, true)] 0 0 (fun _ => (nat (1 * N + 0))) (fun _ => [none])), (.asf (slF 1)), .g, (.call [(0, true), (1, true), (2, true)] 1 1 (fun ns => Value.slice (some ⟨(ns.getD 0 0), 0, none⟩) N N) (fun ns => [none, none, none, some ⟨(ns.getD 0 0), true, 0, (tabF N (fun k => u64 (cutU (fun k => (frG N L G (dueP (e + 1) L)) (1 * N + k)) N k)))⟩])), (.oth [(5, false), (6, true)] 0 0 (fun _ => nat N) (fun _ => [some ⟨n5, true, 0, (tabF (3 * N + 2) (fun k => u64 (putU (fun _ => 0) (1 * N + 0) N (cutU (fun k => (frG N L G (dueP (e + 1) L)) (1 * N + k)) N) k)))⟩, none]))]) (more (fun n6 => fun _ => (.reg (rg [.g, .g, .g, (.ld 0 (.lit 1)), .g, (.call [(0, true)] 0 0 (fun _ => (nat (3 * N))) (fun _ => [none])), .g, (.call [(0, true)] 0 0 (fun _ => (nat (3 * N + 1))) (fun _ => [none])), .g, (.call [(1, true), (2, false), (5, true)] 0 0 (fun _ => (int (spreadE (3 * N + 2) ((3 * N : Nat) : Int) ((3 * N + 1 : Nat) : Int) (3 * N + 2)))) (fun _ => [none, some ⟨pr, true, 0, (tabF (3 * N + 2) (fun k => u64 (spreadF (3 * N + 2) (frG N L G (dueP (e + 1) L)) ((3 * N : Nat) : Int) ((3 * N + 1 : Nat) : Int) (3 * N + 2) (putU (fun _ => 0) (1 * N + 0) N (cutU (fun k => (frG N L G (dueP (e + 1) L)) (1 * N + k)) N)) k)))⟩, none]))]) (.reg (rg [.g, .g]) .done)))))))))))))))))))))))) [] [4] rfl
    (Eq.mp (by kernel_rfl) (aI kV1 (aI (sK3 (aI (aT (ad w 4)) (aI (aT (@is_add64 Try.prog 23 23 (.tmp 9) (.const (.int .u64 1)) e 1)) (sK2 (aI (aT (ad w 4)) tV))))) ((aI kV1 (aI (show (next_own_R1 w N pu pr pc b e d G m n c F L) (((Grw.mk true 0 0 0 (fun _ => 0)), n, F, G) : (Grw Int) × Nat × (Nat → PaR) × (Nat → UInt64)) from (show ((Grw.mk true 0 0 0 (fun _ => 0)).ok) ∧ (n = n - (Grw.mk true 0 0 0 (fun _ => 0)).n) ∧ (F = popG ltP F n (Grw.mk true 0 0 0 (fun _ => 0)).n) ∧ (G = frG N L G (Grw.mk true 0 0 0 (fun _ => 0)).n) ∧ (∀ k, k < (Grw.mk true 0 0 0 (fun _ => 0)).n → (Grw.mk true 0 0 0 (fun _ => 0)).f k = (((L.getD k paZ).w : Nat) : Int)) ∧ ((Grw.mk true 0 0 0 (fun _ => 0)).z = decide ((Grw.mk true 0 0 0 (fun _ => 0)).n = 0)) ∧ ((Grw.mk true 0 0 0 (fun _ => 0)).n ≤ (dueP (e + 1) L)) from by exact ⟨fun _ => rfl, rfl, rfl, rfl, fun k hk => absurd hk (Nat.not_lt_zero k), rfl, Nat.zero_le _⟩)) (aI (@rfl St ((next_own_S1 w N pu pr pc b e d G m n c F L) (((Grw.mk true 0 0 0 (fun _ => 0)), n, F, G) : (Grw Int) × Nat × (Nat → PaR) × (Nat → UInt64)))) (fun (x1 : (Grw Int) × Nat × (Nat → PaR) × (Nat → UInt64)) (hx1 : (next_own_R1 w N pu pr pc b e d G m n c F L) x1) => have B0 : x1.1.ok := hx1.1; have B1 : x1.2.1 = n - x1.1.n := hx1.2.1; have B2 : x1.2.2.1 = popG ltP F n x1.1.n := hx1.2.2.1; have B3 : x1.2.2.2 = frG N L G x1.1.n := hx1.2.2.2.1; have B4 : ∀ k, k < x1.1.n → x1.1.f k = (((L.getD k paZ).w : Nat) : Int) := hx1.2.2.2.2.1; have B5 : x1.1.z = decide (x1.1.n = 0) := hx1.2.2.2.2.2.1; have B6 : x1.1.n ≤ (dueP (e + 1) L) := hx1.2.2.2.2.2.2; aI (sK3 (aI (aT (ad w 2)) (aI (aT (@is_len Try.prog 52 77 (.tmp 16) (by kernel_rfl) (some ⟨m, 0, none⟩) x1.2.1 c)) (aI (aT (@is_gtrn Try.prog 3 3 (.tmp 17) (.const (.int .i64 0))  x1.2.1 0)) (sk (aI (fun (hg : (sameB (decide (0 < x1.2.1)) true) = true) => t2) (aI (fun (hg : (sameB (decide (0 < x1.2.1)) true) = true) => (aI (aI hg tV) tV)) (aI (fun (hg : (sameB (decide (0 < x1.2.1)) true) = true) => (aI (aI hg tV) tV)) (aI (fun (hg : (sameB (decide (0 < x1.2.1)) true) = true) => (aI (aI hg tV) (ad w 2))) (aI (fun (hg : (sameB (decide (0 < x1.2.1)) true) = true) => have f9 : (0 < x1.2.1) := (oT (sameB_t hg)); (aI (aI hg tV) (@is_ixSl Try.prog 52 77 (.tmp 23) (.const (.int .i64 0)) 4 (by kernel_rfl) (by kernel_rfl) m 0 x1.2.1 c 0 (show 0 < x1.2.1 from by omega)))) (aI (fun (hg : (sameB (decide (0 < x1.2.1)) true) = true) => (aI (aI hg tV) tV)) (aI (fun (hg : (sameB (decide (0 < x1.2.1)) true) = true) => have f9 : (0 < x1.2.1) := (oT (sameB_t hg)); (aI (aI hg tV) (aI (show 0 < c from by omega) (@rfl Value (ptr m (0 + 0 * 4 + 2)))))) (aI (fun (hg : (sameB (decide (0 < x1.2.1)) true) = true) => t2) (aI (fun (hg : (sameB (decide (0 < x1.2.1)) true) = true) => (aI (aI hg tV) tV)) (aI (fun (hg : (sameB (decide (0 < x1.2.1)) true) = true) => (aI (aI hg tV) tV)) (aI (fun (hg : (sameB (decide (0 < x1.2.1)) true) = true) => (aI (aI hg tV) (ad w 4))) (aI (fun (hg : (sameB (decide (0 < x1.2.1)) true) = true) => (aI (aI hg (aI hg tV)) (@is_leq64 Try.prog 23 23 (.tmp 26) (.tmp 30) ((x1.2.2.1 0).e) (e + 1)))) (aI (aT (aI (fun (hp : (decide (0 < x1.2.1)) = true) => (sameB_mk hp)) (fun (_ : (decide (0 < x1.2.1)) = false) => tV))) tV)))))))))))))))))) (aT (aI (fun (h1 : (selB (decide (0 < x1.2.1)) (decide (((x1.2.2.1 0).e) ≤ (e + 1))) false) = true) => have f9 : (0 < x1.2.1) := (oT (sband_l h1)); have f10 : (((x1.2.2.1 0).e) ≤ (e + 1)) := (oT (sband_r h1)); fun (n1 : Nat) => aI (sK4 (aI (aT (hpop_runs w (nat N) (ptr pu 0) (u64 b) (u64 (e + 1)) (u64 d) m x1.2.1 c x1.2.2.1 (show 0 < x1.2.1 ∧ x1.2.1 ≤ c ∧ x1.2.1 ≤ 1000000 from by have BY := (due_yes hs B6 B1 B2 (by assumption)); have BZ : (popF ltP x1.2.2.1 (x1.2.1 - 1) (x1.2.1 - 1)).w < N := (by rw [BY.2.2]; exact who_at hw (by have h9 := BY.2.1; have h8 := hs.len; omega)); omega))) (sK2 (aI (aT (ad n1 0)) tV)))) ((have BY := (due_yes hs B6 B1 B2 (by assumption)); have BZ : (popF ltP x1.2.2.1 (x1.2.1 - 1) (x1.2.1 - 1)).w < N := (by rw [BY.2.2]; exact who_at hw (by have h9 := BY.2.1; have h8 := hs.len; omega)); aI (sK3 (aI (aT (ad w 1)) (sK2 (aI (aT (ad n1 0)) (aI (aT (Runs.dark [true] (acct_runs w N (ptr pu 0) (Value.slice (some ⟨m, 0, none⟩) (x1.2.1 - 1) c) (u64 b) (u64 (e + 1)) (u64 d) 2 ((popF ltP x1.2.2.1 (x1.2.1 - 1) (x1.2.1 - 1)).w) (show 2 ≤ 2 from by omega) (show (popF ltP x1.2.2.1 (x1.2.1 - 1) (x1.2.1 - 1)).w < N from by omega) (show N ≤ 8 from by omega)))) (sK2 (aI (aT (ad n1 0)) (aI (aT (Runs.dark [true] (acct_runs w N (ptr pu 0) (Value.slice (some ⟨m, 0, none⟩) (x1.2.1 - 1) c) (u64 b) (u64 (e + 1)) (u64 d) 0 ((popF ltP x1.2.2.1 (x1.2.1 - 1) (x1.2.1 - 1)).w) (show 0 ≤ 2 from by omega) (show (popF ltP x1.2.2.1 (x1.2.1 - 1) (x1.2.1 - 1)).w < N from by omega) (show N ≤ 8 from by omega)))) (sk (aI (aT (ad n1 1)) (aI (aT (Runs.dark [true, false] (move_runs pu pr (3 * N + 2) pc x1.2.2.2 ((2 * N + ((popF ltP x1.2.2.1 (x1.2.1 - 1) (x1.2.1 - 1)).w) : Nat) : Int) ((0 * N + ((popF ltP x1.2.2.1 (x1.2.1 - 1) (x1.2.1 - 1)).w) : Nat) : Int) ((popF ltP x1.2.2.1 (x1.2.1 - 1) (x1.2.1 - 1)).a) (show (3 * N + 2) ≤ 40 from by omega)))) tV))))))))))) (fun (n2 n3 n4 : Nat) => aI (sK2 (aI (aT (ad n1 0)) (aI (aT (mk_build (P := Try.prog) (t := 35) (e := 3) one3 1 #[(0, (nat ((popF ltP x1.2.2.1 (x1.2.1 - 1) (x1.2.1 - 1)).w)))] #[(nat ((popF ltP x1.2.2.1 (x1.2.1 - 1) (x1.2.1 - 1)).w))] (by kernel_rfl) (by decide) (by kernel_rfl))) (aI (aT (mkG_catE (P := Try.prog) (t := 35) (ty := 35) (e := 3) (by kernel_rfl) agg3 x1.1 (show (x1.1).ok from by assumption) (fun a => intC_ok a) (fun _ => (((popF ltP x1.2.2.1 (x1.2.1 - 1) (x1.2.1 - 1)).w : Nat) : Int)) 1 (some ⟨n2, 0, none⟩) 1 (some ⟨n2, false, 0, (.lit [(nat ((popF ltP x1.2.2.1 (x1.2.1 - 1) (x1.2.1 - 1)).w))])⟩) (fun _ => ⟨_, _, _, _, rfl, rfl, (lit_src (sz := 1) (l := intC (((popF ltP x1.2.2.1 (x1.2.1 - 1) (x1.2.1 - 1)).w : Nat) : Int)) rfl)⟩) (show (x1.1.n + 1) * 8 ≤ 140737488355328 ∧ x1.1.n + 1 ≤ 9223372036854775807 from by omega))) kV1)))) ((rnd (next_own_R1 w N pu pr pc b e d G m n c F L) (next_own_S1 w N pu pr pc b e d G m n c F L) (next_own_mu1 w N pu pr pc b e d G m n c F L) x1 ((Grw.mk false n3 (x1.1.n + 1) n4 (catU x1.1.f x1.1.n (fun _ => (((popF ltP x1.2.2.1 (x1.2.1 - 1) (x1.2.1 - 1)).w : Nat) : Int))), x1.2.1 - 1, popF ltP x1.2.2.1 (x1.2.1 - 1), (moveF (3 * N + 2) x1.2.2.2 ((2 * N + ((popF ltP x1.2.2.1 (x1.2.1 - 1) (x1.2.1 - 1)).w) : Nat) : Int) ((0 * N + ((popF ltP x1.2.2.1 (x1.2.1 - 1) (x1.2.1 - 1)).w) : Nat) : Int) ((popF ltP x1.2.2.1 (x1.2.1 - 1) (x1.2.1 - 1)).a))) : (Grw Int) × Nat × (Nat → PaR) × (Nat → UInt64)) (show (next_own_R1 w N pu pr pc b e d G m n c F L) ((Grw.mk false n3 (x1.1.n + 1) n4 (catU x1.1.f x1.1.n (fun _ => (((popF ltP x1.2.2.1 (x1.2.1 - 1) (x1.2.1 - 1)).w : Nat) : Int))), x1.2.1 - 1, popF ltP x1.2.2.1 (x1.2.1 - 1), (moveF (3 * N + 2) x1.2.2.2 ((2 * N + ((popF ltP x1.2.2.1 (x1.2.1 - 1) (x1.2.1 - 1)).w) : Nat) : Int) ((0 * N + ((popF ltP x1.2.2.1 (x1.2.1 - 1) (x1.2.1 - 1)).w) : Nat) : Int) ((popF ltP x1.2.2.1 (x1.2.1 - 1) (x1.2.1 - 1)).a))) : (Grw Int) × Nat × (Nat → PaR) × (Nat → UInt64)) ∧ (next_own_mu1 w N pu pr pc b e d G m n c F L) ((Grw.mk false n3 (x1.1.n + 1) n4 (catU x1.1.f x1.1.n (fun _ => (((popF ltP x1.2.2.1 (x1.2.1 - 1) (x1.2.1 - 1)).w : Nat) : Int))), x1.2.1 - 1, popF ltP x1.2.2.1 (x1.2.1 - 1), (moveF (3 * N + 2) x1.2.2.2 ((2 * N + ((popF ltP x1.2.2.1 (x1.2.1 - 1) (x1.2.1 - 1)).w) : Nat) : Int) ((0 * N + ((popF ltP x1.2.2.1 (x1.2.1 - 1) (x1.2.1 - 1)).w) : Nat) : Int) ((popF ltP x1.2.2.1 (x1.2.1 - 1) (x1.2.1 - 1)).a))) : (Grw Int) × Nat × (Nat → PaR) × (Nat → UInt64)) < (next_own_mu1 w N pu pr pc b e d G m n c F L) x1 from (show (((Grw.mk false n3 (x1.1.n + 1) n4 (catU x1.1.f x1.1.n (fun _ => (((popF ltP x1.2.2.1 (x1.2.1 - 1) (x1.2.1 - 1)).w : Nat) : Int)))).ok) ∧ ((x1.2.1 - 1) = n - (Grw.mk false n3 (x1.1.n + 1) n4 (catU x1.1.f x1.1.n (fun _ => (((popF ltP x1.2.2.1 (x1.2.1 - 1) (x1.2.1 - 1)).w : Nat) : Int)))).n) ∧ ((popF ltP x1.2.2.1 (x1.2.1 - 1)) = popG ltP F n (Grw.mk false n3 (x1.1.n + 1) n4 (catU x1.1.f x1.1.n (fun _ => (((popF ltP x1.2.2.1 (x1.2.1 - 1) (x1.2.1 - 1)).w : Nat) : Int)))).n) ∧ ((moveF (3 * N + 2) x1.2.2.2 ((2 * N + ((popF ltP x1.2.2.1 (x1.2.1 - 1) (x1.2.1 - 1)).w) : Nat) : Int) ((0 * N + ((popF ltP x1.2.2.1 (x1.2.1 - 1) (x1.2.1 - 1)).w) : Nat) : Int) ((popF ltP x1.2.2.1 (x1.2.1 - 1) (x1.2.1 - 1)).a)) = frG N L G (Grw.mk false n3 (x1.1.n + 1) n4 (catU x1.1.f x1.1.n (fun _ => (((popF ltP x1.2.2.1 (x1.2.1 - 1) (x1.2.1 - 1)).w : Nat) : Int)))).n) ∧ (∀ k, k < (Grw.mk false n3 (x1.1.n + 1) n4 (catU x1.1.f x1.1.n (fun _ => (((popF ltP x1.2.2.1 (x1.2.1 - 1) (x1.2.1 - 1)).w : Nat) : Int)))).n → (Grw.mk false n3 (x1.1.n + 1) n4 (catU x1.1.f x1.1.n (fun _ => (((popF ltP x1.2.2.1 (x1.2.1 - 1) (x1.2.1 - 1)).w : Nat) : Int)))).f k = (((L.getD k paZ).w : Nat) : Int)) ∧ ((Grw.mk false n3 (x1.1.n + 1) n4 (catU x1.1.f x1.1.n (fun _ => (((popF ltP x1.2.2.1 (x1.2.1 - 1) (x1.2.1 - 1)).w : Nat) : Int)))).z = decide ((Grw.mk false n3 (x1.1.n + 1) n4 (catU x1.1.f x1.1.n (fun _ => (((popF ltP x1.2.2.1 (x1.2.1 - 1) (x1.2.1 - 1)).w : Nat) : Int)))).n = 0)) ∧ ((Grw.mk false n3 (x1.1.n + 1) n4 (catU x1.1.f x1.1.n (fun _ => (((popF ltP x1.2.2.1 (x1.2.1 - 1) (x1.2.1 - 1)).w : Nat) : Int)))).n ≤ (dueP (e + 1) L))) ∧ (x1.2.1 - 1) < x1.2.1 from by exact ⟨⟨fun h => (by cases h), by show _ = n - (_ + 1); omega, by rw [B2, B1] <;> rfl, by rw [B3, BY.2.2] <;> rfl, fun k hk => nx_cat B4 (by rw [BY.2.2]) k hk, by simp, by have := BY.1; show _ + 1 ≤ _; omega⟩, by have := BY.2.1; omega⟩)))))))) (fun (h1 : (selB (decide (0 < x1.2.1)) (decide (((x1.2.2.1 0).e) ≤ (e + 1))) false) = false) => have f9 : (¬ (0 < x1.2.1)) ∨ (¬ (((x1.2.2.1 0).e) ≤ (e + 1))) := (Or.imp (fun h => (oF h)) (fun h => (oF h)) (sband_f h1)); aI (show (⟨[(0, .v (ptr w 0)), (3, .v (gsV x1.1)), (13, .v (ptr w 0)), (14, .v (ptr w 0)), (15, .v (ptr w 2)), (16, .v (Value.slice (some ⟨m, 0, none⟩) x1.2.1 c)), (17, .v (nat x1.2.1)), (18, .v (Value.bool (decide (0 < x1.2.1)))), (19, .v (Value.bool (decide (0 < x1.2.1)))), (32, .v (Value.bool (selB (decide (0 < x1.2.1)) (decide (((x1.2.2.1 0).e) ≤ (e + 1))) false)))], [(0, some ⟨w, true, 0, (.lit [(nat N), (ptr pu 0), (Value.slice (some ⟨m, 0, none⟩) x1.2.1 c), (u64 b), (u64 (e + 1)), (u64 d)])⟩), (1, some ⟨pu, false, 0, (.lit [(Value.slice (some ⟨pr, 0, none⟩) (3 * N + 2) pc)])⟩), (2, some ⟨pr, true, 0, (tabF (3 * N + 2) (fun k => u64 (x1.2.2.2 k)))⟩), (3, some ⟨m, true, 0, (tabS c x1.2.2.1)⟩), (4, (gsE intC [int 0] 1 x1.1))], 5⟩ : St) = ⟨[(0, .v (ptr w 0)), (3, .v (gsV x1.1)), (13, .v (ptr w 0)), (14, .v (ptr w 0)), (15, .v (ptr w 2)), (16, .v (Value.slice (some ⟨m, 0, none⟩) (n - (dueP (e + 1) L)) c)), (17, .v (nat (n - (dueP (e + 1) L)))), (18, .v (Value.bool (decide (0 < n - (dueP (e + 1) L))))), (19, .v (Value.bool (decide (0 < n - (dueP (e + 1) L))))), (32, .v (Value.bool (selB (decide (0 < n - (dueP (e + 1) L))) (decide (((x1.2.2.1 0).e) ≤ (e + 1))) false)))], [(0, some ⟨w, true, 0, (.lit [(nat N), (ptr pu 0), (Value.slice (some ⟨m, 0, none⟩) (n - (dueP (e + 1) L)) c), (u64 b), (u64 (e + 1)), (u64 d)])⟩), (1, some ⟨pu, false, 0, (.lit [(Value.slice (some ⟨pr, 0, none⟩) (3 * N + 2) pc)])⟩), (2, some ⟨pr, true, 0, (tabF (3 * N + 2) (fun k => u64 (x1.2.2.2 k)))⟩), (3, some ⟨m, true, 0, (tabS c x1.2.2.1)⟩), (4, (gsE intC [int 0] 1 x1.1))], 5⟩ from by have EA := (due_no hs B6 B1 B2 (by assumption)); have ee : x1.2.1 = n - (dueP (e + 1) L) := (by rw [B1, EA]); rw [ee]) (aI (show (⟨[(0, .v (ptr w 0)), (3, .v (gsV x1.1)), (13, .v (ptr w 0)), (14, .v (ptr w 0)), (15, .v (ptr w 2)), (16, .v (Value.slice (some ⟨m, 0, none⟩) (n - (dueP (e + 1) L)) c)), (17, .v (nat (n - (dueP (e + 1) L)))), (18, .v (Value.bool (decide (0 < n - (dueP (e + 1) L))))), (19, .v (Value.bool (decide (0 < n - (dueP (e + 1) L))))), (32, .v (Value.bool (selB (decide (0 < n - (dueP (e + 1) L))) (decide (((x1.2.2.1 0).e) ≤ (e + 1))) false)))], [(0, some ⟨w, true, 0, (.lit [(nat N), (ptr pu 0), (Value.slice (some ⟨m, 0, none⟩) (n - (dueP (e + 1) L)) c), (u64 b), (u64 (e + 1)), (u64 d)])⟩), (1, some ⟨pu, false, 0, (.lit [(Value.slice (some ⟨pr, 0, none⟩) (3 * N + 2) pc)])⟩), (2, some ⟨pr, true, 0, (tabF (3 * N + 2) (fun k => u64 (x1.2.2.2 k)))⟩), (3, some ⟨m, true, 0, (tabS c x1.2.2.1)⟩), (4, (gsE intC [int 0] 1 x1.1))], 5⟩ : St) = ⟨[(0, .v (ptr w 0)), (3, .v (gsV x1.1)), (13, .v (ptr w 0)), (14, .v (ptr w 0)), (15, .v (ptr w 2)), (16, .v (Value.slice (some ⟨m, 0, none⟩) (n - (dueP (e + 1) L)) c)), (17, .v (nat (n - (dueP (e + 1) L)))), (18, .v (Value.bool (decide (0 < n - (dueP (e + 1) L))))), (19, .v (Value.bool (decide (0 < n - (dueP (e + 1) L))))), (32, .v (Value.bool (selB (decide (0 < n - (dueP (e + 1) L))) (decide (((popG ltP F n (dueP (e + 1) L) 0).e) ≤ (e + 1))) false)))], [(0, some ⟨w, true, 0, (.lit [(nat N), (ptr pu 0), (Value.slice (some ⟨m, 0, none⟩) (n - (dueP (e + 1) L)) c), (u64 b), (u64 (e + 1)), (u64 d)])⟩), (1, some ⟨pu, false, 0, (.lit [(Value.slice (some ⟨pr, 0, none⟩) (3 * N + 2) pc)])⟩), (2, some ⟨pr, true, 0, (tabF (3 * N + 2) (fun k => u64 (x1.2.2.2 k)))⟩), (3, some ⟨m, true, 0, (tabS c (popG ltP F n (dueP (e + 1) L)))⟩), (4, (gsE intC [int 0] 1 x1.1))], 5⟩ from by have EA := (due_no hs B6 B1 B2 (by assumption)); have ee : x1.2.2.1 = popG ltP F n (dueP (e + 1) L) := (by rw [B2, EA]); rw [ee]) (aI (show (⟨[(0, .v (ptr w 0)), (3, .v (gsV x1.1)), (13, .v (ptr w 0)), (14, .v (ptr w 0)), (15, .v (ptr w 2)), (16, .v (Value.slice (some ⟨m, 0, none⟩) (n - (dueP (e + 1) L)) c)), (17, .v (nat (n - (dueP (e + 1) L)))), (18, .v (Value.bool (decide (0 < n - (dueP (e + 1) L))))), (19, .v (Value.bool (decide (0 < n - (dueP (e + 1) L))))), (32, .v (Value.bool (selB (decide (0 < n - (dueP (e + 1) L))) (decide (((popG ltP F n (dueP (e + 1) L) 0).e) ≤ (e + 1))) false)))], [(0, some ⟨w, true, 0, (.lit [(nat N), (ptr pu 0), (Value.slice (some ⟨m, 0, none⟩) (n - (dueP (e + 1) L)) c), (u64 b), (u64 (e + 1)), (u64 d)])⟩), (1, some ⟨pu, false, 0, (.lit [(Value.slice (some ⟨pr, 0, none⟩) (3 * N + 2) pc)])⟩), (2, some ⟨pr, true, 0, (tabF (3 * N + 2) (fun k => u64 (x1.2.2.2 k)))⟩), (3, some ⟨m, true, 0, (tabS c (popG ltP F n (dueP (e + 1) L)))⟩), (4, (gsE intC [int 0] 1 x1.1))], 5⟩ : St) = ⟨[(0, .v (ptr w 0)), (3, .v (gsV x1.1)), (13, .v (ptr w 0)), (14, .v (ptr w 0)), (15, .v (ptr w 2)), (16, .v (Value.slice (some ⟨m, 0, none⟩) (n - (dueP (e + 1) L)) c)), (17, .v (nat (n - (dueP (e + 1) L)))), (18, .v (Value.bool (decide (0 < n - (dueP (e + 1) L))))), (19, .v (Value.bool (decide (0 < n - (dueP (e + 1) L))))), (32, .v (Value.bool (selB (decide (0 < n - (dueP (e + 1) L))) (decide (((popG ltP F n (dueP (e + 1) L) 0).e) ≤ (e + 1))) false)))], [(0, some ⟨w, true, 0, (.lit [(nat N), (ptr pu 0), (Value.slice (some ⟨m, 0, none⟩) (n - (dueP (e + 1) L)) c), (u64 b), (u64 (e + 1)), (u64 d)])⟩), (1, some ⟨pu, false, 0, (.lit [(Value.slice (some ⟨pr, 0, none⟩) (3 * N + 2) pc)])⟩), (2, some ⟨pr, true, 0, (tabF (3 * N + 2) (fun k => u64 (frG N L G (dueP (e + 1) L) k)))⟩), (3, some ⟨m, true, 0, (tabS c (popG ltP F n (dueP (e + 1) L)))⟩), (4, (gsE intC [int 0] 1 x1.1))], 5⟩ from by have EA := (due_no hs B6 B1 B2 (by assumption)); have ee : x1.2.2.2 = frG N L G (dueP (e + 1) L) := (by rw [B3, EA]); rw [ee]) (aI (show (⟨[(0, .v (ptr w 0)), (3, .v (gsV x1.1)), (13, .v (ptr w 0)), (14, .v (ptr w 0)), (15, .v (ptr w 2)), (16, .v (Value.slice (some ⟨m, 0, none⟩) (n - (dueP (e + 1) L)) c)), (17, .v (nat (n - (dueP (e + 1) L)))), (18, .v (Value.bool (decide (0 < n - (dueP (e + 1) L))))), (19, .v (Value.bool (decide (0 < n - (dueP (e + 1) L))))), (32, .v (Value.bool (selB (decide (0 < n - (dueP (e + 1) L))) (decide (((popG ltP F n (dueP (e + 1) L) 0).e) ≤ (e + 1))) false)))], [(0, some ⟨w, true, 0, (.lit [(nat N), (ptr pu 0), (Value.slice (some ⟨m, 0, none⟩) (n - (dueP (e + 1) L)) c), (u64 b), (u64 (e + 1)), (u64 d)])⟩), (1, some ⟨pu, false, 0, (.lit [(Value.slice (some ⟨pr, 0, none⟩) (3 * N + 2) pc)])⟩), (2, some ⟨pr, true, 0, (tabF (3 * N + 2) (fun k => u64 (frG N L G (dueP (e + 1) L) k)))⟩), (3, some ⟨m, true, 0, (tabS c (popG ltP F n (dueP (e + 1) L)))⟩), (4, (gsE intC [int 0] 1 x1.1))], 5⟩ : St) = ⟨[(0, .v (ptr w 0)), (3, .v (gsV (gsOf (dueP (e + 1) L) (fun k => (((L.getD k paZ).w : Nat) : Int)) x1.1.nm x1.1.r))), (13, .v (ptr w 0)), (14, .v (ptr w 0)), (15, .v (ptr w 2)), (16, .v (Value.slice (some ⟨m, 0, none⟩) (n - (dueP (e + 1) L)) c)), (17, .v (nat (n - (dueP (e + 1) L)))), (18, .v (Value.bool (decide (0 < n - (dueP (e + 1) L))))), (19, .v (Value.bool (decide (0 < n - (dueP (e + 1) L))))), (32, .v (Value.bool (selB (decide (0 < n - (dueP (e + 1) L))) (decide (((popG ltP F n (dueP (e + 1) L) 0).e) ≤ (e + 1))) false)))], [(0, some ⟨w, true, 0, (.lit [(nat N), (ptr pu 0), (Value.slice (some ⟨m, 0, none⟩) (n - (dueP (e + 1) L)) c), (u64 b), (u64 (e + 1)), (u64 d)])⟩), (1, some ⟨pu, false, 0, (.lit [(Value.slice (some ⟨pr, 0, none⟩) (3 * N + 2) pc)])⟩), (2, some ⟨pr, true, 0, (tabF (3 * N + 2) (fun k => u64 (frG N L G (dueP (e + 1) L) k)))⟩), (3, some ⟨m, true, 0, (tabS c (popG ltP F n (dueP (e + 1) L)))⟩), (4, (gsE intC [int 0] 1 (gsOf (dueP (e + 1) L) (fun k => (((L.getD k paZ).w : Nat) : Int)) x1.1.nm x1.1.r)))], 5⟩ from by have EA := (due_no hs B6 B1 B2 (by assumption)); have gt := (gs_tell (C := intC) (zc := [int 0]) (sz := 1) (A := x1.1) (S := (dueP (e + 1) L)) (F := (fun k => (((L.getD k paZ).w : Nat) : Int))) EA (by rw [B5, EA]) (fun j hj => B4 j (by omega))); rw [gt.1, gt.2]) (fun (n5 : Nat) => aI (sK3 (aI (aT (ad w 1)) (aI (aT (Runs.dark [true] (plen_runs pu pr (3 * N + 2) pc))) (aI (aT (mk_make (P := Try.prog) (t := 22) (e := 23) (by kernel_rfl) one23 (3 * N + 2) (show (8 : Int) * ((3 * N + 2 : Nat) : Int) ≤ 281474976710656 ∧ 3 * N + 2 ≤ 9223372036854775807 from by have EA := (due_no hs B6 B1 B2 (by assumption)); omega))) kV1)))) ((have EA := (due_no hs B6 B1 B2 (by assumption)); fun (n6 : Nat) => aI (sK2 (aI (aT (Runs.dark [true] (acct_runs w N (ptr pu 0) (Value.slice (some ⟨m, 0, none⟩) (n - (dueP (e + 1) L)) c) (u64 b) (u64 (e + 1)) (u64 d) 1 0 (show 1 ≤ 2 from by omega) (show 0 < N from by omega) (show N ≤ 8 from by omega)))) (aI (aT (@is_slqFrom Try.prog 22 23 (.tmp 65) (.tmp 67) (by kernel_rfl) 1 (by kernel_rfl) (some ⟨n5, 0, none⟩) (3 * N + 2) (3 * N + 2) (1 * N + 0) (show 1 * N + 0 ≤ 3 * N + 2 ∧ 3 * N + 2 ≤ 3 * N + 2 from by omega))) (sk (aI (aT (Runs.dark [true, true, true] (lstakes_runs w N pu pr pc (some ⟨m, 0, none⟩) (n - (dueP (e + 1) L)) c b (e + 1) d (frG N L G (dueP (e + 1) L)) (show N ≤ 8 from by omega)))) (aI (aT (SRuns.dark [false, true] (srun_copyA (P := Try.prog) (dT := 22) (sT := 22) (ty := 3) (e := 23) (by kernel_rfl) (by kernel_rfl) n5 n6 (3 * N + 2) N (1 * N + 0) (3 * N + 2) 0 N (fun _ => 0) (cutU (fun k => (frG N L G (dueP (e + 1) L)) (1 * N + k)) N) (show 1 * N + 0 + N ≤ 3 * N + 2 ∧ 1 * N + 0 < 3 * N + 2 ∧ 3 * N + 2 ≤ (3 * N + 2) from by omega)))) tV)))))) (aI (sK3 (aI (aT (ad w 1)) (sk (aI (aT (Runs.dark [true] (lpot_runs w N (ptr pu 0) (Value.slice (some ⟨m, 0, none⟩) (n - (dueP (e + 1) L)) c) (u64 b) (u64 (e + 1)) (u64 d) (show N ≤ 8 from by omega)))) (sk (aI (aT (Runs.dark [true] (ltre_runs w N (ptr pu 0) (Value.slice (some ⟨m, 0, none⟩) (n - (dueP (e + 1) L)) c) (u64 b) (u64 (e + 1)) (u64 d) (show N ≤ 8 from by omega)))) (sk (aI (aT (Runs.dark [true, false, true] (spread_runs pu pr (3 * N + 2) pc (frG N L G (dueP (e + 1) L)) ((3 * N : Nat) : Int) ((3 * N + 1 : Nat) : Int) n5 0 (3 * N + 2) (3 * N + 2) (putU (fun _ => 0) (1 * N + 0) N (cutU (fun k => (frG N L G (dueP (e + 1) L)) (1 * N + k)) N)) (show (3 * N + 2) ≤ 40 ∧ (3 * N + 2) ≤ 9223372036854775807 from by omega)))) tV)))))))) (aI kV2 (aT (eX (fun (ns : List Nat) => ns.length = 2 ∧ ((gsV (gsOf (dueP (e + 1) L) (fun k => (((L.getD k paZ).w : Nat) : Int)) x1.1.nm x1.1.r)) : Value) = (fun (ns : List Nat) => (gsV (gsOf (dueP (e + 1) L) (fun k => (((L.getD k paZ).w : Nat) : Int)) (ns.getD 0 0) (ns.getD 1 0)))) ns ∧ ([some ⟨w, true, 0, (.lit [(nat N), (ptr pu 0), (Value.slice (some ⟨m, 0, none⟩) (n - (dueP (e + 1) L)) c), (u64 b), (u64 (e + 1)), (u64 d)])⟩, some ⟨pu, false, 0, (.lit [(Value.slice (some ⟨pr, 0, none⟩) (3 * N + 2) pc)])⟩, some ⟨pr, true, 0, (tabF (3 * N + 2) (fun k => u64 (spreadF (3 * N + 2) (frG N L G (dueP (e + 1) L)) ((3 * N : Nat) : Int) ((3 * N + 1 : Nat) : Int) (3 * N + 2) (putU (fun _ => 0) (1 * N + 0) N (cutU (fun k => (frG N L G (dueP (e + 1) L)) (1 * N + k)) N)) k)))⟩, some ⟨m, true, 0, (tabS c (popG ltP F n (dueP (e + 1) L)))⟩, (gsE intC [int 0] 1 (gsOf (dueP (e + 1) L) (fun k => (((L.getD k paZ).w : Nat) : Int)) x1.1.nm x1.1.r))] : List (Option Blk)) = (fun (ns : List Nat) => [some ⟨w, true, 0, (.lit [(nat N), (ptr pu 0), (Value.slice (some ⟨m, 0, none⟩) (n - (dueP (e + 1) L)) c), (u64 b), (u64 (e + 1)), (u64 d)])⟩, some ⟨pu, false, 0, (.lit [(Value.slice (some ⟨pr, 0, none⟩) (3 * N + 2) pc)])⟩, some ⟨pr, true, 0, (tabF (3 * N + 2) (fun k => u64 (spreadF (3 * N + 2) (frG N L G (dueP (e + 1) L)) ((3 * N : Nat) : Int) ((3 * N + 1 : Nat) : Int) (3 * N + 2) (putU (fun _ => 0) (1 * N + 0) N (cutU (fun k => (frG N L G (dueP (e + 1) L)) (1 * N + k)) N)) k)))⟩, some ⟨m, true, 0, (tabS c (popG ltP F n (dueP (e + 1) L)))⟩, (gsE intC [int 0] 1 (gsOf (dueP (e + 1) L) (fun k => (((L.getD k paZ).w : Nat) : Int)) (ns.getD 0 0) (ns.getD 1 0)))]) ns) [(gsOf (dueP (e + 1) L) (fun k => (((L.getD k paZ).w : Nat) : Int)) x1.1.nm x1.1.r).nm, (gsOf (dueP (e + 1) L) (fun k => (((L.getD k paZ).w : Nat) : Int)) x1.1.nm x1.1.r).r] (aI (@rfl Nat 2) (aI ((show ((gsV (gsOf (dueP (e + 1) L) (fun k => (((L.getD k paZ).w : Nat) : Int)) x1.1.nm x1.1.r)) : Value) = (gsV (gsOf (dueP (e + 1) L) (fun k => (((L.getD k paZ).w : Nat) : Int)) (gsOf (dueP (e + 1) L) (fun k => (((L.getD k paZ).w : Nat) : Int)) x1.1.nm x1.1.r).nm (gsOf (dueP (e + 1) L) (fun k => (((L.getD k paZ).w : Nat) : Int)) x1.1.nm x1.1.r).r)) from by first | rw [((gs_tell (C := intC) (zc := [int 0]) (sz := 1) (A := (gsOf (dueP (e + 1) L) (fun k => (((L.getD k paZ).w : Nat) : Int)) x1.1.nm x1.1.r)) (S := (dueP (e + 1) L)) (F := (fun k => (((L.getD k paZ).w : Nat) : Int))) rfl rfl (fun _ _ => rfl))).1] | (rfl))) ((show ([some ⟨w, true, 0, (.lit [(nat N), (ptr pu 0), (Value.slice (some ⟨m, 0, none⟩) (n - (dueP (e + 1) L)) c), (u64 b), (u64 (e + 1)), (u64 d)])⟩, some ⟨pu, false, 0, (.lit [(Value.slice (some ⟨pr, 0, none⟩) (3 * N + 2) pc)])⟩, some ⟨pr, true, 0, (tabF (3 * N + 2) (fun k => u64 (spreadF (3 * N + 2) (frG N L G (dueP (e + 1) L)) ((3 * N : Nat) : Int) ((3 * N + 1 : Nat) : Int) (3 * N + 2) (putU (fun _ => 0) (1 * N + 0) N (cutU (fun k => (frG N L G (dueP (e + 1) L)) (1 * N + k)) N)) k)))⟩, some ⟨m, true, 0, (tabS c (popG ltP F n (dueP (e + 1) L)))⟩, (gsE intC [int 0] 1 (gsOf (dueP (e + 1) L) (fun k => (((L.getD k paZ).w : Nat) : Int)) x1.1.nm x1.1.r))] : List (Option Blk)) = [some ⟨w, true, 0, (.lit [(nat N), (ptr pu 0), (Value.slice (some ⟨m, 0, none⟩) (n - (dueP (e + 1) L)) c), (u64 b), (u64 (e + 1)), (u64 d)])⟩, some ⟨pu, false, 0, (.lit [(Value.slice (some ⟨pr, 0, none⟩) (3 * N + 2) pc)])⟩, some ⟨pr, true, 0, (tabF (3 * N + 2) (fun k => u64 (spreadF (3 * N + 2) (frG N L G (dueP (e + 1) L)) ((3 * N : Nat) : Int) ((3 * N + 1 : Nat) : Int) (3 * N + 2) (putU (fun _ => 0) (1 * N + 0) N (cutU (fun k => (frG N L G (dueP (e + 1) L)) (1 * N + k)) N)) k)))⟩, some ⟨m, true, 0, (tabS c (popG ltP F n (dueP (e + 1) L)))⟩, (gsE intC [int 0] 1 (gsOf (dueP (e + 1) L) (fun k => (((L.getD k paZ).w : Nat) : Int)) (gsOf (dueP (e + 1) L) (fun k => (((L.getD k paZ).w : Nat) : Int)) x1.1.nm x1.1.r).nm (gsOf (dueP (e + 1) L) (fun k => (((L.getD k paZ).w : Nat) : Int)) x1.1.nm x1.1.r).r))] from by first | rw [((gs_tell (C := intC) (zc := [int 0]) (sz := 1) (A := (gsOf (dueP (e + 1) L) (fun k => (((L.getD k paZ).w : Nat) : Int)) x1.1.nm x1.1.r)) (S := (dueP (e + 1) L)) (F := (fun k => (((L.getD k paZ).w : Nat) : Int))) rfl rfl (fun _ _ => rfl))).1, ((gs_tell (C := intC) (zc := [int 0]) (sz := 1) (A := (gsOf (dueP (e + 1) L) (fun k => (((L.getD k paZ).w : Nat) : Int)) x1.1.nm x1.1.r)) (S := (dueP (e + 1) L)) (F := (fun k => (((L.getD k paZ).w : Nat) : Int))) rfl rfl (fun _ _ => rfl))).2] | rw [((gs_tell (C := intC) (zc := [int 0]) (sz := 1) (A := (gsOf (dueP (e + 1) L) (fun k => (((L.getD k paZ).w : Nat) : Int)) x1.1.nm x1.1.r)) (S := (dueP (e + 1) L)) (F := (fun k => (((L.getD k paZ).w : Nat) : Int))) rfl rfl (fun _ _ => rfl))).2])))))))))))))))))))))))))
end Go.Proofs.Ytchkbchbfilipaa
end
section
namespace Go.Proofs.Ytchkbchbfilipaa
open Go Go.Eng
theorem snew_z (ao : Option Addr) (q : Nat) (d : UInt64) : Runs Try.prog 8 [(Value.slice ao 0 q), (u64 d)] [] 0 (fun _ => Value.tuple #[.pointer none, int 2]) (fun _ => []) :=
  runs_of_ev mix Try.func8 rfl rfl 400 (.reg (rg [.g, .g]) (.reg (rg [.g, (.as (int 0)), .g]) (.reg (rg [.g, .g, .g, .skip, .skip, .pk, .g, .skip, .skip, .pk]) (.yes (.reg (rg [.g, .g]) .done))))) [] [] rfl
    (Eq.mp (by kernel_rfl) (aI kV2 (aI (sk (aI (aT (@is_len Try.prog 22 23 (.tmp 11) (by kernel_rfl) ao 0 q)) kV1)) (aI (sK3 (aI (@rfl Bool false) (aI (@rfl Bool false) (aI (aT (aI (fun (_ : true = true) => tV) (fun (_ : true = false) => tV))) (sk (aI (@rfl Bool false) (aI (@rfl Bool false) (aI (aT (aI (fun (_ : true = true) => tV) (fun (_ : true = false) => tV))) tV)))))))) (aT (aI (@rfl Bool true) (aI kV2 (aT (eX (fun (ns : List Nat) => ns.length = 0 ∧ ((Value.tuple #[(Value.pointer none), (int 2)]) : Value) = (fun _ => Value.tuple #[.pointer none, int 2]) ns ∧ ([] : List (Option Blk)) = (fun _ => []) ns) [] (aI (@rfl Nat 0) (aI (@rfl Value (Value.tuple #[.pointer none, int 2])) (@rfl (List (Option Blk)) []))))))))))))
theorem snew_long (p o n q : Nat) (f : Nat → UInt64) (d : UInt64) (hn : 0 < n ∧ n ≤ 9223372036854775807) (h : 8 < n ∨ 100 < d) : Runs Try.prog 8 [(Value.slice (some ⟨p, o, none⟩) n q), (u64 d)] [⟨p, false, o, (tabF n (fun k => u64 (f k)))⟩] 0 (fun _ => Value.tuple #[.pointer none, int 2]) (fun _ => [some ⟨p, false, o, (tabF n (fun k => u64 (f k)))⟩]) :=
  runs_of_ev mix Try.func8 rfl rfl 400 (.reg (rg [.g, .g]) (.reg (rg [.g, (.as (nat n)), .g]) (.reg (rg [.g, (.as (Value.bool (decide (n < 1)))), .g, (.opt .g), (.opt (.as (Value.bool (decide (8 < n))))), .pk, .g, (.opt .g), (.opt (.as (Value.bool (decide (100 < d))))), .pk]) (.yes (.reg (rg [.g, .g]) .done))))) [] [] rfl
    (Eq.mp (by kernel_rfl) (aI kV2 (aI (sk (aI (aT (@is_len Try.prog 22 23 (.tmp 11) (by kernel_rfl) (some ⟨p, o, none⟩) n q)) kV1)) (aI (sk (aI (aT (@is_lssn Try.prog 3 3 (.tmp 13) (.const (.int .i64 1))  n 1)) (sk (aI (fun (hg : (sameB (decide (n < 1)) false) = true) => t2) (aI (fun (hg : (sameB (decide (n < 1)) false) = true) => (aI (aI hg tV) (@is_gtrn Try.prog 3 3 (.tmp 16) (.const (.int .i64 8))  n 8))) (aI (aT (aI (fun (_ : (decide (n < 1)) = true) => tV) (fun (hp : (decide (n < 1)) = false) => (sameB_mkf hp)))) (sk (aI (fun (hg : (sameB (selB (decide (n < 1)) true (decide (8 < n))) false) = true) => t2) (aI (fun (hg : (sameB (selB (decide (n < 1)) true (decide (8 < n))) false) = true) => (aI (aI hg tV) (@is_gtr64 Try.prog 23 23 (.tmp 20) (.const (.int .u64 100)) d 100))) (aI (aT (aI (fun (_ : (selB (decide (n < 1)) true (decide (8 < n))) = true) => tV) (fun (hp : (selB (decide (n < 1)) true (decide (8 < n))) = false) => (sameB_mkf hp)))) tV)))))))))) ((fun (hp1 : (selB (selB (decide (n < 1)) true (decide (8 < n))) true (decide (100 < d))) = true) => have f1 : (((n < 1)) ∨ ((8 < n))) ∨ ((100 < d)) := (Or.imp (fun h => (Or.imp (fun h => (oT h)) (fun h => (oT h)) (sbor_t h))) (fun h => (oT h)) (sbor_t hp1)); aT (aI hp1 (aI kV2 (aT (eX (fun (ns : List Nat) => ns.length = 0 ∧ ((Value.tuple #[(Value.pointer none), (int 2)]) : Value) = (fun _ => Value.tuple #[.pointer none, int 2]) ns ∧ ([some ⟨p, false, o, (tabF n (fun k => u64 (f k)))⟩] : List (Option Blk)) = (fun _ => [some ⟨p, false, o, (tabF n (fun k => u64 (f k)))⟩]) ns) [] (aI (@rfl Nat 0) (aI (@rfl Value (Value.tuple #[.pointer none, int 2])) (@rfl (List (Option Blk)) [some ⟨p, false, o, (tabF n (fun k => u64 (f k)))⟩])))))))) (show (selB (selB (decide (n < 1)) true (decide (8 < n))) true (decide (100 < d))) = true from by rw [decide_eq_false (show ¬ n < 1 by omega)]; rcases h with h | h <;> simp [h, selB_or]))))))
theorem snew_over (p o n q : Nat) (f : Nat → UInt64) (d : UInt64) (hn : 1 ≤ n ∧ n ≤ 8) (hd : d ≤ 100) (hg : ¬ goodN (3 * n + 1 + 1) (putU (fun _ => 0) 0 n f)) : Runs Try.prog 8 [(Value.slice (some ⟨p, o, none⟩) n q), (u64 d)] [⟨p, false, o, (tabF n (fun k => u64 (f k)))⟩] 0 (fun _ => Value.tuple #[.pointer none, int (newE (3 * n + 1 + 1) (putU (fun _ => 0) 0 n f))]) (fun _ => [some ⟨p, false, o, (tabF n (fun k => u64 (f k)))⟩]) :=
  runs_of_ev mix Try.func8 rfl rfl 400 (.reg (rg [.g, .g]) (.reg (rg [.g, (.as (nat n)), .g]) (.reg (rg [.g, (.as (Value.bool (decide (n < 1)))), .g, (.opt .g), (.opt (.as (Value.bool (decide (8 < n))))), .pk, .g, (.opt .g), (.opt (.as (Value.bool (decide (100 < d))))), .pk]) (.no (.regn (rg [.g, .g, .g, .new, .g]) (more (fun n1 => fun _ => (.regn (rg [.g, (.call [(1, true)] 0 0 (fun _ => (nat (3 * n + 1))) (fun _ => [none])), (.as (nat ((3 * n + 1) + 1))), (.oth [] 1 1 (fun ns => Value.slice (some ⟨ns.getD 0 0, 0, none⟩) ((3 * n + 1) + 1) ((3 * n + 1) + 1)) (fun ns => [some ⟨ns.getD 0 0, true, 0, (tabF ((3 * n + 1) + 1) (fun k => u64 ((fun _ => 0) k)))⟩])), .g]) (more (fun n2 => fun _ => (.reg (rg [.g, .g, (.oth [(2, false), (0, true)] 0 0 (fun _ => nat n) (fun _ => [some ⟨n2, true, 0, (tabF ((3 * n + 1) + 1) (fun k => u64 (putU (fun _ => 0) 0 n f k)))⟩, none]))]) (.reg (rg [.g, (.call [(2, true)] 0 0 (fun _ => (Value.tuple #[(Value.pointer none), (int (newE ((3 * n + 1) + 1) (putU (fun _ => 0) 0 n f)))])) (fun _ => [none])), .g, .g, .g, .g, .g]) (.reg (rg [.g, .g]) (.yes (.reg (rg [.g, .g, .g]) .done))))))))))))))) [] [] rfl
    (Eq.mp (by kernel_rfl) (aI kV2 (aI (sk (aI (aT (@is_len Try.prog 22 23 (.tmp 11) (by kernel_rfl) (some ⟨p, o, none⟩) n q)) kV1)) (aI (sk (aI (aT (@is_lssn Try.prog 3 3 (.tmp 13) (.const (.int .i64 1))  n 1)) (sk (aI (fun (hg : (sameB (decide (n < 1)) false) = true) => t2) (aI (fun (hg : (sameB (decide (n < 1)) false) = true) => (aI (aI hg tV) (@is_gtrn Try.prog 3 3 (.tmp 16) (.const (.int .i64 8))  n 8))) (aI (aT (aI (fun (_ : (decide (n < 1)) = true) => tV) (fun (hp : (decide (n < 1)) = false) => (sameB_mkf hp)))) (sk (aI (fun (hg : (sameB (selB (decide (n < 1)) true (decide (8 < n))) false) = true) => t2) (aI (fun (hg : (sameB (selB (decide (n < 1)) true (decide (8 < n))) false) = true) => (aI (aI hg tV) (@is_gtr64 Try.prog 23 23 (.tmp 20) (.const (.int .u64 100)) d 100))) (aI (aT (aI (fun (_ : (selB (decide (n < 1)) true (decide (8 < n))) = true) => tV) (fun (hp : (selB (decide (n < 1)) true (decide (8 < n))) = false) => (sameB_mkf hp)))) tV)))))))))) ((fun (hp1 : (selB (selB (decide (n < 1)) true (decide (8 < n))) true (decide (100 < d))) = false) => have f1 : ¬ (n < 1) := (oF (sbor_l (sbor_l hp1))); have f2 : ¬ (8 < n) := (oF (sbor_r (sbor_l hp1))); have f3 : ¬ (100 < d) := (oF (sbor_r hp1)); aT (aI hp1 (fun (n1 : Nat) => aI (sk kV4) (fun (n2 : Nat) => aI (sk (aI (aT (Runs.dark [true] (ltre_runs n1 n (Value.pointer none) (Value.slice none 0 0) (u64 0) (u64 0) (u64 d) (show n ≤ 8 from by omega)))) (aI (aT (@is_addn Try.prog 3 3 (.tmp 28) (.const (.int .i64 1))  (3 * n + 1) 1 (show (3 * n + 1) + 1 ≤ 9223372036854775807 from by omega))) (aI (aT (mk_make (P := Try.prog) (t := 22) (e := 23) (by kernel_rfl) one23 ((3 * n + 1) + 1) (show (8 : Int) * (((3 * n + 1) + 1 : Nat) : Int) ≤ 281474976710656 ∧ (3 * n + 1) + 1 ≤ 9223372036854775807 from by omega))) kV1)))) (aI (sK2 (aI (aT (SRuns.dark [false, true] (srun_copyP (P := Try.prog) (dT := 22) (sT := 22) (ty := 3) (e := 23) (by kernel_rfl) (by kernel_rfl) n2 p ((3 * n + 1) + 1) n 0 ((3 * n + 1) + 1) ((3 * n + 1) + 1) o q (fun _ => 0) f (show 0 + n ≤ (3 * n + 1) + 1 ∧ n ≤ (3 * n + 1) + 1 from by omega)))) tV)) (aI (sk (aI (aT (Runs.dark [true] (new_bad n2 0 ((3 * n + 1) + 1) ((3 * n + 1) + 1) (putU (fun _ => 0) 0 n f) (show ((3 * n + 1) + 1) ≤ 9223372036854775807 from by omega) hg))) (sk kV4))) (aI kV2 ((fun (hp2 : (((newE ((3 * n + 1) + 1) (putU (fun _ => 0) 0 n f)) : Int) != 0) = true) => aT (aI hp2 (aI kV3 (aT (eX (fun (ns : List Nat) => ns.length = 0 ∧ ((Value.tuple #[(Value.pointer none), (int (newE ((3 * n + 1) + 1) (putU (fun _ => 0) 0 n f)))]) : Value) = (fun _ => Value.tuple #[.pointer none, int (newE (3 * n + 1 + 1) (putU (fun _ => 0) 0 n f))]) ns ∧ ([some ⟨p, false, o, (tabF n (fun k => u64 (f k)))⟩] : List (Option Blk)) = (fun _ => [some ⟨p, false, o, (tabF n (fun k => u64 (f k)))⟩]) ns) [] (aI (@rfl Nat 0) (aI (@rfl Value (Value.tuple #[.pointer none, int (newE (3 * n + 1 + 1) (putU (fun _ => 0) 0 n f))])) (@rfl (List (Option Blk)) [some ⟨p, false, o, (tabF n (fun k => u64 (f k)))⟩])))))))) (show (((newE ((3 * n + 1) + 1) (putU (fun _ => 0) 0 n f)) : Int) != 0) = true from by unfold newE; split <;> rfl))))))))) (show (selB (selB (decide (n < 1)) true (decide (8 < n))) true (decide (100 < d))) = false from by simp [selB_or]; exact ⟨by omega, hd⟩))))))
theorem snew_ok (p o n q : Nat) (f : Nat → UInt64) (d : UInt64) (hn : 1 ≤ n ∧ n ≤ 8) (hd : d ≤ 100) (hg : goodN (3 * n + 1 + 1) (putU (fun _ => 0) 0 n f)) : Runs Try.prog 8 [(Value.slice (some ⟨p, o, none⟩) n q), (u64 d)] [⟨p, false, o, (tabF n (fun k => u64 (f k)))⟩] 4 (fun (ns : List Nat) => (Value.tuple #[(ptr (ns.getD 0 0) 0), (int 0)])) (fun (ns : List Nat) => [some ⟨p, false, o, (tabF n (fun k => u64 (f k)))⟩, some ⟨(ns.getD 0 0), true, 0, (.lit [(nat n), (ptr (ns.getD 1 0) 0), (Value.slice none 0 0), (u64 0), (u64 0), (u64 d)])⟩, some ⟨(ns.getD 1 0), true, 0, (.lit [(Value.slice (some ⟨(ns.getD 2 0), 0, none⟩) ((3 * n + 1) + 1) (((3 * n + 1) + 1) + (ns.getD 3 0)))])⟩, some ⟨(ns.getD 2 0), true, 0, (tabF ((3 * n + 1) + 1) (fun k => u64 (putU (fun _ => 0) 0 n f k)))⟩]) :=
  runs_of_ev mix Try.func8 rfl rfl 400 (.reg (rg [.g, .g]) (.reg (rg [.g, (.as (nat n)), .g]) (.reg (rg [.g, (.as (Value.bool (decide (n < 1)))), .g, (.opt .g), (.opt (.as (Value.bool (decide (8 < n))))), .pk, .g, (.opt .g), (.opt (.as (Value.bool (decide (100 < d))))), .pk]) (.no (.regn (rg [.g, .g, .g, .new, .g]) (more (fun n1 => fun _ => (.regn (rg [.g, (.call [(1, true)] 0 0 (fun _ => (nat (3 * n + 1))) (fun _ => [none])), (.as (nat ((3 * n + 1) + 1))), (.oth [] 1 1 (fun ns => Value.slice (some ⟨ns.getD 0 0, 0, none⟩) ((3 * n + 1) + 1) ((3 * n + 1) + 1)) (fun ns => [some ⟨ns.getD 0 0, true, 0, (tabF ((3 * n + 1) + 1) (fun k => u64 ((fun _ => 0) k)))⟩])), .g]) (more (fun n2 => fun _ => (.reg (rg [.g, .g, (.oth [(2, false), (0, true)] 0 0 (fun _ => nat n) (fun _ => [some ⟨n2, true, 0, (tabF ((3 * n + 1) + 1) (fun k => u64 (putU (fun _ => 0) 0 n f k)))⟩, none]))]) (.regn (rg [.g, (.call [(2, true)] 3 2 (fun ns => Value.tuple #[ptr (ns.getD 0 0) 0, int 0]) (fun ns => [none, some ⟨(ns.getD 0 0), true, 0, .lit [(Value.slice (some ⟨(ns.getD 1 0), 0, none⟩) ((3 * n + 1) + 1) (((3 * n + 1) + 1) + (ns.getD 2 0)))]⟩, some ⟨(ns.getD 1 0), true, 0, (tabF ((3 * n + 1) + 1) (fun k => u64 (putU (fun _ => 0) 0 n f k)))⟩])), .g, .g, .g, .g, .g]) (more (fun n3 => more (fun n4 => more (fun n5 => fun _ => (.reg (rg [.g, .g]) (.no (.reg (rg [.g, .g, .g, .g, (.st 1 (.lit 1))]) (.reg (rg [.g, .g, .g]) .done)))))))))))))))))))) [] [1, 3, 4] rfl
    (Eq.mp (by kernel_rfl) (aI kV2 (aI (sk (aI (aT (@is_len Try.prog 22 23 (.tmp 11) (by kernel_rfl) (some ⟨p, o, none⟩) n q)) kV1)) (aI (sk (aI (aT (@is_lssn Try.prog 3 3 (.tmp 13) (.const (.int .i64 1))  n 1)) (sk (aI (fun (hg : (sameB (decide (n < 1)) false) = true) => t2) (aI (fun (hg : (sameB (decide (n < 1)) false) = true) => (aI (aI hg tV) (@is_gtrn Try.prog 3 3 (.tmp 16) (.const (.int .i64 8))  n 8))) (aI (aT (aI (fun (_ : (decide (n < 1)) = true) => tV) (fun (hp : (decide (n < 1)) = false) => (sameB_mkf hp)))) (sk (aI (fun (hg : (sameB (selB (decide (n < 1)) true (decide (8 < n))) false) = true) => t2) (aI (fun (hg : (sameB (selB (decide (n < 1)) true (decide (8 < n))) false) = true) => (aI (aI hg tV) (@is_gtr64 Try.prog 23 23 (.tmp 20) (.const (.int .u64 100)) d 100))) (aI (aT (aI (fun (_ : (selB (decide (n < 1)) true (decide (8 < n))) = true) => tV) (fun (hp : (selB (decide (n < 1)) true (decide (8 < n))) = false) => (sameB_mkf hp)))) tV)))))))))) ((fun (hp1 : (selB (selB (decide (n < 1)) true (decide (8 < n))) true (decide (100 < d))) = false) => have f1 : ¬ (n < 1) := (oF (sbor_l (sbor_l hp1))); have f2 : ¬ (8 < n) := (oF (sbor_r (sbor_l hp1))); have f3 : ¬ (100 < d) := (oF (sbor_r hp1)); aT (aI hp1 (fun (n1 : Nat) => aI (sk kV4) (fun (n2 : Nat) => aI (sk (aI (aT (Runs.dark [true] (ltre_runs n1 n (Value.pointer none) (Value.slice none 0 0) (u64 0) (u64 0) (u64 d) (show n ≤ 8 from by omega)))) (aI (aT (@is_addn Try.prog 3 3 (.tmp 28) (.const (.int .i64 1))  (3 * n + 1) 1 (show (3 * n + 1) + 1 ≤ 9223372036854775807 from by omega))) (aI (aT (mk_make (P := Try.prog) (t := 22) (e := 23) (by kernel_rfl) one23 ((3 * n + 1) + 1) (show (8 : Int) * (((3 * n + 1) + 1 : Nat) : Int) ≤ 281474976710656 ∧ (3 * n + 1) + 1 ≤ 9223372036854775807 from by omega))) kV1)))) (aI (sK2 (aI (aT (SRuns.dark [false, true] (srun_copyP (P := Try.prog) (dT := 22) (sT := 22) (ty := 3) (e := 23) (by kernel_rfl) (by kernel_rfl) n2 p ((3 * n + 1) + 1) n 0 ((3 * n + 1) + 1) ((3 * n + 1) + 1) o q (fun _ => 0) f (show 0 + n ≤ (3 * n + 1) + 1 ∧ n ≤ (3 * n + 1) + 1 from by omega)))) tV)) (fun (n3 n4 n5 : Nat) => aI (sk (aI (aT (Runs.dark [true] (new_runs n2 0 ((3 * n + 1) + 1) ((3 * n + 1) + 1) (putU (fun _ => 0) 0 n f) (show 0 < ((3 * n + 1) + 1) from by omega) hg))) (sk kV4))) (aI kV2 (aT (aI (@rfl Bool false) (aI (sK4 (aI (aT (ad n1 1)) tV)) (aI kV3 (aT (eX (fun (ns : List Nat) => ns.length = 4 ∧ ((Value.tuple #[(ptr n1 0), (int 0)]) : Value) = (fun (ns : List Nat) => (Value.tuple #[(ptr (ns.getD 0 0) 0), (int 0)])) ns ∧ ([some ⟨p, false, o, (tabF n (fun k => u64 (f k)))⟩, some ⟨n1, true, 0, (.lit [(nat n), (ptr n3 0), (Value.slice none 0 0), (u64 0), (u64 0), (u64 d)])⟩, some ⟨n3, true, 0, (.lit [(Value.slice (some ⟨n4, 0, none⟩) ((3 * n + 1) + 1) (((3 * n + 1) + 1) + n5))])⟩, some ⟨n4, true, 0, (tabF ((3 * n + 1) + 1) (fun k => u64 (putU (fun _ => 0) 0 n f k)))⟩] : List (Option Blk)) = (fun (ns : List Nat) => [some ⟨p, false, o, (tabF n (fun k => u64 (f k)))⟩, some ⟨(ns.getD 0 0), true, 0, (.lit [(nat n), (ptr (ns.getD 1 0) 0), (Value.slice none 0 0), (u64 0), (u64 0), (u64 d)])⟩, some ⟨(ns.getD 1 0), true, 0, (.lit [(Value.slice (some ⟨(ns.getD 2 0), 0, none⟩) ((3 * n + 1) + 1) (((3 * n + 1) + 1) + (ns.getD 3 0)))])⟩, some ⟨(ns.getD 2 0), true, 0, (tabF ((3 * n + 1) + 1) (fun k => u64 (putU (fun _ => 0) 0 n f k)))⟩]) ns) [n1, n3, n4, n5] (aI (@rfl Nat 4) (aI (@rfl Value (Value.tuple #[(ptr n1 0), (int 0)])) (@rfl (List (Option Blk)) [some ⟨p, false, o, (tabF n (fun k => u64 (f k)))⟩, some ⟨n1, true, 0, (.lit [(nat n), (ptr n3 0), (Value.slice none 0 0), (u64 0), (u64 0), (u64 d)])⟩, some ⟨n3, true, 0, (.lit [(Value.slice (some ⟨n4, 0, none⟩) ((3 * n + 1) + 1) (((3 * n + 1) + 1) + n5))])⟩, some ⟨n4, true, 0, (tabF ((3 * n + 1) + 1) (fun k => u64 (putU (fun _ => 0) 0 n f k)))⟩])))))))))))))))) (show (selB (selB (decide (n < 1)) true (decide (8 < n))) true (decide (100 < d))) = false from by simp [selB_or]; exact ⟨by omega, hd⟩))))))
end Go.Proofs.Ytchkbchbfilipaa
end
section
namespace Go.Proofs.Ytchkbchbfilipaa
open Go Go.Eng
def LB (w : Nat) (X : LgR) : List (Option Blk) := [lb0 w X, lb1 X, lb2 X, lb3 X]
section
variable {F : Blk → Prop}
theorem lfree_O (w : Nat) (X : LgR) (i : Int) (hX : X.ok) : RunsO F Try.prog 20 [ptr w 0, int i] [roO (lb0 w X), roO (lb1 X), roO (lb2 X)] 0 (fun _ => u64 (lgH X.N X.G 0 i)) (fun _ => [none, none, none]) :=
  (Runs.dark [true, true, true] (lfree_runs w X.N X.pu X.pr X.pc (lgA X) X.n X.c X.b X.e X.d X.G i hX.N8)).toO
theorem lbonded_O (w : Nat) (X : LgR) (i : Int) (hX : X.ok) : RunsO F Try.prog 21 [ptr w 0, int i] [roO (lb0 w X), roO (lb1 X), roO (lb2 X)] 0 (fun _ => u64 (lgH X.N X.G 1 i)) (fun _ => [none, none, none]) :=
  (Runs.dark [true, true, true] (lbonded_runs w X.N X.pu X.pr X.pc (lgA X) X.n X.c X.b X.e X.d X.G i hX.N8)).toO
theorem lwaiting_O (w : Nat) (X : LgR) (i : Int) (hX : X.ok) : RunsO F Try.prog 22 [ptr w 0, int i] [roO (lb0 w X), roO (lb1 X), roO (lb2 X)] 0 (fun _ => u64 (lgH X.N X.G 2 i)) (fun _ => [none, none, none]) :=
  (Runs.dark [true, true, true] (lwaiting_runs w X.N X.pu X.pr X.pc (lgA X) X.n X.c X.b X.e X.d X.G i hX.N8)).toO
theorem lpotv_O (w : Nat) (X : LgR) (hX : X.ok) : RunsO F Try.prog 18 [ptr w 0] [roO (lb0 w X), roO (lb1 X), roO (lb2 X)] 0 (fun _ => u64 (X.G (3 * X.N))) (fun _ => [none, none, none]) :=
  (Runs.dark [true, true, true] (lpotv_runs w X.N X.pu X.pr X.pc (lgA X) X.n X.c X.b X.e X.d X.G hX.N8)).toO
theorem ltrev_O (w : Nat) (X : LgR) (hX : X.ok) : RunsO F Try.prog 19 [ptr w 0] [roO (lb0 w X), roO (lb1 X), roO (lb2 X)] 0 (fun _ => u64 (X.G (3 * X.N + 1))) (fun _ => [none, none, none]) :=
  (Runs.dark [true, true, true] (ltrev_runs w X.N X.pu X.pr X.pc (lgA X) X.n X.c X.b X.e X.d X.G hX.N8)).toO
theorem ltotal_O (w : Nat) (X : LgR) (hX : X.ok) : RunsO F Try.prog 17 [ptr w 0] [roO (lb0 w X), roO (lb1 X), roO (lb2 X)] 0 (fun _ => u64 (totN X.G (3 * X.N + 2)).a) (fun _ => [none, none, none]) :=
  (Runs.dark [true, true, true] (ltotal_runs w X.N X.pu X.pr X.pc (lgA X) X.n X.c X.b X.e X.d X.G hX.N8)).toO
theorem lepoch_O (w : Nat) (X : LgR) : RunsO F Try.prog 36 [ptr w 0] [roO (lb0 w X)] 0 (fun _ => u64 X.e) (fun _ => [none]) := (Runs.dark [true] (lepoch_runs w X.N X.pu X.pr X.pc (lgA X) X.n X.c X.b X.e X.d)).toO
theorem lstakes_O (w : Nat) (X : LgR) (hX : X.ok) : RunsO F Try.prog 35 [ptr w 0] [roO (lb0 w X), roO (lb1 X), roO (lb2 X)] 1 (fun ns => .slice (some ⟨ns.getD 0 0, 0, none⟩) X.N X.N) (fun ns => [none, none, none, some ⟨ns.getD 0 0, true, 0, tabF X.N fun k => u64 (cutU (fun k => X.G (1 * X.N + k)) X.N k)⟩]) :=
  (Runs.dark [true, true, true] (lstakes_runs w X.N X.pu X.pr X.pc (lgA X) X.n X.c X.b X.e X.d X.G hX.N8)).toO
theorem bond_O (w : Nat) (X : LgR) (i : Int) (x : UInt64) (hX : X.ok) : RunsO F Try.prog 24 [ptr w 0, int i, u64 x] (LB w X) 0 (fun _ => int (bondE X i x)) (fun _ => LB w (bondX X i x)) := by
  cases hi : isI X.N i with
  | false =>
    have e1 : bondE X i x = 1 := by unfold bondE; rw [hi]; rfl
    have e2 : bondX X i x = X := by unfold bondX; rw [hi]; rfl
    rw [e1, e2]
    exact fr_row (bond_out w X.N X.pu X.pr X.pc (lgA X) X.n X.c X.b X.e X.d X.G i x hi hX.N8).toO
  | true =>
    obtain ⟨h1, h2⟩ := isI_iff.1 hi
    obtain ⟨j, rfl⟩ := Int.eq_ofNat_of_zero_le h1
    have hj : j < X.N := by omega
    have hN := hX.N8
    have e1 : bondE X (j : Int) x = moveE (3 * X.N + 2) X.G ((0 * X.N + j : Nat) : Int) ((1 * X.N + j : Nat) : Int) x := by unfold bondE; rw [hi, moveE_at (by omega) (by omega)]; rfl
    have e2 : bondX X (j : Int) x = { X with G := moveF (3 * X.N + 2) X.G ((0 * X.N + j : Nat) : Int) ((1 * X.N + j : Nat) : Int) x } := by unfold bondX; rw [hi]; rfl
    rw [e1, e2]
    exact fr_row (bond_in w X.N X.pu X.pr X.pc (lgA X) X.n X.c X.b X.e X.d X.G j x hj hN).toO
theorem unbX_no {X : LgR} {i : Int} {x : UInt64} {nm r : Nat} (h : ¬ (unbE X i x = 0 ∧ x ≠ 0)) : unbX X i x nm r = X := if_neg h
theorem unb_O (w : Nat) (X : LgR) (i : Int) (x : UInt64) (hX : X.ok) : RunsO F Try.prog 25 [ptr w 0, int i, u64 x] (LB w X) 2 (fun _ => int (unbE X i x)) (fun ns => LB w (unbX X i x (ns.getD 0 0) (ns.getD 1 0))) := by
  cases hi : isI X.N i with
  | false =>
    have e1 : unbE X i x = 1 := by unfold unbE; rw [hi]; rfl
    simp only [unbX_no (show ¬ (unbE X i x = 0 ∧ x ≠ 0) by rw [e1]; exact fun h => absurd h.1 (by decide)), e1]
    exact fr_read (unbond_out w X.N X.pu X.pr X.pc (lgA X) X.n X.c X.b X.e X.d X.G i x hi hX.N8).toO
  | true =>
    obtain ⟨h1, h2⟩ := isI_iff.1 hi
    obtain ⟨j, rfl⟩ := Int.eq_ofNat_of_zero_le h1
    have hj : j < X.N := by omega
    have hN := hX.N8
    have e0 : unbE X (j : Int) x = if X.G (1 * X.N + j) < x then 50 else if x = 0 then 0 else if X.n = 20 then 52 else 0 := by unfold unbE; rw [hi]; rfl
    by_cases c1 : X.G (1 * X.N + j) < x
    · rw [if_pos c1] at e0
      simp only [unbX_no (show ¬ (unbE X (j : Int) x = 0 ∧ x ≠ 0) by rw [e0]; exact fun h => absurd h.1 (by decide)), e0]
      exact fr_read (unbond_poor w X.N X.pu X.pr X.pc (lgA X) X.n X.c X.b X.e X.d X.G j x hj hN c1).toO
    rw [if_neg c1] at e0
    by_cases c2 : x = 0
    · rw [if_pos c2] at e0
      simp only [unbX_no (show ¬ (unbE X (j : Int) x = 0 ∧ x ≠ 0) from fun h => h.2 c2), e0]
      exact fr_read (unbond_zero w X.N X.pu X.pr X.pc (lgA X) X.n X.c X.b X.e X.d X.G j x hj hN c1 (beq_iff_eq.2 c2)).toO
    rw [if_neg c2] at e0
    by_cases c3 : X.n = 20
    · rw [if_pos c3] at e0
      simp only [unbX_no (show ¬ (unbE X (j : Int) x = 0 ∧ x ≠ 0) by rw [e0]; exact fun h => absurd h.1 (by decide)), e0]
      exact fr_read (unbond_full w X.N X.pu X.pr X.pc (lgA X) X.n X.c X.b X.e X.d X.G j x hj hN c1 (beq_false_of_ne c2) c3).toO
    rw [if_neg c3] at e0
    have em : moveE (3 * X.N + 2) X.G ((1 * X.N + j : Nat) : Int) ((2 * X.N + j : Nat) : Int) x = 0 := by rw [moveE_at (by omega) (by omega), if_neg c1]
    have hy : ∀ nm r, unbX X (j : Int) x nm r = { X with G := moveF (3 * X.N + 2) X.G ((1 * X.N + j : Nat) : Int) ((2 * X.N + j : Nat) : Int) x, z := false, m := nm, n := X.n + 1, c := X.n + 1 + r, F := upF ltP (if X.z = true then pshG (fun _ => paZ) 0 (unbP X j x) paZ 0 0 else pshG X.F X.n (unbP X j x) paZ X.m nm) X.n, b := X.b + 1, L := X.L ++ [unbP X (j : Int) x] } := fun nm r => if_pos ⟨e0, c2⟩
    simp only [hy, e0]
    obtain ⟨N, pu, pr, pc, G, z, m, n, c, F', b, e, d, L⟩ := X
    have hle := hX.le
    have hcap := hX.cap
    cases z with
    | true =>
      obtain ⟨z1, z2⟩ := hX.z0 rfl
      simp only at z1 z2
      subst z1 z2
      have h := fr_hr4 (b1 := some ⟨pu, true, 0, .lit [.slice (some ⟨pr, 0, none⟩) (3 * N + 2) pc]⟩) (b3 := none) (F := F) (unbond_nil w N pu pr pc b e d G j x hj hN c1 (beq_false_of_ne c2)).toO
      have em' : moveE (3 * N + 2) G ((1 * N + j : Nat) : Int) ((2 * N + j : Nat) : Int) x = 0 := em
      rw [em'] at h
      refine h.as (.refl _) id fun ns hns => ⟨hns, rfl, ?_, ?_⟩
      · exact .kp _ _ ⟨fun _ h => h, rfl, fun _ h => h⟩ (.kp _ _ ⟨fun _ h => h, rfl, fun _ h => h⟩ (.kp _ _ ⟨fun _ h => h, rfl, fun _ h => h⟩ (.gp _ (.refl _))))
      · exact ⟨rfl, rfl, rfl, rfl, tV⟩
    | false =>
      have h := fr_all (b1 := some ⟨pu, true, 0, .lit [.slice (some ⟨pr, 0, none⟩) (3 * N + 2) pc]⟩) (F := F) (unbond_own w N pu pr pc b e d G m n c F' j x hj hN c1 (beq_false_of_ne c2) ⟨by simp only at hle c3; omega, hcap⟩).toO
      have em' : moveE (3 * N + 2) G ((1 * N + j : Nat) : Int) ((2 * N + j : Nat) : Int) x = 0 := em
      rw [em'] at h
      exact h
theorem fau_O (w : Nat) (X : LgR) (i : Int) (x : UInt64) (hX : X.ok) (hL : isI X.N i = true → FlRel X.N (fltS X i.toNat x) X.L ∧ (fltS X i.toNat x).t.toNat ≤ x.toNat) : RunsO F Try.prog 27 [ptr w 0, int i, u64 x] (LB w X) 0 (fun _ => .tuple #[u64 (fauV X i x), int (fauE X i)]) (fun _ => LB w (fauX X i x)) := by
  cases hi : isI X.N i with
  | false =>
    have e1 : fauE X i = 1 := by unfold fauE; rw [hi]; rfl
    have e2 : fauX X i x = X := by unfold fauX; rw [hi]; rfl
    have e3 : fauV X i x = 0 := by unfold fauV; rw [hi]; rfl
    rw [e1, e2, e3]
    exact fr_row (fault_out w X.N X.pu X.pr X.pc (lgA X) X.n X.c X.b X.e X.d X.G i x hi hX.N8).toO
  | true =>
    obtain ⟨h1, h2⟩ := isI_iff.1 hi
    obtain ⟨j, rfl⟩ := Int.eq_ofNat_of_zero_le h1
    have hj : j < X.N := by omega
    have hN := hX.N8
    obtain ⟨hL1, hL2⟩ := hL hi
    have e1 : fauE X (j : Int) = 0 := by unfold fauE; rw [hi]; rfl
    have e2 : fauX X (j : Int) x = { X with G := (fltR X j x).G, n := (fltR X j x).n, F := (fltR X j x).F, L := fauL X X.L (j : Int) x } := by unfold fauX; rw [hi]; rfl
    have e3 : fauV X (j : Int) x = (fltR X j x).t := by unfold fauV; rw [hi]; rfl
    rw [e1, e2, e3]
    by_cases h0 : X.n = 0
    · have e4 : fltR X j x = fltS X j x := if_pos h0
      rw [e4]
      exact fr_row (fault_none w X.N X.pu X.pr X.pc (lgA X) X.n X.c X.b X.e X.d X.G j x hj hN h0).toO
    · have e4 : fltR X j x = flI X.N j x (X.n + 1) (fltS X j x) := if_neg h0
      rw [e4]
      obtain ⟨N, pu, pr, pc, G, z, m, n, c, F', b, e, d, L⟩ := X
      cases z with
      | true => exact absurd (hX.z0 rfl).1 h0
      | false => exact fr_all (F := F) (fault_own w N pu pr pc b e d G m n c F' j x L hj hN ⟨hX.cap, hX.le⟩ hL1 hL2).toO
theorem nxt_O (w : Nat) (X : LgR) (hX : X.ok) (hs : StdG ltP X.F X.n X.L) (hw : ∀ p ∈ X.L, p.w < X.N) : RunsO F Try.prog 26 [ptr w 0] (LB w X) 2 (fun ns => gsV (nxtA X (ns.getD 0 0) (ns.getD 1 0))) (fun ns => LB w (nxtX X) ++ [gsE intC [int 0] 1 (nxtA X (ns.getD 0 0) (ns.getD 1 0))]) := by
  by_cases h0 : X.n = 0
  · have hl : X.L = [] := List.eq_nil_of_length_eq_zero (hs.len.trans h0)
    have e1 : nxtX X = { X with G := spreadF (3 * X.N + 2) X.G ((3 * X.N : Nat) : Int) ((3 * X.N + 1 : Nat) : Int) (3 * X.N + 2) (wtF X.N X.G), e := X.e + 1 } := by
      obtain ⟨N, pu, pr, pc, G, z, m, n, c, F', b, e, d, L⟩ := X
      simp only at hl
      subst hl; rfl
    have e2 : ∀ nm r, gsV (nxtA X nm r) = .slice none 0 0 := fun nm r => by unfold nxtA; rw [hl]; rfl
    have e3 : ∀ nm r, gsE intC [int 0] 1 (nxtA X nm r) = none := fun nm r => by unfold nxtA; rw [hl]; rfl
    simp only [e1, e2, e3]
    refine (fr_hr (F := F) (next_none w X.N X.pu X.pr X.pc (lgA X) X.n X.c X.b X.e X.d X.G ⟨hX.N1, hX.N8⟩ h0).toO (b3 := lb3 X)).as (.refl _) (fun _ => [0, 0]) fun ns hns => ⟨rfl, rfl, ?_, ?_⟩
    · exact sub_none [_, _, _, _]
    · refine ⟨rfl, rfl, rfl, ?_⟩
      show ownL (lb3 X :: [none])
      unfold lb3
      cases X.z with
      | true => exact tV
      | false => exact ⟨rfl, tV⟩
  · obtain ⟨N, pu, pr, pc, G, z, m, n, c, F', b, e, d, L⟩ := X
    cases z with
    | true => exact absurd (hX.z0 rfl).1 h0
    | false => exact fr_all5 (F := F) (next_own w N pu pr pc b e d G m n c F' L ⟨hX.N1, hX.N8⟩ ⟨hX.cap, hX.le⟩ hs hw).toO
end
end Go.Proofs.Ytchkbchbfilipaa
end
section
namespace Go.Eng
def spX (N : Nat) (H : Nat → UInt64) : Nat → UInt64 := spreadF (3 * N + 2) H ((3 * N : Nat) : Int) ((3 * N + 1 : Nat) : Int) (3 * N + 2) (wtF N H)
def spT (N : Nat) (H : Nat → UInt64) : N4 := totN (wtF N H) (3 * N + 2)
theorem wtF_in {N : Nat} {H : Nat → UInt64} {j : Nat} (h : N ≤ j ∧ j < 2 * N) : wtF N H j = H j := by
  unfold wtF putU cutU
  rw [if_pos (by omega), if_pos (by omega)]
  show H (1 * N + (j - (1 * N + 0))) = H j
  congr 1; omega
theorem wtF_out {N : Nat} {H : Nat → UInt64} {j : Nat} (h : j < N ∨ 2 * N ≤ j) : wtF N H j = 0 := by
  unfold wtF putU; rw [if_neg (by omega)]
theorem spX_eq (N : Nat) (H : Nat → UInt64) : spX N H = upd (sprS (upd H (3 * N) 0) (H (3 * N)) (wtF N H) (spT N H) (3 * N + 2)).1 (3 * N + 1) ((sprS (upd H (3 * N) 0) (H (3 * N)) (wtF N H) (spT N H) (3 * N + 2)).1 (3 * N + 1) + (sprS (upd H (3 * N) 0) (H (3 * N)) (wtF N H) (spT N H) (3 * N + 2)).2) := by
  unfold spX spreadF
  have e0 : spreadE (3 * N + 2) ((3 * N : Nat) : Int) ((3 * N + 1 : Nat) : Int) (3 * N + 2) = 0 := by unfold spreadE; rw [if_pos ⟨isI_nat (by omega), isI_nat (by omega), rfl⟩]
  rw [if_pos e0]
  rfl
theorem spX_at {N : Nat} {H : Nat → UInt64} {j : Nat} (hj : j < 3 * N + 1) : spX N H j = (if j = 3 * N then 0 else H j) + partP (H (3 * N)) (wtF N H j) (spT N H) := by
  rw [spX_eq]
  unfold upd
  rw [if_neg (by omega), sprS_row, if_pos (by omega)]
theorem spX_same {N : Nat} {H : Nat → UInt64} {j : Nat} (hj : j < N ∨ 2 * N ≤ j ∧ j < 3 * N) : spX N H j = H j := by
  rw [spX_at (by omega), wtF_out (by omega), partP_zero, if_neg (by omega), UInt64.add_zero]
theorem spX_pot {N : Nat} {H : Nat → UInt64} : spX N H (3 * N) = 0 := by
  rw [spX_at (by omega), wtF_out (by omega), partP_zero, if_pos rfl, UInt64.add_zero]
theorem spT_val {N : Nat} {H : Nat → UInt64} (hN : N ≤ 8) : (spT N H).val = sumU (wtF N H) (3 * N + 2) := by
  exact totN_val (wtF N H) (3 * N + 2) (by omega)
theorem spX_bond {N : Nat} {H : Nat → UInt64} {j : Nat} (hN : N ≤ 8) (hg : goodN (3 * N + 2) H) (hj : N ≤ j ∧ j < 2 * N) : spX N H j = H j + partP (H (3 * N)) (H j) (spT N H) ∧ (spX N H j).toNat = (H j).toNat + (partP (H (3 * N)) (H j) (spT N H)).toNat ∧ (partP (H (3 * N)) (H j) (spT N H)).toNat ≤ (H (3 * N)).toNat := by
  have e1 : spX N H j = H j + partP (H (3 * N)) (H j) (spT N H) := by rw [spX_at (by omega), wtF_in hj, if_neg (by omega)]
  have h2 := sumU_two (f := H) (n := 3 * N + 2) (a := j) (b := 3 * N) (by omega) (by omega) (by omega)
  have h3 := (goodN_sum.1 hg).2
  have hT : (H j).toNat ≤ (spT N H).val := by
    rw [spT_val hN, ← wtF_in (H := H) hj]; exact sumU_one (by omega)
  have h4 := partP_val (pot := H (3 * N)) hT
  have h5 : (partP (H (3 * N)) (H j) (spT N H)).toNat ≤ (H (3 * N)).toNat := by
    rw [h4]
    rcases Nat.eq_zero_or_pos (spT N H).val with h0 | h0
    · rw [h0, Nat.div_zero]; exact Nat.zero_le _
    · exact Nat.div_le_of_le_mul (by rw [Nat.mul_comm]; exact Nat.mul_le_mul_right _ hT)
  exact ⟨e1, by rw [e1, UInt64.toNat_add, Nat.mod_eq_of_lt (by omega)], h5⟩
theorem spX_sum {N : Nat} {H : Nat → UInt64} (hg : goodN (3 * N + 2) H) : sumU (spX N H) (3 * N + 2) = sumU H (3 * N + 2) := sum_spread hg
structure FrOk (N : Nat) (L : List PaR) (G : Nat → UInt64) (k : Nat) : Prop where
  good : goodN (3 * N + 2) (frG N L G k)
  sum : sumU (frG N L G k) (3 * N + 2) = sumU G (3 * N + 2)
  wt : ∀ w, w < N → (frG N L G k (2 * N + w)).toNat = sumA w (L.drop k)
  oth : ∀ j, N ≤ j → j < 2 * N ∨ 3 * N ≤ j → frG N L G k j = G j
  fre : ∀ w, w < N → (frG N L G k w).toNat + sumA w (L.drop k) = (G w).toNat + sumA w L
theorem drop_cons {L : List PaR} {k : Nat} (h : k < L.length) : L.drop k = L.getD k paZ :: L.drop (k + 1) := by
  rw [List.drop_eq_getElem_cons h, List.getD_eq_getElem?_getD, List.getElem?_eq_getElem h]; rfl
theorem frG_ok {N : Nat} {L : List PaR} {S : FlS} (h : FlRel N S L) : ∀ k, k ≤ L.length → FrOk N L S.G k
  | 0, _ => ⟨h.good, rfl, fun w hw => h.wt w hw, fun _ _ _ => rfl, fun w hw => by rw [List.drop_zero]; rfl⟩
  | k + 1, hk => by
    have ih := frG_ok h k (by omega)
    have hd := drop_cons (L := L) (k := k) (by omega)
    generalize hp : L.getD k paZ = p at hd
    have hpN : p.w < N := hp ▸ who_at h.who (by omega)
    have hw0 := ih.wt p.w hpN
    rw [hd, sumA, if_pos rfl] at hw0
    have hle : p.a.toNat ≤ (frG N L S.G k (2 * N + p.w)).toNat := by omega
    have hnl : ¬ frG N L S.G k (2 * N + p.w) < p.a := fun hl => by have hl' : (frG N L S.G k (2 * N + p.w)).toNat < p.a.toNat := hl; omega
    have e : frG N L S.G (k + 1) = mvF (frG N L S.G k) (2 * N + p.w) (0 * N + p.w) p.a := by
      rw [frG, hp]; exact moveF_at (by omega) (by omega) (by omega) hnl
    obtain ⟨g1, g2⟩ := good_mv ih.good (show 2 * N + p.w < 3 * N + 2 by omega) (show 0 * N + p.w < 3 * N + 2 by omega) (by omega) hle
    have hs2 := sumU_two (f := frG N L S.G k) (n := 3 * N + 2) (a := 2 * N + p.w) (b := 0 * N + p.w) (by omega) (by omega) (by omega)
    have hgd := (goodN_sum.1 ih.good).2
    refine ⟨by rw [e]; exact g1, by rw [e, g2]; exact ih.sum, fun w hw => ?_, fun j h1 h2 => ?_, fun w hw => ?_⟩
    · have h5 := ih.wt w hw
      rw [hd, sumA] at h5
      rw [e]; unfold mvF
      rw [if_neg (by omega)]
      by_cases ew : p.w = w
      · rw [if_pos (by omega), sub_nat hle]
        subst ew
        rw [if_pos rfl] at h5; omega
      · rw [if_neg (by omega)]; rw [if_neg ew] at h5; omega
    · rw [e]; unfold mvF; rw [if_neg (by omega), if_neg (by omega)]; exact ih.oth j h1 h2
    · have h5 := ih.fre w hw
      rw [hd, sumA] at h5
      rw [e]; unfold mvF
      by_cases ew : p.w = w
      · subst ew
        rw [if_pos (by omega), UInt64.toNat_add, Nat.mod_eq_of_lt (by omega)]
        rw [if_pos rfl] at h5
        rw [show 0 * N + p.w = p.w by omega]; omega
      · rw [if_neg (by omega), if_neg (by omega)]; rw [if_neg ew] at h5; omega
structure LOk (X : LgR) (L : List PaR) (K : Nat) : Prop where
  rel : FlRel X.N ⟨X.F, X.n, X.G, 0⟩ L
  ok : X.ok
  num : ∀ p ∈ L, p.n.toNat < X.b.toNat
  ep : ∀ p ∈ L, p.e.toNat ≤ X.e.toNat + X.d.toNat + 1
  bK : X.b.toNat ≤ K
  eK : X.e.toNat ≤ K
  dK : X.d.toNat ≤ 100
theorem LOk.len {X : LgR} {L : List PaR} {K : Nat} (h : LOk X L K) : L.length = X.n := h.rel.std.len
theorem LOk.more {X : LgR} {L : List PaR} {K K' : Nat} (h : LOk X L K) (hK : K ≤ K') : LOk X L K' := ⟨h.rel, h.ok, h.num, h.ep, Nat.le_trans h.bK hK, Nat.le_trans h.eK hK, h.dK⟩
theorem LOk.bond {X : LgR} {L : List PaR} {K : Nat} (h : LOk X L K) (i : Int) (x : UInt64) : LOk (bondX X i x) L (K + 1) ∧ sumU (bondX X i x).G (3 * X.N + 2) = sumU X.G (3 * X.N + 2) := by
  unfold bondX
  cases hi : isI X.N i with
  | false => exact ⟨h.more (by omega), rfl⟩
  | true =>
    obtain ⟨h1, h2⟩ := isI_iff.1 hi
    obtain ⟨j, rfl⟩ := Int.eq_ofNat_of_zero_le h1
    have hj : j < X.N := by omega
    have hN := h.ok.N8
    simp only [if_true, Int.toNat_natCast]
    have hs := sum_move (n := 3 * X.N + 2) (f := X.G) (i := ((0 * X.N + j : Nat) : Int)) (j := ((1 * X.N + j : Nat) : Int)) (x := x) h.rel.good
    refine ⟨⟨⟨h.rel.std, h.rel.who, h.rel.pos, fun w hw => ?_, good_of_sum h.rel.good hs⟩, ⟨h.ok.z0, h.ok.cap, h.ok.le, h.ok.N1, h.ok.N8⟩, h.num, h.ep, Nat.le_succ_of_le h.bK, Nat.le_succ_of_le h.eK, h.dK⟩, hs⟩
    rw [← h.rel.wt w hw]
    show (moveF _ X.G _ _ x (2 * X.N + w)).toNat = _
    by_cases hx : X.G (0 * X.N + j) < x
    · rw [moveF_no (by rw [moveE_at (by omega) (by omega), if_pos hx]; decide)]
    · rw [moveF_at (by omega) (by omega) (by have := h.ok.N1; omega) hx]
      unfold mvF
      rw [if_neg (by omega), if_neg (by omega)]
def unbL (X : LgR) (L : List PaR) (i : Int) (x : UInt64) : List PaR := if unbE X i x = 0 ∧ x ≠ 0 then L ++ [unbP X i x] else L
theorem unb_in {X : LgR} {i : Int} {x : UInt64} (h : unbE X i x = 0 ∧ x ≠ 0) : isI X.N i = true ∧ ¬ X.G (1 * X.N + i.toNat) < x ∧ X.n ≠ 20 := by
  obtain ⟨h1, h2⟩ := h
  unfold unbE at h1
  by_cases hi : isI X.N i = true
  · rw [if_pos hi] at h1
    by_cases c1 : X.G (1 * X.N + i.toNat) < x
    · rw [if_pos c1] at h1; cases h1
    · rw [if_neg c1, if_neg h2] at h1
      by_cases c2 : X.n = 20
      · rw [if_pos c2] at h1; cases h1
      · exact ⟨hi, c1, c2⟩
  · rw [if_neg hi] at h1; cases h1
theorem LOk.unb {X : LgR} {L : List PaR} {K : Nat} (h : LOk X L K) (hK : K ≤ 100000) (i : Int) (x : UInt64) (nm r : Nat) : LOk (unbX X i x nm r) (unbL X L i x) (K + 1) ∧ sumU (unbX X i x nm r).G (3 * X.N + 2) = sumU X.G (3 * X.N + 2) := by
  by_cases hc : unbE X i x = 0 ∧ x ≠ 0
  · obtain ⟨hi, hx, hn20⟩ := unb_in hc
    have e1 : unbL X L i x = L ++ [unbP X i x] := if_pos hc
    have e2 : unbX X i x nm r = _ := if_pos hc
    rw [e1, e2]
    obtain ⟨h1, h2⟩ := isI_iff.1 hi
    obtain ⟨j, rfl⟩ := Int.eq_ofNat_of_zero_le h1
    have hj : j < X.N := by omega
    have hN := h.ok.N8
    simp only [Int.toNat_natCast] at hx ⊢
    have hs := sum_move (n := 3 * X.N + 2) (f := X.G) (i := ((1 * X.N + j : Nat) : Int)) (j := ((2 * X.N + j : Nat) : Int)) (x := x) h.rel.good
    have hle := h.ok.le
    have hx0 : 0 < x.toNat := by
      rcases Nat.eq_zero_or_pos x.toNat with h0 | h0
      · exact absurd (UInt64.toNat_inj.1 h0) hc.2
      · exact h0
    have hbK := h.bK
    have heK := h.eK
    have hdK := h.dK
    have hb1 : (X.b + 1).toNat = X.b.toNat + 1 := by rw [UInt64.toNat_add]; show (X.b.toNat + 1) % _ = _; rw [Nat.mod_eq_of_lt (by omega)]
    have he1 : (X.e + X.d + 1).toNat = X.e.toNat + X.d.toNat + 1 := by rw [UInt64.toNat_add, UInt64.toNat_add]; show ((X.e.toNat + X.d.toNat) % _ + 1) % _ = _; rw [Nat.mod_eq_of_lt (a := X.e.toNat + X.d.toNat) (by omega), Nat.mod_eq_of_lt (by omega)]
    have hxn : x.toNat ≤ (X.G (1 * X.N + j)).toNat := by
      rcases Nat.lt_or_ge (X.G (1 * X.N + j)).toNat x.toNat with h5 | h5
      · exact absurd h5 hx
      · exact h5
    have hlast : ∀ y ∈ L, ltP y (unbP X (j : Int) x) = true := fun y hy => by
      rw [ltP_iff]
      have h5 := h.ep y hy
      have h6 := h.num y hy
      show y.e.toNat < (X.e + X.d + 1).toNat ∨ y.e.toNat = (X.e + X.d + 1).toNat ∧ y.n.toNat < X.b.toNat
      rw [he1]; omega
    have hstd : StdG ltP (upF ltP (if X.z = true then pshG (fun _ => paZ) 0 (unbP X (j : Int) x) paZ 0 0 else pshG X.F X.n (unbP X (j : Int) x) paZ X.m nm) X.n) (X.n + 1) (L ++ [unbP X (j : Int) x]) := by
      refine h.rel.std.push ltP_swo (fun k hk => ?_) ?_ hlast
      · cases hz : X.z with
        | true => have := (h.ok.z0 hz).1; have hk' : k < X.n := hk; omega
        | false => exact pshG_lt hk
      · cases hz : X.z with
        | true => have := (h.ok.z0 hz).1; rw [if_pos rfl, show (FlS.mk X.F X.n X.G 0).n = 0 from this]; exact pshG_eq
        | false => exact pshG_eq
    have hs2 := sumU_two (f := X.G) (n := 3 * X.N + 2) (a := 1 * X.N + j) (b := 2 * X.N + j) (by omega) (by omega) (by omega)
    have hgd : sumU X.G (3 * X.N + 2) < 2 ^ 63 := (goodN_sum.1 h.rel.good).2
    refine ⟨⟨⟨hstd, fun p hp => ?_, fun p hp => ?_, fun w hw => ?_, good_of_sum h.rel.good hs⟩, ⟨fun hz => (by cases hz), by show X.n + 1 ≤ X.n + 1 + r; omega, by show X.n + 1 ≤ 20; omega, h.ok.N1, h.ok.N8⟩, fun p hp => ?_, fun p hp => ?_, by show (X.b + 1).toNat ≤ _; omega, Nat.le_succ_of_le h.eK, h.dK⟩, hs⟩
    · rcases List.mem_append.1 hp with hp | hp
      · exact h.rel.who p hp
      · rw [List.mem_singleton.1 hp]; exact hj
    · rcases List.mem_append.1 hp with hp | hp
      · exact h.rel.pos p hp
      · rw [List.mem_singleton.1 hp]; exact hx0
    · show (moveF _ X.G _ _ x (2 * X.N + w)).toNat = _
      rw [moveF_at (by omega) (by omega) (by omega) hx, sumA_app, ← h.rel.wt w hw]
      unfold mvF
      show (if 2 * X.N + w = 2 * X.N + j then _ else _ : UInt64).toNat = (X.G (2 * X.N + w)).toNat + ((if j = w then x.toNat else 0) + 0)
      by_cases ew : j = w
      · subst ew; rw [if_pos rfl, if_pos rfl, UInt64.toNat_add, Nat.mod_eq_of_lt (by omega)]; rfl
      · rw [if_neg (by omega), if_neg (by omega), if_neg ew]; rfl
    · show p.n.toNat < (X.b + 1).toNat
      rw [hb1]
      rcases List.mem_append.1 hp with hp | hp
      · have := h.num p hp; omega
      · rw [List.mem_singleton.1 hp]; exact Nat.lt_succ_self _
    · show p.e.toNat ≤ X.e.toNat + X.d.toNat + 1
      rcases List.mem_append.1 hp with hp | hp
      · exact h.ep p hp
      · rw [List.mem_singleton.1 hp]; show (X.e + X.d + 1).toNat ≤ _; omega
  · rw [show unbL X L i x = L from if_neg hc, show unbX X i x nm r = X from if_neg hc]
    exact ⟨h.more (by omega), rfl⟩
theorem LOk.flt {X : LgR} {L : List PaR} {K : Nat} (h : LOk X L K) {j : Nat} (hj : j < X.N) (x : UInt64) : FlRel X.N (fltS X j x) L ∧ (fltS X j x).t = minU x (X.G (1 * X.N + j)) ∧ (fltS X j x).G = mvF X.G (1 * X.N + j) (3 * X.N) (minU x (X.G (1 * X.N + j))) ∧ sumU (fltS X j x).G (3 * X.N + 2) = sumU X.G (3 * X.N + 2) := by
  have hN := h.ok.N8
  obtain ⟨h1, h2⟩ := take_at (n := 3 * X.N + 2) (a := 1 * X.N + j) (b := 3 * X.N) (f := X.G) (x := x) (by omega) (by omega) (by omega)
  have e1 : (fltS X j x).t = minU x (X.G (1 * X.N + j)) := h1
  have e2 : (fltS X j x).G = mvF X.G (1 * X.N + j) (3 * X.N) (minU x (X.G (1 * X.N + j))) := h2
  have hm := minU_nat x (X.G (1 * X.N + j))
  obtain ⟨g1, g2⟩ := good_mv h.rel.good (show 1 * X.N + j < 3 * X.N + 2 by omega) (show 3 * X.N < 3 * X.N + 2 by omega) (x := minU x (X.G (1 * X.N + j))) (by omega) (by show _ ≤ (X.G (1 * X.N + j)).toNat; omega)
  refine ⟨⟨h.rel.std, h.rel.who, h.rel.pos, fun w hw => ?_, by rw [e2]; exact g1⟩, e1, e2, by rw [e2]; exact g2⟩
  rw [← h.rel.wt w hw, e2]
  show (mvF X.G _ _ _ (2 * X.N + w)).toNat = (X.G (2 * X.N + w)).toNat
  unfold mvF
  rw [if_neg (by omega), if_neg (by omega)]
theorem LOk.flO {X : LgR} {L : List PaR} {K : Nat} (h : LOk X L K) {j : Nat} (hj : j < X.N) (x : UInt64) : FlOut X.N j x (fltS X j x) (fltR X j x) L := by
  obtain ⟨h1, h2, h3, h4⟩ := h.flt hj x
  have hm := minU_nat x (X.G (1 * X.N + j))
  have ht : (fltS X j x).t.toNat ≤ x.toNat := by rw [h2]; omega
  by_cases h0 : X.n = 0
  · have e : fltR X j x = flI X.N j x 1 (fltS X j x) := by
      rw [show fltR X j x = fltS X j x from if_pos h0, flI_end]
      have hl : lastP (fltS X j x).F j (fltS X j x).n = -1 := by
        show lastP X.F j X.n = -1
        rw [h0]; rfl
      unfold flC; rw [hl]; rfl
    rw [e]
    exact fl_run hj 1 _ L h1 ht (by show X.n + _ ≤ 1; rw [h0]; split <;> omega)
  · have e : fltR X j x = flI X.N j x (X.n + 1) (fltS X j x) := if_neg h0
    rw [e]
    exact fl_run hj (X.n + 1) _ L h1 ht (by show X.n + _ ≤ _; split <;> omega)
theorem fltL_mem (w : Nat) : ∀ (L : List PaR) (x : UInt64), ∀ p ∈ (fltL w L x).1, ∃ q ∈ L, p.w = q.w ∧ p.e = q.e ∧ p.n = q.n
  | [], _, p, hp => by cases hp
  | q :: L, x, p, hp => by
    have ih := fltL_mem w L x
    rw [fltL] at hp
    have hin : p ∈ (fltL w L x).1 → ∃ q' ∈ q :: L, p.w = q'.w ∧ p.e = q'.e ∧ p.n = q'.n := fun h => by
      obtain ⟨q', h1, h2⟩ := ih p h
      exact ⟨q', by simp [h1], h2⟩
    split at hp
    · split at hp
      · exact hin hp
      · rcases List.mem_cons.1 hp with rfl | hp
        · exact ⟨q, by simp, rfl, rfl, rfl⟩
        · exact hin hp
    · rcases List.mem_cons.1 hp with rfl | hp
      · exact ⟨p, by simp, rfl, rfl, rfl⟩
      · exact hin hp
theorem LOk.fau {X : LgR} {L : List PaR} {K : Nat} (h : LOk X L K) (i : Int) (x : UInt64) : LOk (fauX X i x) (fauL X L i x) (K + 1) ∧ sumU (fauX X i x).G (3 * X.N + 2) = sumU X.G (3 * X.N + 2) := by
  unfold fauX fauL
  cases hi : isI X.N i with
  | false => exact ⟨h.more (by omega), rfl⟩
  | true =>
    obtain ⟨h1, h2⟩ := isI_iff.1 hi
    obtain ⟨j, rfl⟩ := Int.eq_ofNat_of_zero_le h1
    have hj : j < X.N := by omega
    simp only [if_true, Int.toNat_natCast]
    obtain ⟨k1, k2, k3, k4⟩ := h.flt hj x
    have ho := h.flO hj x
    have hr := ho.rel
    rw [k2] at hr
    have hn : (fltR X j x).n ≤ X.n := ho.n
    refine ⟨⟨⟨hr.std, hr.who, hr.pos, hr.wt, hr.good⟩, ⟨fun hz => ⟨?_, (h.ok.z0 hz).2⟩, Nat.le_trans hn h.ok.cap, Nat.le_trans hn h.ok.le, h.ok.N1, h.ok.N8⟩, fun p hp => ?_, fun p hp => ?_, Nat.le_succ_of_le h.bK, Nat.le_succ_of_le h.eK, h.dK⟩, ho.sum.trans k4⟩
    · have := (h.ok.z0 hz).1; show (fltR X j x).n = 0; omega
    · obtain ⟨q, hq, _, _, e⟩ := fltL_mem _ _ _ p hp
      rw [e]; exact h.num q hq
    · obtain ⟨q, hq, _, e, _⟩ := fltL_mem _ _ _ p hp
      rw [e]; exact h.ep q hq
theorem LOk.nxt {X : LgR} {K : Nat} (h : LOk X X.L K) (hK : K ≤ 100000) : LOk (nxtX X) (X.L.drop (dueP (X.e + 1) X.L)) (K + 1) ∧ sumU (nxtX X).G (3 * X.N + 2) = sumU X.G (3 * X.N + 2) := by
  have hd := (dueP_at (e := X.e + 1) X.L).1
  have hl := h.len
  have hf := frG_ok h.rel _ hd
  have hN := h.ok.N8
  have heK := h.eK
  have e1 : (X.e + 1).toNat = X.e.toNat + 1 := by rw [UInt64.toNat_add]; show (X.e.toNat + 1) % _ = _; rw [Nat.mod_eq_of_lt (by omega)]
  have hsp := spX_sum hf.good
  refine ⟨⟨⟨(h.rel.std.popG ltP_swo paZ _ (by show _ ≤ X.n; omega)).1, fun p hp => h.rel.who p (List.mem_of_mem_drop hp), fun p hp => h.rel.pos p (List.mem_of_mem_drop hp), fun w hw => ?_, good_of_sum hf.good hsp⟩, ⟨fun hz => ⟨?_, (h.ok.z0 hz).2⟩, ?_, ?_, h.ok.N1, h.ok.N8⟩, fun p hp => h.num p (List.mem_of_mem_drop hp), fun p hp => ?_, Nat.le_succ_of_le h.bK, ?_, h.dK⟩, hsp.trans hf.sum⟩
  · show (spX X.N (frG X.N X.L X.G (dueP (X.e + 1) X.L)) (2 * X.N + w)).toNat = _
    have hw' : w < X.N := hw
    rw [spX_same (by omega)]; exact hf.wt w hw
  · have := (h.ok.z0 hz).1; show X.n - _ = 0; omega
  · have := h.ok.cap; show X.n - _ ≤ X.c; omega
  · have := h.ok.le; show X.n - _ ≤ 20; omega
  · have := h.ep p (List.mem_of_mem_drop hp)
    show p.e.toNat ≤ (X.e + 1).toNat + X.d.toNat + 1
    omega
  · show (X.e + 1).toNat ≤ _; omega
end Go.Eng
end
section
namespace Go.Eng
structure OpR where
  d : Int
  i : Int
  a : UInt64
instance : Inhabited OpR := ⟨⟨0, 0, 0⟩⟩
def opC (x : OpR) : List Value := [int x.d, int x.i, u64 x.a]
theorem opC_ok (x : OpR) : (opC x).length = 3 ∧ (opC x).all Value.oneCell' = true := ⟨rfl, rfl⟩
def tabQ (n : Nat) (f : Nat → OpR) : Cont := .tab n 3 fun k => opC (f k)
section
open Go.RowKit Go.WideShapes Go.ChangeShapes Go.ChangeAt Go.Deep
variable {H : Type} {enc : TypeId × Value → H} {P : Program}
def iiuB (P : Program) (e i u : TypeId) : Bool := match P.underlying e with
  | some (.struct fs) => match fs.toList with
    | [f0, f1, f2] => (Nat.beq f0.type i && Nat.beq f0.offset 0) && ((Nat.beq f1.type i && Nat.beq f1.offset 1) && (Nat.beq f2.type u && Nat.beq f2.offset 2))
    | _ => false
  | _ => false
theorem iiuB_get {P : Program} {e i u : TypeId} (h : iiuB P e i u = true) : ∃ f0 f1 f2 : Field, P.underlying e = some (.struct #[f0, f1, f2]) ∧ (f0.type = i ∧ f0.offset = 0) ∧ (f1.type = i ∧ f1.offset = 1) ∧ (f2.type = u ∧ f2.offset = 2) := by
  unfold iiuB at h
  split at h
  · rename_i fs hf
    split at h
    · rename_i f0 f1 f2 hl
      simp only [Bool.and_eq_true] at h
      obtain ⟨⟨a0, b0⟩, ⟨a1, b1⟩, ⟨a2, b2⟩⟩ := h
      refine ⟨f0, f1, f2, ?_, ⟨Nat.eq_of_beq_eq_true a0, Nat.eq_of_beq_eq_true b0⟩, ⟨Nat.eq_of_beq_eq_true a1, Nat.eq_of_beq_eq_true b1⟩, ⟨Nat.eq_of_beq_eq_true a2, Nat.eq_of_beq_eq_true b2⟩⟩
      rw [hf]
      have : fs = #[f0, f1, f2] := by cases fs; simp_all
      rw [this]
    · cases h
  · cases h
theorem int_cellT {W : World} {base : Nat} {sp : Nat → Bool} {held : Bool} {i : TypeId} (hi : P.underlying i = some (.int .i64)) {c : Value} {fuel : Nat} {z : DataW H × List MemPlace} (h : DataW.trod enc P W base sp held fuel i [c] = some z) :
    ∃ x : Int, c = int x ∧ -9223372036854775808 ≤ x ∧ x ≤ 9223372036854775807 := by
  obtain ⟨x0, e0, _, w0⟩ := DataW.trod_int hi h
  simp at e0
  have hx : -9223372036854775808 ≤ x0 ∧ x0 ≤ 9223372036854775807 := by simpa [Lit.wf, IntKind.min, IntKind.max, IntKind.signed, IntKind.bits] using w0
  exact ⟨x0, e0, hx.1, hx.2⟩
theorem u64_cellT {W : World} {base : Nat} {sp : Nat → Bool} {held : Bool} {i : TypeId} (hi : P.underlying i = some (.int .u64)) {c : Value} {fuel : Nat} {z : DataW H × List MemPlace} (h : DataW.trod enc P W base sp held fuel i [c] = some z) :
    ∃ x : UInt64, c = u64 x := by
  obtain ⟨x0, e0, _, w0⟩ := DataW.trod_int hi h
  simp at e0
  obtain ⟨x, hx⟩ := u64_of w0
  exact ⟨x, e0.trans hx⟩
theorem open_iiu {r : Reach} {b0 : Nat} {W : World} {base : Nat} {sp : Nat → Bool} {held : Bool} {t e i u : TypeId} {v : Value} {d : DataW H} {ps : List MemPlace} (ht : P.underlying t = some (.slice e)) (he : iiuB P e i u = true)
    (hi : P.underlying i = some (.int .i64)) (hu : P.underlying u = some (.int .u64)) (ci : P.cellsOf i = 1) (cu : P.cellsOf u = 1) (ce : P.cellsOf e = 3)
    (hval : Value.okWide P W r b0 t v) (hd : DataW.Trod enc P W base sp held t v d ps) :
    (∃ ao c, v = .slice ao 0 c) ∨ ∃ (b o n c : Nat) (f : Nat → OpR), v = .slice (some ⟨b, o, none⟩) n c ∧ 0 < n ∧ n ≤ 9223372036854775807 ∧ Holds ⟨b, false, o, tabQ n f⟩ W := by
  obtain ⟨f0, f1, f2, hst, g0, g1, g2⟩ := iiuB_get he
  exact open_sliceE opC (sz := 3) (fun a => (opC_ok a).1) (by decide) ht ce (fun n cs x hl h => by
    obtain ⟨xs, m, _, _, _, hlen, hf⟩ := DataW.trod_struct hst h
    obtain ⟨c0, c1, c2, rfl⟩ : ∃ c0 c1 c2, cs = [c0, c1, c2] := by
      match cs, hl with
      | [c0, c1, c2], _ => exact ⟨c0, c1, c2, rfl⟩
    obtain ⟨y0, y1, y2, rfl⟩ : ∃ y0 y1 y2, xs = [y0, y1, y2] := by
      match xs, hlen with
      | [y0, y1, y2], _ => exact ⟨y0, y1, y2, rfl⟩
    have k0 := hf 0 f0 rfl
    have k1 := hf 1 f1 rfl
    have k2 := hf 2 f2 rfl
    rw [g0.1, g0.2, ci] at k0
    rw [g1.1, g1.2, ci] at k1
    rw [g2.1, g2.2, cu] at k2
    obtain ⟨x0, rfl, l0, h0⟩ := int_cellT hi (c := c0) k0
    obtain ⟨x1, rfl, l1, h1⟩ := int_cellT hi (c := c1) k1
    obtain ⟨x2, rfl⟩ := u64_cellT hu (c := c2) k2
    exact ⟨⟨x0, x1, x2⟩, rfl⟩) hval hd
end
end Go.Eng
end
section
namespace Go.Eng
def dnE (X : LgR) (o : OpR) : Int := if o.d = 1 then bondE X o.i o.a else if o.d = 2 then unbE X o.i o.a else if o.d = 3 then fauE X o.i else 0
def dnV (X : LgR) (o : OpR) : UInt64 := if o.d = 3 then fauV X o.i o.a else 0
def dnX (X : LgR) (o : OpR) (nm r : Nat) : LgR := if o.d = 1 then bondX X o.i o.a else if o.d = 2 then unbX X o.i o.a nm r else if o.d = 3 then fauX X o.i o.a else nxtX X
def dnA (X : LgR) (o : OpR) (nm r : Nat) : Grw Int := if o.d = 1 ∨ o.d = 2 ∨ o.d = 3 then gsOf 0 (fun _ => 0) nm r else nxtA X nm r
theorem bondX_N (X : LgR) (i : Int) (x : UInt64) : (bondX X i x).N = X.N ∧ (bondX X i x).L = X.L := by unfold bondX; split <;> exact ⟨rfl, rfl⟩
theorem unbX_N (X : LgR) (i : Int) (x : UInt64) (nm r : Nat) : (unbX X i x nm r).N = X.N ∧ (unbX X i x nm r).L = unbL X X.L i x := by unfold unbX unbL; split <;> exact ⟨rfl, rfl⟩
theorem fauX_N (X : LgR) (i : Int) (x : UInt64) : (fauX X i x).N = X.N ∧ (fauX X i x).L = fauL X X.L i x := by
  unfold fauX
  by_cases h : isI X.N i = true
  · rw [if_pos h]; exact ⟨rfl, rfl⟩
  · rw [if_neg h]; unfold fauL; rw [if_neg h]; exact ⟨rfl, rfl⟩
theorem LOk.dn {X : LgR} {K : Nat} (h : LOk X X.L K) (hK : K ≤ 100000) (o : OpR) (nm r : Nat) : LOk (dnX X o nm r) (dnX X o nm r).L (K + 1) ∧ sumU (dnX X o nm r).G (3 * X.N + 2) = sumU X.G (3 * X.N + 2) ∧ (dnX X o nm r).N = X.N := by
  unfold dnX
  by_cases h1 : o.d = 1
  · rw [if_pos h1, (bondX_N _ _ _).2]; exact ⟨(h.bond _ _).1, (h.bond _ _).2, (bondX_N _ _ _).1⟩
  rw [if_neg h1]
  by_cases h2 : o.d = 2
  · rw [if_pos h2, (unbX_N _ _ _ _ _).2]; exact ⟨(h.unb hK _ _ _ _).1, (h.unb hK _ _ _ _).2, (unbX_N _ _ _ _ _).1⟩
  rw [if_neg h2]
  by_cases h3 : o.d = 3
  · rw [if_pos h3, (fauX_N _ _ _).2]; exact ⟨(h.fau _ _).1, (h.fau _ _).2, (fauX_N _ _ _).1⟩
  rw [if_neg h3]
  exact ⟨(h.nxt hK).1, (h.nxt hK).2, rfl⟩
theorem LOk.fau_pre {X : LgR} {K : Nat} (h : LOk X X.L K) (i : Int) (x : UInt64) : isI X.N i = true → FlRel X.N (fltS X i.toNat x) X.L ∧ (fltS X i.toNat x).t.toNat ≤ x.toNat := fun hi => by
  obtain ⟨h1, h2⟩ := isI_iff.1 hi
  obtain ⟨k1, k2, _⟩ := h.flt (j := i.toNat) (by omega) x
  exact ⟨k1, by rw [k2, minU_nat]; omega⟩
theorem dn_1 {X : LgR} {o : OpR} (h : o.d = 1) : dnE X o = bondE X o.i o.a ∧ dnV X o = 0 ∧ (∀ nm r, dnX X o nm r = bondX X o.i o.a) ∧ ∀ nm r, dnA X o nm r = gsOf 0 (fun _ => 0) nm r :=
  ⟨if_pos h, if_neg (by rw [h]; decide), fun _ _ => if_pos h, fun _ _ => if_pos (.inl h)⟩
theorem dn_2 {X : LgR} {o : OpR} (h : o.d = 2) : dnE X o = unbE X o.i o.a ∧ dnV X o = 0 ∧ (∀ nm r, dnX X o nm r = unbX X o.i o.a nm r) ∧ ∀ nm r, dnA X o nm r = gsOf 0 (fun _ => 0) nm r := by
  have h1 : ¬ o.d = 1 := by rw [h]; decide
  exact ⟨by unfold dnE; rw [if_neg h1, if_pos h], if_neg (by rw [h]; decide), fun _ _ => by unfold dnX; rw [if_neg h1, if_pos h], fun _ _ => if_pos (.inr (.inl h))⟩
theorem dn_3 {X : LgR} {o : OpR} (h : o.d = 3) : dnE X o = fauE X o.i ∧ dnV X o = fauV X o.i o.a ∧ (∀ nm r, dnX X o nm r = fauX X o.i o.a) ∧ ∀ nm r, dnA X o nm r = gsOf 0 (fun _ => 0) nm r := by
  have h1 : ¬ o.d = 1 := by rw [h]; decide
  have h2 : ¬ o.d = 2 := by rw [h]; decide
  exact ⟨by unfold dnE; rw [if_neg h1, if_neg h2, if_pos h], if_pos h, fun _ _ => by unfold dnX; rw [if_neg h1, if_neg h2, if_pos h], fun _ _ => if_pos (.inr (.inr h))⟩
theorem dn_4 {X : LgR} {o : OpR} (h1 : ¬ o.d = 1) (h2 : ¬ o.d = 2) (h3 : ¬ o.d = 3) : dnE X o = 0 ∧ dnV X o = 0 ∧ (∀ nm r, dnX X o nm r = nxtX X) ∧ ∀ nm r, dnA X o nm r = nxtA X nm r := by
  exact ⟨by unfold dnE; rw [if_neg h1, if_neg h2, if_neg h3], if_neg h3, fun _ _ => by unfold dnX; rw [if_neg h1, if_neg h2, if_neg h3], fun _ _ => if_neg (by rintro (h | h | h); exact h1 h; exact h2 h; exact h3 h)⟩
def lgN (N : Nat) (f : Nat → UInt64) (d : UInt64) (pu pr r : Nat) : LgR := ⟨N, pu, pr, 3 * N + 2 + r, putU (fun _ => 0) 0 N f, true, 0, 0, 0, fun _ => paZ, 0, 0, d, []⟩
theorem putU_at {N : Nat} {f : Nat → UInt64} (j : Nat) : putU (fun _ => 0) 0 N f j = if j < N then f j else 0 := by
  unfold putU
  by_cases h : j < N
  · rw [if_pos h, if_pos (by omega)]; rfl
  · rw [if_neg h, if_neg (by omega)]
theorem sumU_cut {N : Nat} {f : Nat → UInt64} : ∀ k, sumU (putU (fun _ => 0) 0 N f) k = sumU f (min k N)
  | 0 => by rw [Nat.zero_min]; rfl
  | k + 1 => by
    rw [sumU, sumU_cut k, putU_at]
    by_cases h : k < N
    · rw [if_pos h, show min (k + 1) N = min k N + 1 by omega, sumU, show min k N = k by omega]
    · rw [if_neg h, show min (k + 1) N = min k N by omega]; rfl
theorem new_good {N : Nat} {f : Nat → UInt64} (hN : N ≤ 8) : goodN (3 * N + 1 + 1) (putU (fun _ => 0) 0 N f) ↔ goodN N f := by
  rw [goodN_sum, goodN_sum, sumU_cut, show min (3 * N + 1 + 1) N = N by omega]
  omega
theorem LOk.new {N : Nat} {f : Nat → UInt64} {d : UInt64} (h1 : 1 ≤ N) (hN : N ≤ 8) (hd : d ≤ 100) (hg : goodN N f) (pu pr r : Nat) : LOk (lgN N f d pu pr r) [] 0 :=
  ⟨⟨StdG.none, fun p h => (by cases h), fun p h => (by cases h), fun w hw => by
      show (putU (fun _ => 0) 0 N f (2 * N + w)).toNat = 0
      rw [putU_at, if_neg (by omega)]; rfl, (new_good hN).2 hg⟩, ⟨fun _ => ⟨rfl, rfl⟩, Nat.le_refl _, Nat.zero_le _, h1, hN⟩, fun p h => (by cases h), fun p h => (by cases h), Nat.le_refl _, Nat.le_refl _, UInt64.le_iff_toNat_le.1 hd⟩
theorem LOk.bond1 {X : LgR} {K : Nat} (h : LOk X X.L K) (i : Int) (x : UInt64) : LOk (bondX X i x) (bondX X i x).L (K + 1) := by rw [(bondX_N _ _ _).2]; exact (h.bond i x).1
theorem LOk.unb1 {X : LgR} {K : Nat} (h : LOk X X.L K) (hK : K ≤ 100000) (i : Int) (x : UInt64) (nm r : Nat) : LOk (unbX X i x nm r) (unbX X i x nm r).L (K + 1) := by rw [(unbX_N _ _ _ _ _).2]; exact (h.unb hK i x nm r).1
theorem LOk.fau1 {X : LgR} {K : Nat} (h : LOk X X.L K) (i : Int) (x : UInt64) : LOk (fauX X i x) (fauX X i x).L (K + 1) := by rw [(fauX_N _ _ _).2]; exact (h.fau i x).1
theorem LOk.nxt1 {X : LgR} {K : Nat} (h : LOk X X.L K) (hK : K ≤ 100000) : LOk (nxtX X) (nxtX X).L (K + 1) := (h.nxt hK).1
theorem RunsO.val {F : Blk → Prop} {P : Program} {f : FuncId} {args : List Value} {bs : List (Option Blk)} {k : Nat} {v v' : List Nat → Value} {out : List Nat → List (Option Blk)} (h : RunsO F P f args bs k v out) (e : v = v') : RunsO F P f args bs k v' out := e ▸ h
theorem src_lit1 (b : Nat) (x : Int) (f : Nat → Int) (h : f 0 = x) : Src intC 1 (some ⟨b, false, 0, .lit [int x]⟩) (some ⟨b, 0, none⟩) 1 f := fun _ => ⟨b, 0, _, rfl, rfl, rfl, fun j v hj => by
  have hj' : (tabF 1 fun k => int (f k)).get j = some v := hj
  by_cases h1 : j < 1
  · rw [tabF_in h1] at hj'
    have : j = 0 := by omega
    subst this
    rw [h] at hj'; exact hj'
  · rw [tabF_out h1] at hj'; cases hj'⟩
end Go.Eng
end
section
namespace Go.Proofs.Ytchkbchbfilipaa
open Go Go.Eng
section
variable {F : Blk → Prop}
theorem nxt_L (w : Nat) (X : LgR) {K : Nat} (h : LOk X X.L K) : RunsO F Try.prog 26 [ptr w 0] (LB w X) 2 (fun ns => gsV (nxtA X (ns.getD 0 0) (ns.getD 1 0))) (fun ns => LB w (nxtX X) ++ [gsE intC [int 0] 1 (nxtA X (ns.getD 0 0) (ns.getD 1 0))]) := nxt_O w X h.ok h.rel.std h.rel.who
theorem snew_O (p o n q : Nat) (f : Nat → UInt64) (d : UInt64) (hn : 1 ≤ n ∧ n ≤ 8) (hd : d ≤ 100) (hg : goodN n f) : RunsO F Try.prog 8 [.slice (some ⟨p, o, none⟩) n q, u64 d] [some ⟨p, false, o, tabF n fun k => u64 (f k)⟩] 4 (fun ns => .tuple #[ptr (ns.getD 0 0) 0, int 0]) (fun ns => none :: LB (ns.getD 0 0) (lgN n f d (ns.getD 1 0) (ns.getD 2 0) (ns.getD 3 0))) :=
  (Runs.dark [true] (snew_ok p o n q f d hn hd ((new_good hn.2).2 hg))).toO.as (.refl _) id fun ns hns => ⟨hns, rfl, sub_none [none, _, _, _], rfl, rfl, rfl, tV⟩
end
theorem done_1 {F : Blk → Prop} (w : Nat) (X : LgR) (K : Nat) (o : OpR) (h : LOk X X.L K) (hd : o.d = 1) : RunsO F Try.prog 10 [(ptr w 0), (Value.agg #[(int o.d), (int o.i), (u64 o.a)])] [(lb0 w X), (lb1 X), (lb2 X), (lb3 X)] 0 (fun (ns : List Nat) => (Value.tuple #[(u64 0), (Value.slice none 0 0), (int (bondE X o.i o.a))])) (fun (ns : List Nat) => [(lb0 w (bondX X o.i o.a)), (lb1 (bondX X o.i o.a)), (lb2 (bondX X o.i o.a)), (lb3 (bondX X o.i o.a))]) :=
  runsO_of_ev mix Try.func10 rfl rfl 400 (.regn (rg [.new, .g, .g, .g]) (more (fun n1 => fun _ => (.reg (rg [.g, (.ld 4 (.lit 0))]) (.reg (rg [.g, .g]) (.yes (.reg (rg [.g, .g, (.ld 4 (.lit 1)), .g, (.ld 4 (.lit 2)), (.callO [(0, false), (1, false), (2, false), (3, false)] 0 0 (fun ns => (int (bondE X o.i o.a))) (fun ns => [lb0 w (bondX X o.i o.a), lb1 (bondX X o.i o.a), lb2 (bondX X o.i o.a), lb3 (bondX X o.i o.a)])), .g, .g, .g]) .done))))))) [] [] rfl
    (Eq.mp (by kernel_rfl) (fun (n1 : Nat) => aI kV4 (aI (sk (aI (aT (ad n1 0)) tV)) (aI kV2 ((fun (hp1 : ((o.d : Int) == 1) = true) => aT (aI hp1 (aI (sK2 (aI (aT (ad n1 1)) (sk (aI (aT (ad n1 2)) (aI (aT (bond_O (F := F) w X o.i o.a h.ok)) kV3))))) (aT (eX (fun (ns : List Nat) => ns.length = 0 ∧ ((Value.tuple #[(u64 0), (Value.slice none 0 0), (int (bondE X o.i o.a))]) : Value) = (fun (ns : List Nat) => (Value.tuple #[(u64 0), (Value.slice none 0 0), (int (bondE X o.i o.a))])) ns ∧ ([(lb0 w (bondX X o.i o.a)), (lb1 (bondX X o.i o.a)), (lb2 (bondX X o.i o.a)), (lb3 (bondX X o.i o.a))] : List (Option Blk)) = (fun (ns : List Nat) => [(lb0 w (bondX X o.i o.a)), (lb1 (bondX X o.i o.a)), (lb2 (bondX X o.i o.a)), (lb3 (bondX X o.i o.a))]) ns) [] (aI (@rfl Nat 0) (aI (@rfl Value (Value.tuple #[(u64 0), (Value.slice none 0 0), (int (bondE X o.i o.a))])) (@rfl (List (Option Blk)) [(lb0 w (bondX X o.i o.a)), (lb1 (bondX X o.i o.a)), (lb2 (bondX X o.i o.a)), (lb3 (bondX X o.i o.a))])))))))) (show ((o.d : Int) == 1) = true from by rw [hd]; rfl))))))
theorem done_2 {F : Blk → Prop} (w : Nat) (X : LgR) (K : Nat) (o : OpR) (h : LOk X X.L K) (hd : o.d = 2) : RunsO F Try.prog 10 [(ptr w 0), (Value.agg #[(int o.d), (int o.i), (u64 o.a)])] [(lb0 w X), (lb1 X), (lb2 X), (lb3 X)] 2 (fun (ns : List Nat) => (Value.tuple #[(u64 0), (Value.slice none 0 0), (int (unbE X o.i o.a))])) (fun (ns : List Nat) => [(lb0 w (unbX X o.i o.a (ns.getD 0 0) (ns.getD 1 0))), (lb1 (unbX X o.i o.a (ns.getD 0 0) (ns.getD 1 0))), (lb2 (unbX X o.i o.a (ns.getD 0 0) (ns.getD 1 0))), (lb3 (unbX X o.i o.a (ns.getD 0 0) (ns.getD 1 0)))]) :=
  runsO_of_ev mix Try.func10 rfl rfl 400 (.regn (rg [.new, .g, .g, .g]) (more (fun n1 => fun _ => (.reg (rg [.g, (.ld 4 (.lit 0))]) (.reg (rg [.g, .g]) (.no (.reg (rg [.g, .g]) (.yes (.regn (rg [.g, .g, (.ld 4 (.lit 1)), .g, (.ld 4 (.lit 2)), (.callO [(0, false), (1, false), (2, false), (3, false)] 2 0 (fun ns => (int (unbE X o.i o.a))) (fun ns => [lb0 w (unbX X o.i o.a (ns.getD 0 0) (ns.getD 1 0)), lb1 (unbX X o.i o.a (ns.getD 0 0) (ns.getD 1 0)), lb2 (unbX X o.i o.a (ns.getD 0 0) (ns.getD 1 0)), lb3 (unbX X o.i o.a (ns.getD 0 0) (ns.getD 1 0))])), .g, .g, .g]) (more (fun n2 => more (fun n3 => fun _ => .done)))))))))))) [] [] rfl
    (Eq.mp (by kernel_rfl) (fun (n1 : Nat) => aI kV4 (aI (sk (aI (aT (ad n1 0)) tV)) (aI kV2 ((fun (hp1 : ((o.d : Int) == 1) = false) => aT (aI hp1 (aI kV2 ((fun (hp2 : ((o.d : Int) == 2) = true) => aT (aI hp2 (fun (n2 n3 : Nat) => aI (sK2 (aI (aT (ad n1 1)) (sk (aI (aT (ad n1 2)) (aI (aT (unb_O (F := F) w X o.i o.a h.ok)) kV3))))) (aT (eX (fun (ns : List Nat) => ns.length = 2 ∧ ((Value.tuple #[(u64 0), (Value.slice none 0 0), (int (unbE X o.i o.a))]) : Value) = (fun (ns : List Nat) => (Value.tuple #[(u64 0), (Value.slice none 0 0), (int (unbE X o.i o.a))])) ns ∧ ([(lb0 w (unbX X o.i o.a n2 n3)), (lb1 (unbX X o.i o.a n2 n3)), (lb2 (unbX X o.i o.a n2 n3)), (lb3 (unbX X o.i o.a n2 n3))] : List (Option Blk)) = (fun (ns : List Nat) => [(lb0 w (unbX X o.i o.a (ns.getD 0 0) (ns.getD 1 0))), (lb1 (unbX X o.i o.a (ns.getD 0 0) (ns.getD 1 0))), (lb2 (unbX X o.i o.a (ns.getD 0 0) (ns.getD 1 0))), (lb3 (unbX X o.i o.a (ns.getD 0 0) (ns.getD 1 0)))]) ns) [n2, n3] (aI (@rfl Nat 2) (aI (@rfl Value (Value.tuple #[(u64 0), (Value.slice none 0 0), (int (unbE X o.i o.a))])) (@rfl (List (Option Blk)) [(lb0 w (unbX X o.i o.a n2 n3)), (lb1 (unbX X o.i o.a n2 n3)), (lb2 (unbX X o.i o.a n2 n3)), (lb3 (unbX X o.i o.a n2 n3))])))))))) (show ((o.d : Int) == 2) = true from by rw [hd]; rfl))))) (show ((o.d : Int) == 1) = false from by rw [hd]; rfl))))))
theorem done_3 {F : Blk → Prop} (w : Nat) (X : LgR) (K : Nat) (o : OpR) (h : LOk X X.L K) (hd : o.d = 3) : RunsO F Try.prog 10 [(ptr w 0), (Value.agg #[(int o.d), (int o.i), (u64 o.a)])] [(lb0 w X), (lb1 X), (lb2 X), (lb3 X)] 0 (fun (ns : List Nat) => (Value.tuple #[(u64 (fauV X o.i o.a)), (Value.slice none 0 0), (int (fauE X o.i))])) (fun (ns : List Nat) => [(lb0 w (fauX X o.i o.a)), (lb1 (fauX X o.i o.a)), (lb2 (fauX X o.i o.a)), (lb3 (fauX X o.i o.a))]) :=
  runsO_of_ev mix Try.func10 rfl rfl 400 (.regn (rg [.new, .g, .g, .g]) (more (fun n1 => fun _ => (.reg (rg [.g, (.ld 4 (.lit 0))]) (.reg (rg [.g, .g]) (.no (.reg (rg [.g, .g]) (.no (.reg (rg [.g, .g]) (.yes (.reg (rg [.g, .g, (.ld 4 (.lit 1)), .g, (.ld 4 (.lit 2)), (.callO [(0, false), (1, false), (2, false), (3, false)] 0 0 (fun ns => (Value.tuple #[(u64 (fauV X o.i o.a)), (int (fauE X o.i))])) (fun ns => [lb0 w (fauX X o.i o.a), lb1 (fauX X o.i o.a), lb2 (fauX X o.i o.a), lb3 (fauX X o.i o.a)])), .g, .g, .g, .g, .g]) (.reg (rg [.g, .g, .g, .g, .g]) .done)))))))))))) [] [] rfl
    (Eq.mp (by kernel_rfl) (fun (n1 : Nat) => aI kV4 (aI (sk (aI (aT (ad n1 0)) tV)) (aI kV2 ((fun (hp1 : ((o.d : Int) == 1) = false) => aT (aI hp1 (aI kV2 ((fun (hp2 : ((o.d : Int) == 2) = false) => aT (aI hp2 (aI kV2 ((fun (hp3 : ((o.d : Int) == 3) = true) => aT (aI hp3 (aI (sK2 (aI (aT (ad n1 1)) (sk (aI (aT (ad n1 2)) (aI (aT (fau_O (F := F) w X o.i o.a h.ok (h.fau_pre o.i o.a))) (sk kV4)))))) (aI (sk kV4) (aT (eX (fun (ns : List Nat) => ns.length = 0 ∧ ((Value.tuple #[(u64 (fauV X o.i o.a)), (Value.slice none 0 0), (int (fauE X o.i))]) : Value) = (fun (ns : List Nat) => (Value.tuple #[(u64 (fauV X o.i o.a)), (Value.slice none 0 0), (int (fauE X o.i))])) ns ∧ ([(lb0 w (fauX X o.i o.a)), (lb1 (fauX X o.i o.a)), (lb2 (fauX X o.i o.a)), (lb3 (fauX X o.i o.a))] : List (Option Blk)) = (fun (ns : List Nat) => [(lb0 w (fauX X o.i o.a)), (lb1 (fauX X o.i o.a)), (lb2 (fauX X o.i o.a)), (lb3 (fauX X o.i o.a))]) ns) [] (aI (@rfl Nat 0) (aI (@rfl Value (Value.tuple #[(u64 (fauV X o.i o.a)), (Value.slice none 0 0), (int (fauE X o.i))])) (@rfl (List (Option Blk)) [(lb0 w (fauX X o.i o.a)), (lb1 (fauX X o.i o.a)), (lb2 (fauX X o.i o.a)), (lb3 (fauX X o.i o.a))]))))))))) (show ((o.d : Int) == 3) = true from by rw [hd]; rfl))))) (show ((o.d : Int) == 2) = false from by rw [hd]; rfl))))) (show ((o.d : Int) == 1) = false from by rw [hd]; rfl))))))
theorem done_4 {F : Blk → Prop} (w : Nat) (X : LgR) (K : Nat) (o : OpR) (h : LOk X X.L K) (hd1 : o.d ≠ 1) (hd2 : o.d ≠ 2) (hd3 : o.d ≠ 3) : RunsO F Try.prog 10 [(ptr w 0), (Value.agg #[(int o.d), (int o.i), (u64 o.a)])] [(lb0 w X), (lb1 X), (lb2 X), (lb3 X)] 2 (fun (ns : List Nat) => (Value.tuple #[(u64 0), (gsV (gsOf (dueP (X.e + 1) X.L) (fun k => (((X.L.getD k paZ).w : Nat) : Int)) (ns.getD 0 0) (ns.getD 1 0))), (int 0)])) (fun (ns : List Nat) => [(lb0 w (nxtX X)), (lb1 (nxtX X)), (lb2 (nxtX X)), (lb3 (nxtX X)), (gsE intC [int 0] 1 (gsOf (dueP (X.e + 1) X.L) (fun k => (((X.L.getD k paZ).w : Nat) : Int)) (ns.getD 0 0) (ns.getD 1 0)))]) :=
  runsO_of_ev mix Try.func10 rfl rfl 400 (.regn (rg [.new, .g, .g, .g]) (more (fun n1 => fun _ => (.reg (rg [.g, (.ld 4 (.lit 0))]) (.reg (rg [.g, .g]) (.no (.reg (rg [.g, .g]) (.no (.reg (rg [.g, .g]) (.no (.regn (rg [.g, (.callO [(0, false), (1, false), (2, false), (3, false)] 2 1 (fun ns => gsV (nxtA X (ns.getD 0 0) (ns.getD 1 0))) (fun ns => [lb0 w (nxtX X), lb1 (nxtX X), lb2 (nxtX X), lb3 (nxtX X), gsE intC [int 0] 1 (nxtA X (ns.getD 0 0) (ns.getD 1 0))])), .g, .g, .g]) (more (fun n2 => more (fun n3 => fun _ => .done)))))))))))))) [] [5] rfl
    (Eq.mp (by kernel_rfl) (fun (n1 : Nat) => aI kV4 (aI (sk (aI (aT (ad n1 0)) tV)) (aI kV2 ((fun (hp1 : ((o.d : Int) == 1) = false) => aT (aI hp1 (aI kV2 ((fun (hp2 : ((o.d : Int) == 2) = false) => aT (aI hp2 (aI kV2 ((fun (hp3 : ((o.d : Int) == 3) = false) => aT (aI hp3 (fun (n2 n3 : Nat) => aI (sk (aI (aT (nxt_L (F := F) w X h)) kV3)) (aT (eX (fun (ns : List Nat) => ns.length = 2 ∧ ((Value.tuple #[(u64 0), (gsV (nxtA X n2 n3)), (int 0)]) : Value) = (fun (ns : List Nat) => (Value.tuple #[(u64 0), (gsV (gsOf (dueP (X.e + 1) X.L) (fun k => (((X.L.getD k paZ).w : Nat) : Int)) (ns.getD 0 0) (ns.getD 1 0))), (int 0)])) ns ∧ ([(lb0 w (nxtX X)), (lb1 (nxtX X)), (lb2 (nxtX X)), (lb3 (nxtX X)), (gsE intC [int 0] 1 (nxtA X n2 n3))] : List (Option Blk)) = (fun (ns : List Nat) => [(lb0 w (nxtX X)), (lb1 (nxtX X)), (lb2 (nxtX X)), (lb3 (nxtX X)), (gsE intC [int 0] 1 (gsOf (dueP (X.e + 1) X.L) (fun k => (((X.L.getD k paZ).w : Nat) : Int)) (ns.getD 0 0) (ns.getD 1 0)))]) ns) [(nxtA X n2 n3).nm, (nxtA X n2 n3).r] (aI (@rfl Nat 2) (aI ((show ((Value.tuple #[(u64 0), (gsV (nxtA X n2 n3)), (int 0)]) : Value) = (Value.tuple #[(u64 0), (gsV (gsOf (dueP (X.e + 1) X.L) (fun k => (((X.L.getD k paZ).w : Nat) : Int)) (nxtA X n2 n3).nm (nxtA X n2 n3).r)), (int 0)]) from by first | rw [((gs_tell (C := intC) (zc := [int 0]) (sz := 1) (A := (nxtA X n2 n3)) (S := (dueP (X.e + 1) X.L)) (F := (fun k => (((X.L.getD k paZ).w : Nat) : Int))) rfl rfl (fun _ _ => rfl))).1] | (rfl))) ((show ([(lb0 w (nxtX X)), (lb1 (nxtX X)), (lb2 (nxtX X)), (lb3 (nxtX X)), (gsE intC [int 0] 1 (nxtA X n2 n3))] : List (Option Blk)) = [(lb0 w (nxtX X)), (lb1 (nxtX X)), (lb2 (nxtX X)), (lb3 (nxtX X)), (gsE intC [int 0] 1 (gsOf (dueP (X.e + 1) X.L) (fun k => (((X.L.getD k paZ).w : Nat) : Int)) (nxtA X n2 n3).nm (nxtA X n2 n3).r))] from by first | rw [((gs_tell (C := intC) (zc := [int 0]) (sz := 1) (A := (nxtA X n2 n3)) (S := (dueP (X.e + 1) X.L)) (F := (fun k => (((X.L.getD k paZ).w : Nat) : Int))) rfl rfl (fun _ _ => rfl))).1, ((gs_tell (C := intC) (zc := [int 0]) (sz := 1) (A := (nxtA X n2 n3)) (S := (dueP (X.e + 1) X.L)) (F := (fun k => (((X.L.getD k paZ).w : Nat) : Int))) rfl rfl (fun _ _ => rfl))).2] | rw [((gs_tell (C := intC) (zc := [int 0]) (sz := 1) (A := (nxtA X n2 n3)) (S := (dueP (X.e + 1) X.L)) (F := (fun k => (((X.L.getD k paZ).w : Nat) : Int))) rfl rfl (fun _ _ => rfl))).2]))))))))) (show ((o.d : Int) == 3) = false from by exact beq_false_of_ne hd3))))) (show ((o.d : Int) == 2) = false from by exact beq_false_of_ne hd2))))) (show ((o.d : Int) == 1) = false from by exact beq_false_of_ne hd1))))))
section
variable {F : Blk → Prop}
theorem lb_own (w : Nat) (X : LgR) {r : List (Option Blk)} (hr : ownL r) : ownL (LB w X ++ r) := by
  refine ⟨rfl, rfl, rfl, ?_⟩
  show ownL (lb3 X :: r)
  unfold lb3
  cases X.z with
  | true => exact hr
  | false => exact ⟨rfl, hr⟩
theorem done_O (w : Nat) (X : LgR) (K : Nat) (o : OpR) (h : LOk X X.L K) : RunsO F Try.prog 10 [ptr w 0, .agg #[int o.d, int o.i, u64 o.a]] (LB w X) 2 (fun ns => .tuple #[u64 (dnV X o), gsV (dnA X o (ns.getD 0 0) (ns.getD 1 0)), int (dnE X o)])
    (fun ns => LB w (dnX X o (ns.getD 0 0) (ns.getD 1 0)) ++ [gsE intC [int 0] 1 (dnA X o (ns.getD 0 0) (ns.getD 1 0))]) := by
  by_cases h1 : o.d = 1
  · obtain ⟨e1, e2, e3, e4⟩ := dn_1 (X := X) h1
    simp only [e1, e2, e3, e4]
    exact (done_1 w X K o h h1).as (.refl _) (fun _ => [0, 0]) fun ns hns => ⟨rfl, rfl, sub_none [_, _, _, _], lb_own w _ tV⟩
  by_cases h2 : o.d = 2
  · obtain ⟨e1, e2, e3, e4⟩ := dn_2 (X := X) h2
    simp only [e1, e2, e3, e4]
    exact (done_2 w X K o h h2).as (.refl _) id fun ns hns => ⟨hns, rfl, sub_none [_, _, _, _], lb_own w _ tV⟩
  by_cases h3 : o.d = 3
  · obtain ⟨e1, e2, e3, e4⟩ := dn_3 (X := X) h3
    simp only [e1, e2, e3, e4]
    exact (done_3 w X K o h h3).as (.refl _) (fun _ => [0, 0]) fun ns hns => ⟨rfl, rfl, sub_none [_, _, _, _], lb_own w _ tV⟩
  obtain ⟨e1, e2, e3, e4⟩ := dn_4 (X := X) h1 h2 h3
  simp only [e1, e2, e3, e4]
  exact (done_4 w X K o h h1 h2 h3).as (.refl _) id fun ns hns => ⟨hns, rfl, .refl _, lb_own w _ (gsE_ownL tV)⟩
end
end Go.Proofs.Ytchkbchbfilipaa
end
section
namespace Go.Proofs.Ytchkbchbfilipaa
open Go Go.Eng
def ints_any_S1 (x : Nat) (o2 : Nat) (f : Nat → Int) (c : Nat) (n : Nat) (y : Nat) (o : Nat) (d : Nat) (g : Nat → Int) (x1 : Nat) : St := ⟨[(0, .v (Value.slice (some ⟨x, o2, none⟩) n c)), (1, .v (Value.slice (some ⟨y, o, none⟩) n d)), (5, .v (nat x1))], [(0, some ⟨x, false, o2, (tabF n (fun k => int (f k)))⟩), (1, some ⟨y, false, o, (tabF n (fun k => int (g k)))⟩)], 2⟩
def ints_any_R1 (x : Nat) (o2 : Nat) (f : Nat → Int) (c : Nat) (n : Nat) (y : Nat) (o : Nat) (d : Nat) (g : Nat → Int) (x1 : Nat) : Prop := (x1 ≤ n)
def ints_any_mu1 (x : Nat) (o2 : Nat) (f : Nat → Int) (c : Nat) (n : Nat) (y : Nat) (o : Nat) (d : Nat) (g : Nat → Int) (x1 : Nat) : Nat := n - x1
theorem ints_any (x o2 : Nat) (f : Nat → Int) (c n y o d : Nat) (g : Nat → Int) (hn : n ≤ 9223372036854775807) (hq : ∀ k, k < n → f k = g k) : Runs Try.prog 15 [(Value.slice (some ⟨x, o2, none⟩) n c), (Value.slice (some ⟨y, o, none⟩) n d)] [⟨x, false, o2, (tabF n (fun k => int (f k)))⟩, ⟨y, false, o, (tabF n (fun k => int (g k)))⟩] 0 (fun _ => Value.bool true) (fun _ => [some ⟨x, false, o2, (tabF n (fun k => int (f k)))⟩, some ⟨y, false, o, (tabF n (fun k => int (g k)))⟩]) :=
  runs_of_ev mix Try.func15 rfl rfl 400 (.reg (rg [.g]) (.reg (rg [.g, (.as (nat n)), .g, (.as (nat n)), (.as (Value.bool (!(decide (n = n)))))]) (.no (.reg (rg [.g]) (.inv [0, 1, 5] [0, 1] 2 (ints_any_R1 x o2 f c n y o d g) (ints_any_S1 x o2 f c n y o d g) (ints_any_mu1 x o2 f c n y o d g) (0 : Nat) (fun (x1 : Nat) => (.reg (rg [.g, .g, (.as (nat n)), (.as (Value.bool (decide (x1 < n))))]) (.br (.reg (rg [.g, .g, (.as (ptr x (o2 + x1 * 1))), (.ld 0 (.tab x1 0)), .g, .g, (.as (ptr y (o + x1 * 1))), (.ld 1 (.tab x1 0)), .g]) (.no (.reg (rg [.g, (.as (nat (x1 + 1))), .g]) .done))) (.reg (rg [.g]) .done))))))))) [] [] rfl
    (Eq.mp (by kernel_rfl) (aI kV1 (aI (sk (aI (aT (@is_len Try.prog 35 3 (.tmp 6) (by kernel_rfl) (some ⟨x, o2, none⟩) n c)) (sk (aI (aT (@is_len Try.prog 35 3 (.tmp 8) (by kernel_rfl) (some ⟨y, o, none⟩) n d)) (aI (aT (@is_neqn Try.prog 3 3 (.tmp 7) (.tmp 9)  n n)) tV))))) ((fun (hp1 : (!(decide (n = n))) = false) => have f1 : (n = n) := (oT (bnot_f hp1)); aT (aI hp1 (aI kV1 (aI (show (ints_any_R1 x o2 f c n y o d g) (0 : Nat) from (show (0 ≤ n) from by omega)) (aI (@rfl St ((ints_any_S1 x o2 f c n y o d g) (0 : Nat))) (fun (x1 : Nat) (hx1 : (ints_any_R1 x o2 f c n y o d g) x1) => have B0 : x1 ≤ n := hx1; aI (sK2 (aI (aT (@is_len Try.prog 35 3 (.tmp 12) (by kernel_rfl) (some ⟨x, o2, none⟩) n c)) (aI (aT (@is_lssn Try.prog 3 3 (.tmp 11) (.tmp 13)  x1 n)) tV))) (aT (aI (fun (h2 : (decide (x1 < n)) = true) => have f3 := (oT h2); aI (sK2 (aI (aT (@is_ixSl Try.prog 35 3 (.tmp 17) (.tmp 18) 1 (by kernel_rfl) (by kernel_rfl) x o2 n c x1 (show x1 < n from by omega))) (aI (aT (aI (show x1 < n from by omega) (@rfl Value (ptr x (o2 + x1 * 1))))) (sK2 (aI (aT (@is_ixSl Try.prog 35 3 (.tmp 21) (.tmp 22) 1 (by kernel_rfl) (by kernel_rfl) y o n d x1 (show x1 < n from by omega))) (aI (aT (aI (show x1 < n from by omega) (@rfl Value (ptr y (o + x1 * 1))))) kV1)))))) ((fun (hp3 : (((f x1) : Int) != (g x1)) = false) => aT (aI hp3 (aI (sk (aI (aT (@is_addn Try.prog 3 3 (.tmp 15) (.const (.int .i64 1))  x1 1 (show x1 + 1 ≤ 9223372036854775807 from by omega))) kV1)) ((rnd (ints_any_R1 x o2 f c n y o d g) (ints_any_S1 x o2 f c n y o d g) (ints_any_mu1 x o2 f c n y o d g) x1 (x1 + 1 : Nat) (show (ints_any_R1 x o2 f c n y o d g) (x1 + 1 : Nat) ∧ (ints_any_mu1 x o2 f c n y o d g) (x1 + 1 : Nat) < (ints_any_mu1 x o2 f c n y o d g) x1 from (show (((x1 + 1) ≤ n)) ∧ (n - (x1 + 1)) < (n - x1) from by omega))))))) (show (((f x1) : Int) != (g x1)) = false from by rw [hq _ (by omega)]; simp [selB]))) (fun (h2 : (decide (x1 < n)) = false) => have f3 := (oF h2); aI kV1 (aT (eX (fun (ns : List Nat) => ns.length = 0 ∧ ((Value.bool true) : Value) = (fun _ => Value.bool true) ns ∧ ([some ⟨x, false, o2, (tabF n (fun k => int (f k)))⟩, some ⟨y, false, o, (tabF n (fun k => int (g k)))⟩] : List (Option Blk)) = (fun _ => [some ⟨x, false, o2, (tabF n (fun k => int (f k)))⟩, some ⟨y, false, o, (tabF n (fun k => int (g k)))⟩]) ns) [] (aI (@rfl Nat 0) (aI (@rfl Value (Value.bool true)) (@rfl (List (Option Blk)) [some ⟨x, false, o2, (tabF n (fun k => int (f k)))⟩, some ⟨y, false, o, (tabF n (fun k => int (g k)))⟩])))))))))))))) (show (!(decide (n = n))) = false from by simp)))))
theorem ints_none (wa wb : Option Addr) (c d : Nat) : Runs Try.prog 15 [(Value.slice wa 0 c), (Value.slice wb 0 d)] [] 0 (fun _ => Value.bool true) (fun _ => []) :=
  runs_of_ev mix Try.func15 rfl rfl 400 (.reg (rg [.g]) (.reg (rg [.g, (.as (nat 0)), .g, (.as (nat 0)), (.as (Value.bool (!(decide (0 = 0)))))]) (.no (.reg (rg [.g]) (.unroll (.reg (rg [.g, .g, (.as (nat 0)), (.as (Value.bool (decide (0 < 0))))]) (.no (.reg (rg [.g]) .done)))))))) [] [] rfl
    (Eq.mp (by kernel_rfl) (aI kV1 (aI (sk (aI (aT (@is_len Try.prog 35 3 (.tmp 6) (by kernel_rfl) wa 0 c)) (sk (aI (aT (@is_len Try.prog 35 3 (.tmp 8) (by kernel_rfl) wb 0 d)) (aI (aT (@is_neqn Try.prog 3 3 (.tmp 7) (.tmp 9)  0 0)) tV))))) ((fun (hp1 : (!(decide (0 = 0))) = false) => have f0 : (0 = 0) := (oT (bnot_f hp1)); aT (aI hp1 (aI kV1 (aI (sK2 (aI (aT (@is_len Try.prog 35 3 (.tmp 12) (by kernel_rfl) wa 0 c)) (aI (aT (@is_lssn Try.prog 3 3 (.tmp 11) (.tmp 13)  0 0)) tV))) ((fun (hp2 : (decide (0 < 0)) = false) => have f1 := (oF hp2); aT (aI hp2 (aI kV1 (aT (eX (fun (ns : List Nat) => ns.length = 0 ∧ ((Value.bool true) : Value) = (fun _ => Value.bool true) ns ∧ ([] : List (Option Blk)) = (fun _ => []) ns) [] (aI (@rfl Nat 0) (aI (@rfl Value (Value.bool true)) (@rfl (List (Option Blk)) [])))))))) (show (decide (0 < 0)) = false from by rfl)))))) (show (!(decide (0 = 0))) = false from by rfl)))))
theorem one_eq {f g : Nat → Int} (h : f 0 = g 0) : ∀ k, k < 1 → f k = g k := fun k hk => by
  have e : k = 0 := by omega
  rw [e]; exact h
theorem ints_O {F : Blk → Prop} {wa wb : Option Addr} {n m ca cb : Nat} {f g : Nat → Int} {oa ob : Option Blk} (ha : Src intC 1 oa wa n f) (hb : Src intC 1 ob wb m g) (hn : n = m) (hN : n ≤ 9223372036854775807) (hq : ∀ k, k < n → f k = g k) :
    RunsO F Try.prog 15 [.slice wa n ca, .slice wb m cb] [oa, ob] 0 (fun _ => .bool true) (fun _ => [none, none]) := by
  subst hn
  rcases Nat.eq_zero_or_pos n with h0 | h0
  · subst h0
    exact (ints_none wa wb ca cb).toO.as (.zz _) id fun ns h => ⟨h, rfl, .dn (.dn (.zz _)), tV⟩
  · obtain ⟨b, o, S, rfl, rfl, h3, h4⟩ := ha h0
    obtain ⟨b', o', S', rfl, rfl, k3, k4⟩ := hb h0
    exact (Runs.dark [true, true] (ints_any b o f ca n b' o' cb g hN hq)).toO.as (.kp _ _ (Holds.retab (b := ⟨b, false, o, S⟩) rfl h3 h4) (.kp _ _ (Holds.retab (b := ⟨b', false, o', S'⟩) rfl k3 k4) (.zz _))) id fun ns h => ⟨h, rfl, .dr _ (.dr _ (.zz _)), tV⟩
theorem snew_2 {F : Blk → Prop} (p : Nat) (x y d : UInt64) (hd : d ≤ 100) (hg : goodN 2 (urow2 x y)) : RunsO F Try.prog 8 [.slice (some ⟨p, 0, none⟩) 2 2, u64 d] [some ⟨p, false, 0, .lit [u64 x, u64 y]⟩] 4 (fun ns => .tuple #[ptr (ns.getD 0 0) 0, int 0]) (fun ns => none :: LB (ns.getD 0 0) (lgN 2 (urow2 x y) d (ns.getD 1 0) (ns.getD 2 0) (ns.getD 3 0))) :=
  (snew_O p 0 2 2 (urow2 x y) d (by decide) hd hg).as (.kp _ _ ⟨fun _ h => h, rfl, fun w hw => hw.recont (b := ⟨p, false, 0, .lit [u64 x, u64 y]⟩) rfl fun j v hj => by
    by_cases h : j < 2
    · rw [tabF_in h] at hj
      have := lit2u_get x y j h
      rw [Nat.zero_add] at this; rw [this]; exact hj
    · rw [tabF_out h] at hj; cases hj⟩ (.zz _)) id fun ns h => ⟨h, rfl, .refl _, rfl, rfl, rfl, tV⟩
theorem awake_runs : Runs Try.prog 7 [] [] 0 (fun _ => Value.bool true) (fun _ => []) :=
  runs_of_ev mix Try.func7 rfl rfl 400 (.reg (rg [.g]) (.regn (rg [(.oth [] 1 1 (fun ns => Value.slice (some ⟨ns.getD 0 0, 0, none⟩) 2 2) (fun ns => [some ⟨ns.getD 0 0, true, 0, .lit [(u64 10), (u64 10)]⟩])), (.callO [(0, true)] 4 4 (fun ns => (Value.tuple #[ptr (ns.getD 0 0) 0, int 0])) (fun ns => [none, lb0 (ns.getD 0 0) (lgN 2 (urow2 10 10) 1 (ns.getD 1 0) (ns.getD 2 0) (ns.getD 3 0)), lb1 (lgN 2 (urow2 10 10) 1 (ns.getD 1 0) (ns.getD 2 0) (ns.getD 3 0)), lb2 (lgN 2 (urow2 10 10) 1 (ns.getD 1 0) (ns.getD 2 0) (ns.getD 3 0)), lb3 (lgN 2 (urow2 10 10) 1 (ns.getD 1 0) (ns.getD 2 0) (ns.getD 3 0))])), .g, .g, .g, .g, .g]) (more (fun n1 => more (fun n2 => more (fun n3 => more (fun n4 => more (fun n5 => fun _ => (.reg (rg [.g, .g, .g, (.run .g), (.run .g), .pk]) (.no (.reg (rg [.g, (.callO [(1, false), (2, false), (3, false), (4, false)] 0 0 (fun ns => (int 0)) (fun ns => [lb0 n2 (bondX (lgN 2 (urow2 10 10) 1 n3 n4 n5) (0 : Int) 8), lb1 (bondX (lgN 2 (urow2 10 10) 1 n3 n4 n5) (0 : Int) 8), lb2 (bondX (lgN 2 (urow2 10 10) 1 n3 n4 n5) (0 : Int) 8), lb3 (bondX (lgN 2 (urow2 10 10) 1 n3 n4 n5) (0 : Int) 8)]))]) (.reg (rg [.g, (.callO [(1, false), (2, false), (3, false), (4, false)] 0 0 (fun ns => (int 0)) (fun ns => [lb0 n2 (bondX (bondX (lgN 2 (urow2 10 10) 1 n3 n4 n5) (0 : Int) 8) (1 : Int) 4), lb1 (bondX (bondX (lgN 2 (urow2 10 10) 1 n3 n4 n5) (0 : Int) 8) (1 : Int) 4), lb2 (bondX (bondX (lgN 2 (urow2 10 10) 1 n3 n4 n5) (0 : Int) 8) (1 : Int) 4), lb3 (bondX (bondX (lgN 2 (urow2 10 10) 1 n3 n4 n5) (0 : Int) 8) (1 : Int) 4)]))]) (.regn (rg [.g, (.callO [(1, false), (2, false), (3, false), (4, false)] 2 0 (fun ns => (int 0)) (fun ns => [lb0 n2 (unbX (bondX (bondX (lgN 2 (urow2 10 10) 1 n3 n4 n5) (0 : Int) 8) (1 : Int) 4) (0 : Int) 3 (ns.getD 0 0) (ns.getD 1 0)), lb1 (unbX (bondX (bondX (lgN 2 (urow2 10 10) 1 n3 n4 n5) (0 : Int) 8) (1 : Int) 4) (0 : Int) 3 (ns.getD 0 0) (ns.getD 1 0)), lb2 (unbX (bondX (bondX (lgN 2 (urow2 10 10) 1 n3 n4 n5) (0 : Int) 8) (1 : Int) 4) (0 : Int) 3 (ns.getD 0 0) (ns.getD 1 0)), lb3 (unbX (bondX (bondX (lgN 2 (urow2 10 10) 1 n3 n4 n5) (0 : Int) 8) (1 : Int) 4) (0 : Int) 3 (ns.getD 0 0) (ns.getD 1 0))]))]) (more (fun n6 => more (fun n7 => fun _ => (.reg (rg [.g, (.callO [(1, true), (2, true), (3, true)] 0 0 (fun ns => (u64 3)) (fun ns => [none, none, none])), .g]) (.regn (rg [.g, (.callO [(1, false), (2, false), (3, false), (4, false)] 2 1 (fun ns => gsV (nxtA (unbX (bondX (bondX (lgN 2 (urow2 10 10) 1 n3 n4 n5) (0 : Int) 8) (1 : Int) 4) (0 : Int) 3 n6 n7) (ns.getD 0 0) (ns.getD 1 0))) (fun ns => [lb0 n2 (nxtX (unbX (bondX (bondX (lgN 2 (urow2 10 10) 1 n3 n4 n5) (0 : Int) 8) (1 : Int) 4) (0 : Int) 3 n6 n7)), lb1 (nxtX (unbX (bondX (bondX (lgN 2 (urow2 10 10) 1 n3 n4 n5) (0 : Int) 8) (1 : Int) 4) (0 : Int) 3 n6 n7)), lb2 (nxtX (unbX (bondX (bondX (lgN 2 (urow2 10 10) 1 n3 n4 n5) (0 : Int) 8) (1 : Int) 4) (0 : Int) 3 n6 n7)), lb3 (nxtX (unbX (bondX (bondX (lgN 2 (urow2 10 10) 1 n3 n4 n5) (0 : Int) 8) (1 : Int) 4) (0 : Int) 3 n6 n7)), gsE intC [int 0] 1 (nxtA (unbX (bondX (bondX (lgN 2 (urow2 10 10) 1 n3 n4 n5) (0 : Int) 8) (1 : Int) 4) (0 : Int) 3 n6 n7) (ns.getD 0 0) (ns.getD 1 0))])), .g]) (more (fun n8 => more (fun n9 => fun _ => (.reg (rg [.g, (.callO [(1, true), (2, true), (3, true)] 0 0 (fun ns => (u64 2)) (fun ns => [none, none, none])), .g]) (.regn (rg [.g, (.callO [(1, false), (2, false), (3, false), (4, false)] 2 1 (fun ns => gsV (nxtA (nxtX (unbX (bondX (bondX (lgN 2 (urow2 10 10) 1 n3 n4 n5) (0 : Int) 8) (1 : Int) 4) (0 : Int) 3 n6 n7)) (ns.getD 0 0) (ns.getD 1 0))) (fun ns => [lb0 n2 (nxtX (nxtX (unbX (bondX (bondX (lgN 2 (urow2 10 10) 1 n3 n4 n5) (0 : Int) 8) (1 : Int) 4) (0 : Int) 3 n6 n7))), lb1 (nxtX (nxtX (unbX (bondX (bondX (lgN 2 (urow2 10 10) 1 n3 n4 n5) (0 : Int) 8) (1 : Int) 4) (0 : Int) 3 n6 n7))), lb2 (nxtX (nxtX (unbX (bondX (bondX (lgN 2 (urow2 10 10) 1 n3 n4 n5) (0 : Int) 8) (1 : Int) 4) (0 : Int) 3 n6 n7))), lb3 (nxtX (nxtX (unbX (bondX (bondX (lgN 2 (urow2 10 10) 1 n3 n4 n5) (0 : Int) 8) (1 : Int) 4) (0 : Int) 3 n6 n7))), gsE intC [int 0] 1 (nxtA (nxtX (unbX (bondX (bondX (lgN 2 (urow2 10 10) 1 n3 n4 n5) (0 : Int) 8) (1 : Int) 4) (0 : Int) 3 n6 n7)) (ns.getD 0 0) (ns.getD 1 0))])), .g]) (more (fun n10 => more (fun n11 => fun _ => (.reg (rg [.g, (.callO [(1, true), (2, true), (3, true)] 0 0 (fun ns => (u64 5)) (fun ns => [none, none, none])), .g]) (.reg (rg [.g, (.callO [(1, false), (2, false), (3, false), (4, false)] 0 0 (fun ns => (Value.tuple #[(u64 4), (int 0)])) (fun ns => [lb0 n2 (fauX (nxtX (nxtX (unbX (bondX (bondX (lgN 2 (urow2 10 10) 1 n3 n4 n5) (0 : Int) 8) (1 : Int) 4) (0 : Int) 3 n6 n7))) (1 : Int) 100), lb1 (fauX (nxtX (nxtX (unbX (bondX (bondX (lgN 2 (urow2 10 10) 1 n3 n4 n5) (0 : Int) 8) (1 : Int) 4) (0 : Int) 3 n6 n7))) (1 : Int) 100), lb2 (fauX (nxtX (nxtX (unbX (bondX (bondX (lgN 2 (urow2 10 10) 1 n3 n4 n5) (0 : Int) 8) (1 : Int) 4) (0 : Int) 3 n6 n7))) (1 : Int) 100), lb3 (fauX (nxtX (nxtX (unbX (bondX (bondX (lgN 2 (urow2 10 10) 1 n3 n4 n5) (0 : Int) 8) (1 : Int) 4) (0 : Int) 3 n6 n7))) (1 : Int) 100)])), .g, .g, .g, .g, .g]) (.regn (rg [.g, (.callO [(1, false), (2, false), (3, false), (4, false)] 2 1 (fun ns => gsV (nxtA (fauX (nxtX (nxtX (unbX (bondX (bondX (lgN 2 (urow2 10 10) 1 n3 n4 n5) (0 : Int) 8) (1 : Int) 4) (0 : Int) 3 n6 n7))) (1 : Int) 100) (ns.getD 0 0) (ns.getD 1 0))) (fun ns => [lb0 n2 (nxtX (fauX (nxtX (nxtX (unbX (bondX (bondX (lgN 2 (urow2 10 10) 1 n3 n4 n5) (0 : Int) 8) (1 : Int) 4) (0 : Int) 3 n6 n7))) (1 : Int) 100)), lb1 (nxtX (fauX (nxtX (nxtX (unbX (bondX (bondX (lgN 2 (urow2 10 10) 1 n3 n4 n5) (0 : Int) 8) (1 : Int) 4) (0 : Int) 3 n6 n7))) (1 : Int) 100)), lb2 (nxtX (fauX (nxtX (nxtX (unbX (bondX (bondX (lgN 2 (urow2 10 10) 1 n3 n4 n5) (0 : Int) 8) (1 : Int) 4) (0 : Int) 3 n6 n7))) (1 : Int) 100)), lb3 (nxtX (fauX (nxtX (nxtX (unbX (bondX (bondX (lgN 2 (urow2 10 10) 1 n3 n4 n5) (0 : Int) 8) (1 : Int) 4) (0 : Int) 3 n6 n7))) (1 : Int) 100)), gsE intC [int 0] 1 (nxtA (fauX (nxtX (nxtX (unbX (bondX (bondX (lgN 2 (urow2 10 10) 1 n3 n4 n5) (0 : Int) 8) (1 : Int) 4) (0 : Int) 3 n6 n7))) (1 : Int) 100) (ns.getD 0 0) (ns.getD 1 0))]))]) (more (fun n12 => more (fun n13 => fun _ => (.reg (rg [.g, (.callO [(1, true), (2, true), (3, true)] 0 0 (fun ns => (u64 9)) (fun ns => [none, none, none])), .g]) (.regn (rg [.g, .g, .g, (.run .g), (.run (.as (int 0))), (.run .g), .pk, .g, (.run .g), (.run .g), .pk, .g, (.run .g), (.run (.oth [] 1 1 (fun ns => Value.slice (some ⟨ns.getD 0 0, 0, none⟩) 1 1) (fun ns => [some ⟨ns.getD 0 0, true, 0, .lit [(int 0)]⟩]))), (.run (.callO [(6, true), (8, true)] 0 0 (fun ns => (Value.bool true)) (fun ns => [none, none]))), .pk, .g, (.run .g), (.run .g), .pk, .g, (.run .g), (.run .g), .pk, .g, (.run .g), (.run .g), .pk, .g]) (more (fun n14 => fun _ => .done)))))))))))))))))))))))))))))))))))) [] [] rfl
    (Eq.mp (by kernel_rfl) (aI kV1 (fun (n1 n2 n3 n4 n5 : Nat) => aI (aI (aT (mk_build (P := Try.prog) (t := 22) (e := 23) one23 2 #[(0, (u64 10)), (1, (u64 10))] #[(u64 10), (u64 10)] (by kernel_rfl) (by decide) (by kernel_rfl))) (aI (aT (snew_2 (F := (fun _ => False)) n1 10 10 1 (by decide) (goodN_sum.2 (by decide)))) (sk kV4))) (aI (sK3 (aI (aI (@rfl Bool true) t2) (aI (aI (@rfl Bool true) t2) (aI (aT (aI (fun (_ : false = true) => tV) (fun (_ : false = false) => tV))) tV)))) (aT (aI (@rfl Bool false) (aI (sk (aI (aT (RunsO.val (bond_O (F := (fun _ => False)) n2 (lgN 2 (urow2 10 10) 1 n3 n4 n5) (0 : Int) 8 (show LOk (lgN 2 (urow2 10 10) 1 n3 n4 n5) (lgN 2 (urow2 10 10) 1 n3 n4 n5).L _ from LOk.new (by decide) (by decide) (by decide) (goodN_sum.2 (by decide)) _ _ _).ok) (show (fun ns => (int (bondE (lgN 2 (urow2 10 10) 1 n3 n4 n5) (0 : Int) 8)) : List Nat → Value) = (fun ns => (int 0)) from by kernel_rfl))) tV)) (aI (sk (aI (aT (RunsO.val (bond_O (F := (fun _ => False)) n2 (bondX (lgN 2 (urow2 10 10) 1 n3 n4 n5) (0 : Int) 8) (1 : Int) 4 (LOk.bond1 (show LOk (lgN 2 (urow2 10 10) 1 n3 n4 n5) (lgN 2 (urow2 10 10) 1 n3 n4 n5).L _ from LOk.new (by decide) (by decide) (by decide) (goodN_sum.2 (by decide)) _ _ _) (0 : Int) 8).ok) (show (fun ns => (int (bondE (bondX (lgN 2 (urow2 10 10) 1 n3 n4 n5) (0 : Int) 8) (1 : Int) 4)) : List Nat → Value) = (fun ns => (int 0)) from by kernel_rfl))) tV)) (fun (n6 n7 : Nat) => aI (sk (aI (aT (RunsO.val (unb_O (F := (fun _ => False)) n2 (bondX (bondX (lgN 2 (urow2 10 10) 1 n3 n4 n5) (0 : Int) 8) (1 : Int) 4) (0 : Int) 3 (LOk.bond1 (LOk.bond1 (show LOk (lgN 2 (urow2 10 10) 1 n3 n4 n5) (lgN 2 (urow2 10 10) 1 n3 n4 n5).L _ from LOk.new (by decide) (by decide) (by decide) (goodN_sum.2 (by decide)) _ _ _) (0 : Int) 8) (1 : Int) 4).ok) (show (fun ns => (int (unbE (bondX (bondX (lgN 2 (urow2 10 10) 1 n3 n4 n5) (0 : Int) 8) (1 : Int) 4) (0 : Int) 3)) : List Nat → Value) = (fun ns => (int 0)) from by kernel_rfl))) tV)) (aI (sk (aI (aT (RunsO.val (lwaiting_O (F := (fun _ => False)) n2 (unbX (bondX (bondX (lgN 2 (urow2 10 10) 1 n3 n4 n5) (0 : Int) 8) (1 : Int) 4) (0 : Int) 3 n6 n7) (0 : Int) (LOk.unb1 (LOk.bond1 (LOk.bond1 (show LOk (lgN 2 (urow2 10 10) 1 n3 n4 n5) (lgN 2 (urow2 10 10) 1 n3 n4 n5).L _ from LOk.new (by decide) (by decide) (by decide) (goodN_sum.2 (by decide)) _ _ _) (0 : Int) 8) (1 : Int) 4) (by decide) (0 : Int) 3 n6 n7).ok) (show (fun ns => (u64 (lgH (unbX (bondX (bondX (lgN 2 (urow2 10 10) 1 n3 n4 n5) (0 : Int) 8) (1 : Int) 4) (0 : Int) 3 n6 n7).N (unbX (bondX (bondX (lgN 2 (urow2 10 10) 1 n3 n4 n5) (0 : Int) 8) (1 : Int) 4) (0 : Int) 3 n6 n7).G 2 (0 : Int))) : List Nat → Value) = (fun ns => (u64 3)) from by kernel_rfl))) kV1)) (fun (n8 n9 : Nat) => aI (sk (aI (aT (nxt_L (F := (fun _ => False)) n2 (unbX (bondX (bondX (lgN 2 (urow2 10 10) 1 n3 n4 n5) (0 : Int) 8) (1 : Int) 4) (0 : Int) 3 n6 n7) (LOk.unb1 (LOk.bond1 (LOk.bond1 (show LOk (lgN 2 (urow2 10 10) 1 n3 n4 n5) (lgN 2 (urow2 10 10) 1 n3 n4 n5).L _ from LOk.new (by decide) (by decide) (by decide) (goodN_sum.2 (by decide)) _ _ _) (0 : Int) 8) (1 : Int) 4) (by decide) (0 : Int) 3 n6 n7))) kV1)) (aI (sk (aI (aT (RunsO.val (lfree_O (F := (fun _ => False)) n2 (nxtX (unbX (bondX (bondX (lgN 2 (urow2 10 10) 1 n3 n4 n5) (0 : Int) 8) (1 : Int) 4) (0 : Int) 3 n6 n7)) (0 : Int) (LOk.nxt1 (LOk.unb1 (LOk.bond1 (LOk.bond1 (show LOk (lgN 2 (urow2 10 10) 1 n3 n4 n5) (lgN 2 (urow2 10 10) 1 n3 n4 n5).L _ from LOk.new (by decide) (by decide) (by decide) (goodN_sum.2 (by decide)) _ _ _) (0 : Int) 8) (1 : Int) 4) (by decide) (0 : Int) 3 n6 n7) (by decide)).ok) (show (fun ns => (u64 (lgH (nxtX (unbX (bondX (bondX (lgN 2 (urow2 10 10) 1 n3 n4 n5) (0 : Int) 8) (1 : Int) 4) (0 : Int) 3 n6 n7)).N (nxtX (unbX (bondX (bondX (lgN 2 (urow2 10 10) 1 n3 n4 n5) (0 : Int) 8) (1 : Int) 4) (0 : Int) 3 n6 n7)).G 0 (0 : Int))) : List Nat → Value) = (fun ns => (u64 2)) from by kernel_rfl))) kV1)) (fun (n10 n11 : Nat) => aI (sk (aI (aT (nxt_L (F := (fun _ => False)) n2 (nxtX (unbX (bondX (bondX (lgN 2 (urow2 10 10) 1 n3 n4 n5) (0 : Int) 8) (1 : Int) 4) (0 : Int) 3 n6 n7)) (LOk.nxt1 (LOk.unb1 (LOk.bond1 (LOk.bond1 (show LOk (lgN 2 (urow2 10 10) 1 n3 n4 n5) (lgN 2 (urow2 10 10) 1 n3 n4 n5).L _ from LOk.new (by decide) (by decide) (by decide) (goodN_sum.2 (by decide)) _ _ _) (0 : Int) 8) (1 : Int) 4) (by decide) (0 : Int) 3 n6 n7) (by decide)))) kV1)) (aI (sk (aI (aT (RunsO.val (lfree_O (F := (fun _ => False)) n2 (nxtX (nxtX (unbX (bondX (bondX (lgN 2 (urow2 10 10) 1 n3 n4 n5) (0 : Int) 8) (1 : Int) 4) (0 : Int) 3 n6 n7))) (0 : Int) (LOk.nxt1 (LOk.nxt1 (LOk.unb1 (LOk.bond1 (LOk.bond1 (show LOk (lgN 2 (urow2 10 10) 1 n3 n4 n5) (lgN 2 (urow2 10 10) 1 n3 n4 n5).L _ from LOk.new (by decide) (by decide) (by decide) (goodN_sum.2 (by decide)) _ _ _) (0 : Int) 8) (1 : Int) 4) (by decide) (0 : Int) 3 n6 n7) (by decide)) (by decide)).ok) (show (fun ns => (u64 (lgH (nxtX (nxtX (unbX (bondX (bondX (lgN 2 (urow2 10 10) 1 n3 n4 n5) (0 : Int) 8) (1 : Int) 4) (0 : Int) 3 n6 n7))).N (nxtX (nxtX (unbX (bondX (bondX (lgN 2 (urow2 10 10) 1 n3 n4 n5) (0 : Int) 8) (1 : Int) 4) (0 : Int) 3 n6 n7))).G 0 (0 : Int))) : List Nat → Value) = (fun ns => (u64 5)) from by kernel_rfl))) kV1)) (aI (sk (aI (aT (RunsO.val (fau_O (F := (fun _ => False)) n2 (nxtX (nxtX (unbX (bondX (bondX (lgN 2 (urow2 10 10) 1 n3 n4 n5) (0 : Int) 8) (1 : Int) 4) (0 : Int) 3 n6 n7))) (1 : Int) 100 (LOk.nxt1 (LOk.nxt1 (LOk.unb1 (LOk.bond1 (LOk.bond1 (show LOk (lgN 2 (urow2 10 10) 1 n3 n4 n5) (lgN 2 (urow2 10 10) 1 n3 n4 n5).L _ from LOk.new (by decide) (by decide) (by decide) (goodN_sum.2 (by decide)) _ _ _) (0 : Int) 8) (1 : Int) 4) (by decide) (0 : Int) 3 n6 n7) (by decide)) (by decide)).ok ((LOk.nxt1 (LOk.nxt1 (LOk.unb1 (LOk.bond1 (LOk.bond1 (show LOk (lgN 2 (urow2 10 10) 1 n3 n4 n5) (lgN 2 (urow2 10 10) 1 n3 n4 n5).L _ from LOk.new (by decide) (by decide) (by decide) (goodN_sum.2 (by decide)) _ _ _) (0 : Int) 8) (1 : Int) 4) (by decide) (0 : Int) 3 n6 n7) (by decide)) (by decide)).fau_pre (1 : Int) 100)) (show (fun ns => (Value.tuple #[(u64 (fauV (nxtX (nxtX (unbX (bondX (bondX (lgN 2 (urow2 10 10) 1 n3 n4 n5) (0 : Int) 8) (1 : Int) 4) (0 : Int) 3 n6 n7))) (1 : Int) 100)), (int (fauE (nxtX (nxtX (unbX (bondX (bondX (lgN 2 (urow2 10 10) 1 n3 n4 n5) (0 : Int) 8) (1 : Int) 4) (0 : Int) 3 n6 n7))) (1 : Int)))]) : List Nat → Value) = (fun ns => (Value.tuple #[(u64 4), (int 0)])) from by kernel_rfl))) (sk kV4))) (fun (n12 n13 : Nat) => aI (sk (aI (aT (nxt_L (F := (fun _ => False)) n2 (fauX (nxtX (nxtX (unbX (bondX (bondX (lgN 2 (urow2 10 10) 1 n3 n4 n5) (0 : Int) 8) (1 : Int) 4) (0 : Int) 3 n6 n7))) (1 : Int) 100) (LOk.fau1 (LOk.nxt1 (LOk.nxt1 (LOk.unb1 (LOk.bond1 (LOk.bond1 (show LOk (lgN 2 (urow2 10 10) 1 n3 n4 n5) (lgN 2 (urow2 10 10) 1 n3 n4 n5).L _ from LOk.new (by decide) (by decide) (by decide) (goodN_sum.2 (by decide)) _ _ _) (0 : Int) 8) (1 : Int) 4) (by decide) (0 : Int) 3 n6 n7) (by decide)) (by decide)) (1 : Int) 100))) tV)) (aI (sk (aI (aT (RunsO.val (lbonded_O (F := (fun _ => False)) n2 (nxtX (fauX (nxtX (nxtX (unbX (bondX (bondX (lgN 2 (urow2 10 10) 1 n3 n4 n5) (0 : Int) 8) (1 : Int) 4) (0 : Int) 3 n6 n7))) (1 : Int) 100)) (0 : Int) (LOk.nxt1 (LOk.fau1 (LOk.nxt1 (LOk.nxt1 (LOk.unb1 (LOk.bond1 (LOk.bond1 (show LOk (lgN 2 (urow2 10 10) 1 n3 n4 n5) (lgN 2 (urow2 10 10) 1 n3 n4 n5).L _ from LOk.new (by decide) (by decide) (by decide) (goodN_sum.2 (by decide)) _ _ _) (0 : Int) 8) (1 : Int) 4) (by decide) (0 : Int) 3 n6 n7) (by decide)) (by decide)) (1 : Int) 100) (by decide)).ok) (show (fun ns => (u64 (lgH (nxtX (fauX (nxtX (nxtX (unbX (bondX (bondX (lgN 2 (urow2 10 10) 1 n3 n4 n5) (0 : Int) 8) (1 : Int) 4) (0 : Int) 3 n6 n7))) (1 : Int) 100)).N (nxtX (fauX (nxtX (nxtX (unbX (bondX (bondX (lgN 2 (urow2 10 10) 1 n3 n4 n5) (0 : Int) 8) (1 : Int) 4) (0 : Int) 3 n6 n7))) (1 : Int) 100)).G 1 (0 : Int))) : List Nat → Value) = (fun ns => (u64 9)) from by kernel_rfl))) kV1)) (fun (n14 : Nat) => aI (sK3 (aI (aI (@rfl Bool true) t2) (aI (aI (@rfl Bool true) (aT (@is_len Try.prog 35 3 (.tmp 50) (by kernel_rfl) (gsA (nxtA (unbX (bondX (bondX (lgN 2 (urow2 10 10) 1 n3 n4 n5) (0 : Int) 8) (1 : Int) 4) (0 : Int) 3 n6 n7) n8 n9)) 0 (gsC (nxtA (unbX (bondX (bondX (lgN 2 (urow2 10 10) 1 n3 n4 n5) (0 : Int) 8) (1 : Int) 4) (0 : Int) 3 n6 n7) n8 n9))))) (aI (aI (@rfl Bool true) t2) (aI (aT (aI (fun (_ : true = true) => tV) (fun (_ : true = false) => tV))) (sk (aI (aI (@rfl Bool true) t2) (aI (aI (@rfl Bool true) t2) (aI (aT (aI (fun (_ : true = true) => tV) (fun (_ : true = false) => tV))) (sk (aI (aI (@rfl Bool true) t2) (aI (aI (@rfl Bool true) (aT (mk_build (P := Try.prog) (t := 35) (e := 3) one3 1 #[(0, (int 0))] #[(int 0)] (by kernel_rfl) (by decide) (by kernel_rfl)))) (aI (aI (@rfl Bool true) (aT (ints_O (F := (fun _ => False)) (ca := gsC (nxtA (nxtX (unbX (bondX (bondX (lgN 2 (urow2 10 10) 1 n3 n4 n5) (0 : Int) 8) (1 : Int) 4) (0 : Int) 3 n6 n7)) n10 n11)) (cb := 1) (n := (nxtA (nxtX (unbX (bondX (bondX (lgN 2 (urow2 10 10) 1 n3 n4 n5) (0 : Int) 8) (1 : Int) 4) (0 : Int) 3 n6 n7)) n10 n11).n) (m := 1) (f := (nxtA (nxtX (unbX (bondX (bondX (lgN 2 (urow2 10 10) 1 n3 n4 n5) (0 : Int) 8) (1 : Int) 4) (0 : Int) 3 n6 n7)) n10 n11).f) (src_gs (zc := [int 0]) (A := (nxtA (nxtX (unbX (bondX (bondX (lgN 2 (urow2 10 10) 1 n3 n4 n5) (0 : Int) 8) (1 : Int) 4) (0 : Int) 3 n6 n7)) n10 n11)) (gsOf_ok _ _ _ _)) (src_lit1 n14 0 (fun _ => 0) rfl) (show (nxtA (nxtX (unbX (bondX (bondX (lgN 2 (urow2 10 10) 1 n3 n4 n5) (0 : Int) 8) (1 : Int) 4) (0 : Int) 3 n6 n7)) n10 n11).n = 1 from by kernel_rfl) (Nat.le_trans (Nat.le_of_eq (show (nxtA (nxtX (unbX (bondX (bondX (lgN 2 (urow2 10 10) 1 n3 n4 n5) (0 : Int) 8) (1 : Int) 4) (0 : Int) 3 n6 n7)) n10 n11).n = 1 from by kernel_rfl)) (by decide)) (fun k hk => one_eq (f := (nxtA (nxtX (unbX (bondX (bondX (lgN 2 (urow2 10 10) 1 n3 n4 n5) (0 : Int) 8) (1 : Int) 4) (0 : Int) 3 n6 n7)) n10 n11).f) (g := fun _ => 0) (show (nxtA (nxtX (unbX (bondX (bondX (lgN 2 (urow2 10 10) 1 n3 n4 n5) (0 : Int) 8) (1 : Int) 4) (0 : Int) 3 n6 n7)) n10 n11).f 0 = 0 from by kernel_rfl) k (Nat.lt_of_lt_of_eq hk (show (nxtA (nxtX (unbX (bondX (bondX (lgN 2 (urow2 10 10) 1 n3 n4 n5) (0 : Int) 8) (1 : Int) 4) (0 : Int) 3 n6 n7)) n10 n11).n = 1 from by kernel_rfl)))))) (aI (aT (aI (fun (_ : true = true) => tV) (fun (_ : true = false) => tV))) (sk (aI (aI (@rfl Bool true) t2) (aI (aI (@rfl Bool true) t2) (aI (aT (aI (fun (_ : true = true) => tV) (fun (_ : true = false) => tV))) (sk (aI (aI (@rfl Bool true) t2) (aI (aI (@rfl Bool true) t2) (aI (aT (aI (fun (_ : true = true) => tV) (fun (_ : true = false) => tV))) (sk (aI (aI (@rfl Bool true) t2) (aI (aI (@rfl Bool true) t2) (aI (aT (aI (fun (_ : true = true) => tV) (fun (_ : true = false) => tV))) kV1)))))))))))))))))))))))))) (aT (eX (fun (ns : List Nat) => ns.length = 0 ∧ ((Value.bool true) : Value) = (fun _ => Value.bool true) ns ∧ ([] : List (Option Blk)) = (fun _ => []) ns) [] (aI (@rfl Nat 0) (aI (@rfl Value (Value.bool true)) (@rfl (List (Option Blk)) [])))))))))))))))))))))))
end Go.Proofs.Ytchkbchbfilipaa
end
section
namespace Go.Eng
theorem lgH_at {N : Nat} {G : Nat → UInt64} {k j : Nat} (h : j < N) : lgH N G k ((j : Nat) : Int) = G (k * N + j) := by unfold lgH; rw [isI_nat h]; rfl
theorem lgH_no {N : Nat} {G : Nat → UInt64} {k : Nat} {i : Int} (h : isI N i = false) : lgH N G k i = 0 := by unfold lgH; rw [h]; rfl
def s3 (X : LgR) : Nat → UInt64
  | 0 => X.G (3 * X.N) + X.G (3 * X.N + 1)
  | j + 1 => s3 X j + lgH X.N X.G 0 ((j : Nat) : Int) + lgH X.N X.G 1 ((j : Nat) : Int) + lgH X.N X.G 2 ((j : Nat) : Int)
theorem sumW_split (f : Nat → UInt64) (a : Nat) : ∀ b, sumW f (a + b) = sumW f a + sumW (fun j => f (a + j)) b
  | 0 => by show sumW f a = sumW f a + 0; rw [UInt64.add_zero]
  | b + 1 => by
    show sumW f (a + b) + f (a + b) = sumW f a + (sumW (fun j => f (a + j)) b + f (a + b))
    rw [sumW_split f a b, UInt64.add_assoc]
theorem s3_at (X : LgR) : ∀ j, j ≤ X.N → s3 X j = X.G (3 * X.N) + X.G (3 * X.N + 1) + (sumW X.G j + sumW (fun k => X.G (1 * X.N + k)) j + sumW (fun k => X.G (2 * X.N + k)) j)
  | 0, _ => by show _ = _ + (0 + 0 + 0); rw [UInt64.add_zero, UInt64.add_zero, UInt64.add_zero]; rfl
  | j + 1, h => by
    rw [s3, s3_at X j (by omega), lgH_at (by omega), lgH_at (by omega), lgH_at (by omega)]
    simp only [sumW, Nat.zero_mul, Nat.zero_add]
    ac_rfl
theorem s3_all (X : LgR) : s3 X X.N = sumW X.G (3 * X.N + 2) := by
  rw [s3_at X X.N (Nat.le_refl _)]
  have h1 : sumW X.G (3 * X.N + 2) = sumW X.G (3 * X.N) + X.G (3 * X.N) + X.G (3 * X.N + 1) := rfl
  have h2 := sumW_split X.G X.N X.N
  have h3 := sumW_split X.G (X.N + X.N) X.N
  have e2 : (fun k => X.G (1 * X.N + k)) = fun k => X.G (X.N + k) := by funext k; rw [Nat.one_mul]
  have e3 : (fun k => X.G (2 * X.N + k)) = fun k => X.G (X.N + X.N + k) := by funext k; rw [Nat.two_mul]
  rw [h1, show 3 * X.N = X.N + X.N + X.N by omega, h3, h2, e2, e3]
  ac_rfl
section
variable {X : LgR} {K n : Nat} {f : Nat → UInt64}
theorem LOk.sumw (h : LOk X X.L K) (hN : X.N = n) (hs : sumU X.G (3 * n + 2) = sumU f n) (hg : goodN n f) : sumW X.G (3 * X.N + 2) = sumW f n := by
  have h1 := (goodN_sum.1 hg).2
  apply UInt64.toNat_inj.1
  rw [sumW_val f n (by omega), hN, sumW_val X.G (3 * n + 2) (by omega)]; exact hs
theorem LOk.s3 (h : LOk X X.L K) (hN : X.N = n) (hs : sumU X.G (3 * n + 2) = sumU f n) (hg : goodN n f) : Go.Eng.s3 X n = sumW f n := by
  rw [← h.sumw hN hs hg, ← s3_all, hN]
end
end Go.Eng
end
section
namespace Go.Eng
theorem partP_pot {w : UInt64} {T : N4} : partP 0 w T = 0 := by
  have e : (mul8 (smallN 0) (smallN w)).lo.val = 0 := by rw [mulSmall]; simp
  have e2 : wholeP 0 w T = N4.ofNat 0 := by unfold wholeP quoD; rw [e, Nat.zero_div]
  unfold partP
  rw [e2]; rfl
structure ApR (X : LgR) (n i : Nat) (v b : UInt64) : Prop where
  N : X.N = n
  fre : X.G i = v
  bnd : b.toNat ≤ (X.G (n + i)).toNat
  non : ∀ p ∈ X.L, p.w ≠ i
theorem LOk.apart {X : LgR} {K n i : Nat} {v b : UInt64} (h : LOk X X.L K) (hK : K ≤ 100000) (hi : i < n) (ha : ApR X n i v b) (o : OpR) (ho : o.i ≠ (i : Int) ∨ o.d < 1 ∨ 3 < o.d) (nm r : Nat) : ApR (dnX X o nm r) n i v b := by
  obtain ⟨hN, hf, hb, hn⟩ := ha
  subst hN
  have hN8 := h.ok.N8
  have hne : o.d = 1 ∨ o.d = 2 ∨ o.d = 3 → o.i ≠ (i : Int) := fun hd => by
    rcases ho with ho | ho | ho
    · exact ho
    · omega
    · omega
  unfold dnX
  by_cases h1 : o.d = 1
  · rw [if_pos h1]
    have hoi := hne (.inl h1)
    cases hc : isI X.N o.i with
    | false =>
      have e : bondX X o.i o.a = X := by unfold bondX; rw [hc]; rfl
      rw [e]; exact ⟨rfl, hf, hb, hn⟩
    | true =>
      obtain ⟨c1, c2⟩ := isI_iff.1 hc
      obtain ⟨j, hj⟩ := Int.eq_ofNat_of_zero_le c1
      have hjN : j < X.N := by omega
      have hji : j ≠ i := fun e => hoi (by rw [hj, e])
      have e : bondX X o.i o.a = { X with G := moveF (3 * X.N + 2) X.G ((0 * X.N + j : Nat) : Int) ((1 * X.N + j : Nat) : Int) o.a } := by unfold bondX; rw [hc, hj]; rfl
      rw [e]
      refine ⟨rfl, ?_, ?_, hn⟩
      · show moveF _ X.G _ _ o.a i = v
        by_cases hx : X.G (0 * X.N + j) < o.a
        · rw [moveF_no (by rw [moveE_at (by omega) (by omega), if_pos hx]; decide)]; exact hf
        · rw [moveF_at (by omega) (by omega) (by omega) hx]; unfold mvF; rw [if_neg (by omega), if_neg (by omega)]; exact hf
      · show b.toNat ≤ (moveF _ X.G _ _ o.a (X.N + i)).toNat
        by_cases hx : X.G (0 * X.N + j) < o.a
        · rw [moveF_no (by rw [moveE_at (by omega) (by omega), if_pos hx]; decide)]; exact hb
        · rw [moveF_at (by omega) (by omega) (by omega) hx]; unfold mvF; rw [if_neg (by omega), if_neg (by omega)]; exact hb
  rw [if_neg h1]
  by_cases h2 : o.d = 2
  · rw [if_pos h2]
    have hoi := hne (.inr (.inl h2))
    by_cases hc : unbE X o.i o.a = 0 ∧ o.a ≠ 0
    · obtain ⟨hi2, hx, _⟩ := unb_in hc
      obtain ⟨c1, c2⟩ := isI_iff.1 hi2
      obtain ⟨j, hj⟩ := Int.eq_ofNat_of_zero_le c1
      have hjN : j < X.N := by omega
      have hji : j ≠ i := fun e => hoi (by rw [hj, e])
      have e : unbX X o.i o.a nm r = _ := if_pos hc
      rw [e]
      rw [hj] at hx ⊢
      simp only [Int.toNat_natCast] at hx ⊢
      refine ⟨rfl, ?_, ?_, fun p hp => ?_⟩
      · show moveF _ X.G _ _ o.a i = v
        rw [moveF_at (by omega) (by omega) (by omega) hx]; unfold mvF; rw [if_neg (by omega), if_neg (by omega)]; exact hf
      · show b.toNat ≤ (moveF _ X.G _ _ o.a (X.N + i)).toNat
        rw [moveF_at (by omega) (by omega) (by omega) hx]; unfold mvF; rw [if_neg (by omega), if_neg (by omega)]; exact hb
      · rcases List.mem_append.1 hp with hp | hp
        · exact hn p hp
        · rw [List.mem_singleton.1 hp]; exact hji
    · rw [unbX, if_neg hc]; exact ⟨rfl, hf, hb, hn⟩
  rw [if_neg h2]
  by_cases h3 : o.d = 3
  · rw [if_pos h3]
    have hoi := hne (.inr (.inr h3))
    cases hc : isI X.N o.i with
    | false =>
      have e : fauX X o.i o.a = X := by unfold fauX; rw [hc]; rfl
      rw [e]; exact ⟨rfl, hf, hb, hn⟩
    | true =>
      obtain ⟨c1, c2⟩ := isI_iff.1 hc
      obtain ⟨j, hj⟩ := Int.eq_ofNat_of_zero_le c1
      have hjN : j < X.N := by omega
      have hji : j ≠ i := fun e => hoi (by rw [hj, e])
      have e : fauX X o.i o.a = { X with G := (fltR X j o.a).G, n := (fltR X j o.a).n, F := (fltR X j o.a).F, L := fauL X X.L o.i o.a } := by unfold fauX; rw [hc, hj]; rfl
      rw [e]
      have hO := h.flO hjN o.a
      obtain ⟨k1, k2, k3, k4⟩ := h.flt hjN o.a
      have hs : ∀ q, q ≠ 1 * X.N + j → q ≠ 3 * X.N → (fltS X j o.a).G q = X.G q := fun q q1 q2 => by rw [k3]; unfold mvF; rw [if_neg q2, if_neg q1]
      refine ⟨rfl, ?_, ?_, fun p hp => ?_⟩
      · show (fltR X j o.a).G i = v
        rw [hO.oth i (by omega), hs i (by omega) (by omega)]; exact hf
      · show b.toNat ≤ ((fltR X j o.a).G (X.N + i)).toNat
        rw [hO.oth _ (by omega), hs _ (by omega) (by omega)]; exact hb
      · have hp' : p ∈ fauL X X.L o.i o.a := hp
        unfold fauL at hp'
        rw [hc, if_pos rfl] at hp'
        obtain ⟨q, hq, ew, _⟩ := fltL_mem _ _ _ p hp'
        rw [ew]; exact hn q hq
  rw [if_neg h3]
  have hd := (dueP_at (e := X.e + 1) X.L).1
  have hfr := frG_ok h.rel _ hd
  refine ⟨rfl, ?_, ?_, fun p hp => hn p (List.mem_of_mem_drop hp)⟩
  · show spX X.N (frG X.N X.L X.G (dueP (X.e + 1) X.L)) i = v
    rw [spX_same (.inl hi)]
    have h5 := hfr.fre i hi
    rw [sumA_none (L := X.L) hn, sumA_none (L := X.L.drop _) fun p hp => hn p (List.mem_of_mem_drop hp)] at h5
    apply UInt64.toNat_inj.1
    rw [← hf]; exact h5
  · show b.toNat ≤ (spX X.N (frG X.N X.L X.G (dueP (X.e + 1) X.L)) (X.N + i)).toNat
    rw [(spX_bond hN8 hfr.good (j := X.N + i) (by omega)).2.1, hfr.oth _ (by omega) (by omega)]
    show b.toNat ≤ (X.G (X.N + i)).toNat + _
    omega
theorem ApR.fin {X : LgR} {K n i : Nat} {v b : UInt64} (h : LOk X X.L K) (hi : i < n) (ha : ApR X n i v b) : lgH X.N X.G 0 ((i : Nat) : Int) = v ∧ decide (b ≤ lgH X.N X.G 1 ((i : Nat) : Int)) = true ∧ lgH X.N X.G 2 ((i : Nat) : Int) = 0 := by
  obtain ⟨hN, hf, hb, hn⟩ := ha
  subst hN
  refine ⟨by rw [lgH_at hi, show 0 * X.N + i = i by omega]; exact hf, decide_eq_true ?_, ?_⟩
  · rw [lgH_at hi, show 1 * X.N + i = X.N + i by omega]; exact UInt64.le_iff_toNat_le.2 hb
  · rw [lgH_at hi]
    apply UInt64.toNat_inj.1
    have := h.rel.wt i hi
    rw [sumA_none hn] at this; exact this
structure WtR (X : LgR) (s x d i : UInt64) : Prop where
  hN : X.N = 2
  he : X.e = i
  hd : X.d = d
  hL : X.L = [⟨0, x, d + 1, 0⟩]
  g0 : X.G 0 = 0
  g2 : X.G 2 = s - x
  g4 : X.G 4 = x
  g6 : X.G 6 = 0
theorem u_lt {a b : UInt64} (h : a < b) : (a + 1).toNat = a.toNat + 1 := by
  have h' : a.toNat < b.toNat := h
  have := b.toNat_lt
  rw [UInt64.toNat_add]; show (a.toNat + 1) % _ = _; rw [Nat.mod_eq_of_lt (by omega)]
theorem spX_zero {X : LgR} {G : Nat → UInt64} (hN : X.N = 2) (h6 : G 6 = 0) : spX X.N G 0 = G 0 ∧ spX X.N G 2 = G 2 ∧ spX X.N G 4 = G 4 ∧ spX X.N G 6 = 0 := by
  rw [hN]
  refine ⟨spX_same (.inl (by decide)), ?_, spX_same (.inr (by decide)), spX_pot⟩
  rw [spX_at (by decide), show 3 * 2 = 6 from rfl, h6, partP_pot, if_neg (by decide), UInt64.add_zero]
theorem WtR.step {X : LgR} {s x d i : UInt64} (h : WtR X s x d i) (hi : i < d) (hd : d ≤ 100) (nm r : Nat) : WtR (nxtX X) s x d (i + 1) ∧ (nxtA X nm r).n = 0 := by
  obtain ⟨hN, he, hdd, hL, h0, h2, h4, h6⟩ := h
  have h1 := u_lt hi
  have hd' : d.toNat ≤ 100 := UInt64.le_iff_toNat_le.1 hd
  have hd1 : (d + 1).toNat = d.toNat + 1 := by rw [UInt64.toNat_add]; show (d.toNat + 1) % _ = _; rw [Nat.mod_eq_of_lt (by omega)]
  have hi' : i.toNat < d.toNat := hi
  have hnd : ¬ d + 1 ≤ i + 1 := fun hc => by have := UInt64.le_iff_toNat_le.1 hc; omega
  have e0 : dueP (X.e + 1) X.L = 0 := by
    rw [hL, he]; unfold dueP; simp [hnd]
  have hz := spX_zero (G := X.G) hN h6
  refine ⟨⟨hN, by show X.e + 1 = _; rw [he], hdd, by show X.L.drop _ = _; rw [e0, hL]; rfl, ?_, ?_, ?_, ?_⟩, by show dueP (X.e + 1) X.L = 0; exact e0⟩
  · show spX X.N (frG X.N X.L X.G (dueP (X.e + 1) X.L)) 0 = 0; rw [e0]; show spX X.N X.G 0 = 0; rw [hz.1, h0]
  · show spX X.N (frG X.N X.L X.G (dueP (X.e + 1) X.L)) 2 = _; rw [e0]; show spX X.N X.G 2 = _; rw [hz.2.1, h2]
  · show spX X.N (frG X.N X.L X.G (dueP (X.e + 1) X.L)) 4 = _; rw [e0]; show spX X.N X.G 4 = _; rw [hz.2.2.1, h4]
  · show spX X.N (frG X.N X.L X.G (dueP (X.e + 1) X.L)) 6 = _; rw [e0]; exact hz.2.2.2
theorem WtR.last {X : LgR} {s x d : UInt64} (h : WtR X s x d d) (nm r : Nat) : (nxtA X nm r).n = 1 ∧ (nxtA X nm r).f 0 = 0 ∧ lgH (nxtX X).N (nxtX X).G 0 0 = x ∧ lgH (nxtX X).N (nxtX X).G 2 0 = 0 ∧ lgH (nxtX X).N (nxtX X).G 1 0 = s - x := by
  obtain ⟨hN, he, hdd, hL, h0, h2, h4, h6⟩ := h
  have e0 : dueP (X.e + 1) X.L = 1 := by
    rw [hL, he]; unfold dueP; simp
  have hx : ¬ X.G 4 < x := by rw [h4]; exact fun h => Nat.lt_irrefl _ h
  have hf : frG X.N X.L X.G 1 = mvF X.G 4 0 x := by
    rw [frG, frG, hN, hL]
    exact moveF_at (n := 8) (f := X.G) (a := 4) (b := 0) (x := x) (by decide) (by decide) (by decide) hx
  have hz := spX_zero (G := mvF X.G 4 0 x) hN (show X.G 6 = 0 from h6)
  have hG : (nxtX X).G = spX X.N (mvF X.G 4 0 x) := by show spX X.N (frG X.N X.L X.G (dueP (X.e + 1) X.L)) = _; rw [e0, hf]
  have hNN : (nxtX X).N = 2 := hN
  refine ⟨e0, ?_, ?_, ?_, ?_⟩
  · show (((X.L.getD 0 paZ).w : Nat) : Int) = 0; rw [hL]; rfl
  · rw [hG, hNN]; show spX X.N (mvF X.G 4 0 x) 0 = x
    rw [hz.1]; show X.G 0 + x = x; rw [h0, UInt64.zero_add]
  · rw [hG, hNN]; show spX X.N (mvF X.G 4 0 x) 4 = 0
    rw [hz.2.2.1]; show X.G 4 - x = 0; rw [h4, UInt64.sub_self]
  · rw [hG, hNN]; show spX X.N (mvF X.G 4 0 x) 2 = _
    rw [hz.2.1]; exact h2
end Go.Eng
end
section
namespace Go.Eng
open Go.RowKit Go.WideShapes Go.ChangeShapes Go.ChangeAt Go.Deep
theorem gs_src {α : Type} {C : α → List Value} {zc : List Value} {sz : Nat} (A : Grw α) (hA : A.ok) (hsz : 0 < sz) (hC : ∀ a, (C a).length = sz) (hz : zc.length = sz) :
    0 < A.n → ∃ k bo os S, gsA A = some ⟨k, bo + os, none⟩ ∧ roO (gsE C zc sz A) = some ⟨k, false, bo, S⟩ ∧ ∀ j, j < A.n * sz → S.get (os + j) = some (cf sz (fun k => C (A.f k)) j) := fun h0 => by
  have hz' := hA.pos h0
  refine ⟨A.nm, 0, 0, sprE sz (A.n + A.r) A.n (fun k => C (A.f k)) zc, gsA_own hz', by rw [gsE_own hz']; rfl, fun j hj => ?_⟩
  have h1 : j < (A.n + A.r) * sz := by rw [Nat.add_mul]; omega
  rw [Nat.zero_add]
  unfold sprE
  rw [tabE_in hsz (fun k _ => by split; exact hC _; exact hz) h1, cf_spr_lt hj]
end Go.Eng
end
section
namespace Go.Eng
end Go.Eng
namespace Go.Eng
end Go.Eng
namespace Go.Eng
end Go.Eng
end
