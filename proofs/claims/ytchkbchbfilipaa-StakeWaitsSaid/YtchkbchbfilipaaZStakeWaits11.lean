/-
  Many in one: StkAw, Stake7, Stake8.
-/
import Derived.Test.YtchkbchbfilipaaZStakeWaits10
section
namespace Go.Proofs.Ytchkbchbfilipaa
open Go Go.Eng
set_option linter.unusedVariables false
set_option linter.unusedSimpArgs false
set_option maxRecDepth 100000
set_option maxHeartbeats 1000000
def ints_any_S1 (x : Nat) (o2 : Nat) (f : Nat → Int) (c : Nat) (n : Nat) (y : Nat) (o : Nat) (d : Nat) (g : Nat → Int) (x1 : Nat) : St := ⟨[(0, .v (Value.slice (some ⟨x, o2, none⟩) n c)), (1, .v (Value.slice (some ⟨y, o, none⟩) n d)), (5, .v (nat x1))], [(0, some ⟨x, false, o2, (tabF n (fun k => int (f k)))⟩), (1, some ⟨y, false, o, (tabF n (fun k => int (g k)))⟩)], 2⟩
def ints_any_R1 (x : Nat) (o2 : Nat) (f : Nat → Int) (c : Nat) (n : Nat) (y : Nat) (o : Nat) (d : Nat) (g : Nat → Int) (x1 : Nat) : Prop := (x1 ≤ n)
def ints_any_mu1 (x : Nat) (o2 : Nat) (f : Nat → Int) (c : Nat) (n : Nat) (y : Nat) (o : Nat) (d : Nat) (g : Nat → Int) (x1 : Nat) : Nat := n - x1
theorem ints_any (x o2 : Nat) (f : Nat → Int) (c n y o d : Nat) (g : Nat → Int) (hn : n ≤ 9223372036854775807) (hq : ∀ k, k < n → f k = g k) : Runs Try.prog 15 [(Value.slice (some ⟨x, o2, none⟩) n c), (Value.slice (some ⟨y, o, none⟩) n d)] [⟨x, false, o2, (tabF n (fun k => int (f k)))⟩, ⟨y, false, o, (tabF n (fun k => int (g k)))⟩] 0 (fun (_ : List Nat) => Value.bool true) (fun (_ : List Nat) => [some ⟨x, false, o2, (tabF n (fun k => int (f k)))⟩, some ⟨y, false, o, (tabF n (fun k => int (g k)))⟩]) :=
  runs_of_ev mix Try.func15 rfl rfl 400 (.reg [(0, .g)] (.reg [(0, .g), (1, (.as (nat n))), (2, .g), (3, (.as (nat n))), (4, (.as (Value.bool (!(decide (n = n))))))] (.no (.reg [(0, .g)] (.inv [0, 1, 5] [0, 1] 2 (ints_any_R1 x o2 f c n y o d g) (ints_any_S1 x o2 f c n y o d g) (ints_any_mu1 x o2 f c n y o d g) (0 : Nat) (fun (x1 : Nat) => (.reg [(0, .g), (1, .g), (2, (.as (nat n))), (3, (.as (Value.bool (decide (x1 < n)))))] (.br (.reg [(0, .g), (1, .g), (2, (.as (ptr x (o2 + x1 * 1)))), (3, (.ld 0 (.tab x1 0))), (4, .g), (5, .g), (6, (.as (ptr y (o + x1 * 1)))), (7, (.ld 1 (.tab x1 0))), (8, .g)] (.no (.reg [(0, .g), (1, (.as (nat (x1 + 1)))), (2, .g)] .done))) (.reg [(0, .g)] .done))))))))) [] [] rfl
    (Eq.mp (by kernel_rfl) (have f0 : n ≤ 9223372036854775807 := hn; And.intro (sk trivial) (And.intro (sk (And.intro (And.intro trivial (@is_len Try.prog 35 3 (.tmp 6) (by kernel_rfl) (some ⟨x, o2, none⟩) n c)) (sk (And.intro (And.intro trivial (@is_len Try.prog 35 3 (.tmp 8) (by kernel_rfl) (some ⟨y, o, none⟩) n d)) (And.intro (And.intro trivial (@is_neqn Try.prog 3 3 (.tmp 7) (.tmp 9)  n n)) trivial))))) ((fun (hp1 : (!(decide (n = n))) = false) => have f1 : (n = n) := (of_decide_eq_true (bnot_f hp1)); And.intro trivial (And.intro hp1 (And.intro (sk trivial) (And.intro (show (ints_any_R1 x o2 f c n y o d g) (0 : Nat) from (show (0 ≤ n) from by omega)) (And.intro (@rfl St ((ints_any_S1 x o2 f c n y o d g) (0 : Nat))) (fun (x1 : Nat) (hx1 : (ints_any_R1 x o2 f c n y o d g) x1) => have B0 : x1 ≤ n := hx1; And.intro (sk (sk (And.intro (And.intro trivial (@is_len Try.prog 35 3 (.tmp 12) (by kernel_rfl) (some ⟨x, o2, none⟩) n c)) (And.intro (And.intro trivial (@is_lssn Try.prog 3 3 (.tmp 11) (.tmp 13)  x1 n)) trivial)))) (And.intro trivial (And.intro (fun (h2 : (decide (x1 < n)) = true) => have f3 : (x1 < n) := (of_decide_eq_true h2); And.intro (sk (sk (And.intro (And.intro trivial (@is_ixSl Try.prog 35 3 (.tmp 17) (.tmp 18) 1 (by kernel_rfl) (by kernel_rfl) x o2 n c x1 (show x1 < n from by omega))) (And.intro (And.intro trivial (And.intro (show x1 < n from by omega) (@rfl Value (ptr x (o2 + x1 * 1))))) (sk (sk (And.intro (And.intro trivial (@is_ixSl Try.prog 35 3 (.tmp 21) (.tmp 22) 1 (by kernel_rfl) (by kernel_rfl) y o n d x1 (show x1 < n from by omega))) (And.intro (And.intro trivial (And.intro (show x1 < n from by omega) (@rfl Value (ptr y (o + x1 * 1))))) (sk trivial))))))))) ((fun (hp3 : (((f x1) : Int) != (g x1)) = false) => have f4 : (((f x1) : Int) != (g x1)) = false := hp3; And.intro trivial (And.intro hp3 (And.intro (sk (And.intro (And.intro trivial (@is_addn Try.prog 3 3 (.tmp 15) (.const (.int .i64 1))  x1 1 (show x1 + 1 ≤ 9223372036854775807 from by omega))) (sk trivial))) ((rnd (ints_any_R1 x o2 f c n y o d g) (ints_any_S1 x o2 f c n y o d g) (ints_any_mu1 x o2 f c n y o d g) x1 (x1 + 1 : Nat) (show (ints_any_R1 x o2 f c n y o d g) (x1 + 1 : Nat) ∧ (ints_any_mu1 x o2 f c n y o d g) (x1 + 1 : Nat) < (ints_any_mu1 x o2 f c n y o d g) x1 from (show (((x1 + 1) ≤ n)) ∧ (n - (x1 + 1)) < (n - x1) from by omega))))))) (show (((f x1) : Int) != (g x1)) = false from by rw [hq _ (by omega)]; simp [selB]))) (fun (h2 : (decide (x1 < n)) = false) => have f3 : ¬ (x1 < n) := (of_decide_eq_false h2); And.intro (sk trivial) (And.intro trivial (@Exists.intro (List Nat) (fun (ns : List Nat) => ns.length = 0 ∧ ((Value.bool true) : Value) = (fun (_ : List Nat) => Value.bool true) ns ∧ ([some ⟨x, false, o2, (tabF n (fun k => int (f k)))⟩, some ⟨y, false, o, (tabF n (fun k => int (g k)))⟩] : List (Option Blk)) = (fun (_ : List Nat) => [some ⟨x, false, o2, (tabF n (fun k => int (f k)))⟩, some ⟨y, false, o, (tabF n (fun k => int (g k)))⟩]) ns) [] (And.intro (@rfl Nat 0) (And.intro (@rfl Value (Value.bool true)) (@rfl (List (Option Blk)) [some ⟨x, false, o2, (tabF n (fun k => int (f k)))⟩, some ⟨y, false, o, (tabF n (fun k => int (g k)))⟩])))))))))))))) (show (!(decide (n = n))) = false from by simp)))))
theorem ints_none (wa wb : Option Addr) (c d : Nat) : Runs Try.prog 15 [(Value.slice wa 0 c), (Value.slice wb 0 d)] [] 0 (fun (_ : List Nat) => Value.bool true) (fun (_ : List Nat) => []) :=
  runs_of_ev mix Try.func15 rfl rfl 400 (.reg [(0, .g)] (.reg [(0, .g), (1, (.as (nat 0))), (2, .g), (3, (.as (nat 0))), (4, (.as (Value.bool (!(decide (0 = 0))))))] (.no (.reg [(0, .g)] (.unroll (.reg [(0, .g), (1, .g), (2, (.as (nat 0))), (3, (.as (Value.bool (decide (0 < 0)))))] (.no (.reg [(0, .g)] .done)))))))) [] [] rfl
    (Eq.mp (by kernel_rfl) (And.intro (sk trivial) (And.intro (sk (And.intro (And.intro trivial (@is_len Try.prog 35 3 (.tmp 6) (by kernel_rfl) wa 0 c)) (sk (And.intro (And.intro trivial (@is_len Try.prog 35 3 (.tmp 8) (by kernel_rfl) wb 0 d)) (And.intro (And.intro trivial (@is_neqn Try.prog 3 3 (.tmp 7) (.tmp 9)  0 0)) trivial))))) ((fun (hp1 : (!(decide (0 = 0))) = false) => have f0 : (0 = 0) := (of_decide_eq_true (bnot_f hp1)); And.intro trivial (And.intro hp1 (And.intro (sk trivial) (And.intro (sk (sk (And.intro (And.intro trivial (@is_len Try.prog 35 3 (.tmp 12) (by kernel_rfl) wa 0 c)) (And.intro (And.intro trivial (@is_lssn Try.prog 3 3 (.tmp 11) (.tmp 13)  0 0)) trivial)))) ((fun (hp2 : (decide (0 < 0)) = false) => have f1 : ¬ (0 < 0) := (of_decide_eq_false hp2); And.intro trivial (And.intro hp2 (And.intro (sk trivial) (And.intro trivial (@Exists.intro (List Nat) (fun (ns : List Nat) => ns.length = 0 ∧ ((Value.bool true) : Value) = (fun (_ : List Nat) => Value.bool true) ns ∧ ([] : List (Option Blk)) = (fun (_ : List Nat) => []) ns) [] (And.intro (@rfl Nat 0) (And.intro (@rfl Value (Value.bool true)) (@rfl (List (Option Blk)) [])))))))) (show (decide (0 < 0)) = false from by rfl)))))) (show (!(decide (0 = 0))) = false from by rfl)))))
theorem one_eq {f g : Nat → Int} (h : f 0 = g 0) : ∀ k, k < 1 → f k = g k := fun k hk => by
  have e : k = 0 := by omega
  rw [e]; exact h
theorem ints_O {F : Blk → Prop} {wa wb : Option Addr} {n m ca cb : Nat} {f g : Nat → Int} {oa ob : Option Blk} (ha : Src intC 1 oa wa n f) (hb : Src intC 1 ob wb m g) (hn : n = m) (hN : n ≤ 9223372036854775807) (hq : ∀ k, k < n → f k = g k) :
    RunsO F Try.prog 15 [.slice wa n ca, .slice wb m cb] [oa, ob] 0 (fun _ => .bool true) (fun _ => [none, none]) := by
  subst hn
  rcases Nat.eq_zero_or_pos n with h0 | h0
  · subst h0
    exact (ints_none wa wb ca cb).toO.as (.zz _) id fun ns h => ⟨h, rfl, .dn (.dn (.zz _)), trivial⟩
  · obtain ⟨b, o, S, rfl, rfl, h3, h4⟩ := ha h0
    obtain ⟨b', o', S', rfl, rfl, k3, k4⟩ := hb h0
    exact (Runs.dark [true, true] (ints_any b o f ca n b' o' cb g hN hq)).toO.as (.kp _ _ ⟨rfl, rfl, fun w hw => hw.recont (b := ⟨b, false, o, S⟩) rfl h4⟩ (.kp _ _ ⟨rfl, rfl, fun w hw => hw.recont (b := ⟨b', false, o', S'⟩) rfl k4⟩ (.zz _))) id fun ns h => ⟨h, rfl, .dr _ (.dr _ (.zz _)), trivial⟩
theorem snew_2 {F : Blk → Prop} (p : Nat) (x y d : UInt64) (hd : d ≤ 100) (hg : goodN 2 (urow2 x y)) : RunsO F Try.prog 8 [.slice (some ⟨p, 0, none⟩) 2 2, u64 d] [some ⟨p, false, 0, .lit [u64 x, u64 y]⟩] 4 (fun ns => .tuple #[ptr (ns.getD 0 0) 0, int 0]) (fun ns => none :: LB (ns.getD 0 0) (lgN 2 (urow2 x y) d (ns.getD 1 0) (ns.getD 2 0) (ns.getD 3 0))) :=
  (snew_O p 0 2 2 (urow2 x y) d (by decide) hd hg).as (.kp _ _ ⟨rfl, rfl, fun w hw => hw.recont (b := ⟨p, false, 0, .lit [u64 x, u64 y]⟩) rfl fun j v hj => by
    by_cases h : j < 2
    · rw [tabF_in h] at hj
      have := lit2u_get x y j h
      rw [Nat.zero_add] at this; rw [this]; exact hj
    · rw [tabF_out h] at hj; cases hj⟩ (.zz _)) id fun ns h => ⟨h, rfl, .refl _, rfl, rfl, rfl, trivial⟩
theorem awake_runs : Runs Try.prog 7 [] [] 0 (fun (_ : List Nat) => Value.bool true) (fun (_ : List Nat) => []) :=
  runs_of_ev mix Try.func7 rfl rfl 400 (.reg [(0, .g)] (.regn [(0, (.oth [] 1 1 (fun ns => Value.slice (some ⟨ns.getD 0 0, 0, none⟩) 2 2) (fun ns => [some ⟨ns.getD 0 0, true, 0, .lit [(u64 10), (u64 10)]⟩]))), (1, (.callO [(0, true)] 4 4 (fun ns => (Value.tuple #[ptr (ns.getD 0 0) 0, int 0])) (fun ns => [none, lb0 (ns.getD 0 0) (lgN 2 (urow2 10 10) 1 (ns.getD 1 0) (ns.getD 2 0) (ns.getD 3 0)), lb1 (lgN 2 (urow2 10 10) 1 (ns.getD 1 0) (ns.getD 2 0) (ns.getD 3 0)), lb2 (lgN 2 (urow2 10 10) 1 (ns.getD 1 0) (ns.getD 2 0) (ns.getD 3 0)), lb3 (lgN 2 (urow2 10 10) 1 (ns.getD 1 0) (ns.getD 2 0) (ns.getD 3 0))]))), (2, .g), (3, .g), (4, .g), (5, .g), (6, .g)] (more (fun n1 => more (fun n2 => more (fun n3 => more (fun n4 => more (fun n5 => fun _ => (.reg [(0, .g), (1, .g), (2, .g), (3, .run .g), (4, .run .g), (5, .pk)] (.no (.reg [(0, .g), (1, (.callO [(1, false), (2, false), (3, false), (4, false)] 0 0 (fun ns => (int 0)) (fun ns => [lb0 n2 (bondX (lgN 2 (urow2 10 10) 1 n3 n4 n5) (0 : Int) 8), lb1 (bondX (lgN 2 (urow2 10 10) 1 n3 n4 n5) (0 : Int) 8), lb2 (bondX (lgN 2 (urow2 10 10) 1 n3 n4 n5) (0 : Int) 8), lb3 (bondX (lgN 2 (urow2 10 10) 1 n3 n4 n5) (0 : Int) 8)])))] (.reg [(0, .g), (1, (.callO [(1, false), (2, false), (3, false), (4, false)] 0 0 (fun ns => (int 0)) (fun ns => [lb0 n2 (bondX (bondX (lgN 2 (urow2 10 10) 1 n3 n4 n5) (0 : Int) 8) (1 : Int) 4), lb1 (bondX (bondX (lgN 2 (urow2 10 10) 1 n3 n4 n5) (0 : Int) 8) (1 : Int) 4), lb2 (bondX (bondX (lgN 2 (urow2 10 10) 1 n3 n4 n5) (0 : Int) 8) (1 : Int) 4), lb3 (bondX (bondX (lgN 2 (urow2 10 10) 1 n3 n4 n5) (0 : Int) 8) (1 : Int) 4)])))] (.regn [(0, .g), (1, (.callO [(1, false), (2, false), (3, false), (4, false)] 2 0 (fun ns => (int 0)) (fun ns => [lb0 n2 (unbX (bondX (bondX (lgN 2 (urow2 10 10) 1 n3 n4 n5) (0 : Int) 8) (1 : Int) 4) (0 : Int) 3 (ns.getD 0 0) (ns.getD 1 0)), lb1 (unbX (bondX (bondX (lgN 2 (urow2 10 10) 1 n3 n4 n5) (0 : Int) 8) (1 : Int) 4) (0 : Int) 3 (ns.getD 0 0) (ns.getD 1 0)), lb2 (unbX (bondX (bondX (lgN 2 (urow2 10 10) 1 n3 n4 n5) (0 : Int) 8) (1 : Int) 4) (0 : Int) 3 (ns.getD 0 0) (ns.getD 1 0)), lb3 (unbX (bondX (bondX (lgN 2 (urow2 10 10) 1 n3 n4 n5) (0 : Int) 8) (1 : Int) 4) (0 : Int) 3 (ns.getD 0 0) (ns.getD 1 0))])))] (more (fun n6 => more (fun n7 => fun _ => (.reg [(0, .g), (1, (.callO [(1, true), (2, true), (3, true)] 0 0 (fun ns => (u64 3)) (fun ns => [none, none, none]))), (2, .g)] (.regn [(0, .g), (1, (.callO [(1, false), (2, false), (3, false), (4, false)] 2 1 (fun ns => gsV (nxtA (unbX (bondX (bondX (lgN 2 (urow2 10 10) 1 n3 n4 n5) (0 : Int) 8) (1 : Int) 4) (0 : Int) 3 n6 n7) (ns.getD 0 0) (ns.getD 1 0))) (fun ns => [lb0 n2 (nxtX (unbX (bondX (bondX (lgN 2 (urow2 10 10) 1 n3 n4 n5) (0 : Int) 8) (1 : Int) 4) (0 : Int) 3 n6 n7)), lb1 (nxtX (unbX (bondX (bondX (lgN 2 (urow2 10 10) 1 n3 n4 n5) (0 : Int) 8) (1 : Int) 4) (0 : Int) 3 n6 n7)), lb2 (nxtX (unbX (bondX (bondX (lgN 2 (urow2 10 10) 1 n3 n4 n5) (0 : Int) 8) (1 : Int) 4) (0 : Int) 3 n6 n7)), lb3 (nxtX (unbX (bondX (bondX (lgN 2 (urow2 10 10) 1 n3 n4 n5) (0 : Int) 8) (1 : Int) 4) (0 : Int) 3 n6 n7)), gsE intC [int 0] 1 (nxtA (unbX (bondX (bondX (lgN 2 (urow2 10 10) 1 n3 n4 n5) (0 : Int) 8) (1 : Int) 4) (0 : Int) 3 n6 n7) (ns.getD 0 0) (ns.getD 1 0))]))), (2, .g)] (more (fun n8 => more (fun n9 => fun _ => (.reg [(0, .g), (1, (.callO [(1, true), (2, true), (3, true)] 0 0 (fun ns => (u64 2)) (fun ns => [none, none, none]))), (2, .g)] (.regn [(0, .g), (1, (.callO [(1, false), (2, false), (3, false), (4, false)] 2 1 (fun ns => gsV (nxtA (nxtX (unbX (bondX (bondX (lgN 2 (urow2 10 10) 1 n3 n4 n5) (0 : Int) 8) (1 : Int) 4) (0 : Int) 3 n6 n7)) (ns.getD 0 0) (ns.getD 1 0))) (fun ns => [lb0 n2 (nxtX (nxtX (unbX (bondX (bondX (lgN 2 (urow2 10 10) 1 n3 n4 n5) (0 : Int) 8) (1 : Int) 4) (0 : Int) 3 n6 n7))), lb1 (nxtX (nxtX (unbX (bondX (bondX (lgN 2 (urow2 10 10) 1 n3 n4 n5) (0 : Int) 8) (1 : Int) 4) (0 : Int) 3 n6 n7))), lb2 (nxtX (nxtX (unbX (bondX (bondX (lgN 2 (urow2 10 10) 1 n3 n4 n5) (0 : Int) 8) (1 : Int) 4) (0 : Int) 3 n6 n7))), lb3 (nxtX (nxtX (unbX (bondX (bondX (lgN 2 (urow2 10 10) 1 n3 n4 n5) (0 : Int) 8) (1 : Int) 4) (0 : Int) 3 n6 n7))), gsE intC [int 0] 1 (nxtA (nxtX (unbX (bondX (bondX (lgN 2 (urow2 10 10) 1 n3 n4 n5) (0 : Int) 8) (1 : Int) 4) (0 : Int) 3 n6 n7)) (ns.getD 0 0) (ns.getD 1 0))]))), (2, .g)] (more (fun n10 => more (fun n11 => fun _ => (.reg [(0, .g), (1, (.callO [(1, true), (2, true), (3, true)] 0 0 (fun ns => (u64 5)) (fun ns => [none, none, none]))), (2, .g)] (.reg [(0, .g), (1, (.callO [(1, false), (2, false), (3, false), (4, false)] 0 0 (fun ns => (Value.tuple #[(u64 4), (int 0)])) (fun ns => [lb0 n2 (fauX (nxtX (nxtX (unbX (bondX (bondX (lgN 2 (urow2 10 10) 1 n3 n4 n5) (0 : Int) 8) (1 : Int) 4) (0 : Int) 3 n6 n7))) (1 : Int) 100), lb1 (fauX (nxtX (nxtX (unbX (bondX (bondX (lgN 2 (urow2 10 10) 1 n3 n4 n5) (0 : Int) 8) (1 : Int) 4) (0 : Int) 3 n6 n7))) (1 : Int) 100), lb2 (fauX (nxtX (nxtX (unbX (bondX (bondX (lgN 2 (urow2 10 10) 1 n3 n4 n5) (0 : Int) 8) (1 : Int) 4) (0 : Int) 3 n6 n7))) (1 : Int) 100), lb3 (fauX (nxtX (nxtX (unbX (bondX (bondX (lgN 2 (urow2 10 10) 1 n3 n4 n5) (0 : Int) 8) (1 : Int) 4) (0 : Int) 3 n6 n7))) (1 : Int) 100)]))), (2, .g), (3, .g), (4, .g), (5, .g), (6, .g)] (.regn [(0, .g), (1, (.callO [(1, false), (2, false), (3, false), (4, false)] 2 1 (fun ns => gsV (nxtA (fauX (nxtX (nxtX (unbX (bondX (bondX (lgN 2 (urow2 10 10) 1 n3 n4 n5) (0 : Int) 8) (1 : Int) 4) (0 : Int) 3 n6 n7))) (1 : Int) 100) (ns.getD 0 0) (ns.getD 1 0))) (fun ns => [lb0 n2 (nxtX (fauX (nxtX (nxtX (unbX (bondX (bondX (lgN 2 (urow2 10 10) 1 n3 n4 n5) (0 : Int) 8) (1 : Int) 4) (0 : Int) 3 n6 n7))) (1 : Int) 100)), lb1 (nxtX (fauX (nxtX (nxtX (unbX (bondX (bondX (lgN 2 (urow2 10 10) 1 n3 n4 n5) (0 : Int) 8) (1 : Int) 4) (0 : Int) 3 n6 n7))) (1 : Int) 100)), lb2 (nxtX (fauX (nxtX (nxtX (unbX (bondX (bondX (lgN 2 (urow2 10 10) 1 n3 n4 n5) (0 : Int) 8) (1 : Int) 4) (0 : Int) 3 n6 n7))) (1 : Int) 100)), lb3 (nxtX (fauX (nxtX (nxtX (unbX (bondX (bondX (lgN 2 (urow2 10 10) 1 n3 n4 n5) (0 : Int) 8) (1 : Int) 4) (0 : Int) 3 n6 n7))) (1 : Int) 100)), gsE intC [int 0] 1 (nxtA (fauX (nxtX (nxtX (unbX (bondX (bondX (lgN 2 (urow2 10 10) 1 n3 n4 n5) (0 : Int) 8) (1 : Int) 4) (0 : Int) 3 n6 n7))) (1 : Int) 100) (ns.getD 0 0) (ns.getD 1 0))])))] (more (fun n12 => more (fun n13 => fun _ => (.reg [(0, .g), (1, (.callO [(1, true), (2, true), (3, true)] 0 0 (fun ns => (u64 9)) (fun ns => [none, none, none]))), (2, .g)] (.regn [(0, .g), (1, .g), (2, .g), (3, .run .g), (4, .run (.as (int 0))), (5, .run .g), (6, .pk), (7, .g), (8, .run .g), (9, .run .g), (10, .pk), (11, .g), (12, .run .g), (13, .run (.oth [] 1 1 (fun ns => Value.slice (some ⟨ns.getD 0 0, 0, none⟩) 1 1) (fun ns => [some ⟨ns.getD 0 0, true, 0, .lit [(int 0)]⟩]))), (14, .run (.callO [(6, true), (8, true)] 0 0 (fun ns => (Value.bool true)) (fun ns => [none, none]))), (15, .pk), (16, .g), (17, .run .g), (18, .run .g), (19, .pk), (20, .g), (21, .run .g), (22, .run .g), (23, .pk), (24, .g), (25, .run .g), (26, .run .g), (27, .pk), (28, .g)] (more (fun n14 => fun _ => .done)))))))))))))))))))))))))))))))))))) [] [] rfl
    (Eq.mp (by kernel_rfl) (And.intro (sk trivial) (fun (n1 n2 n3 n4 n5 : Nat) => And.intro (And.intro (And.intro trivial (mk_build (P := Try.prog) (t := 22) (e := 23) one23 2 #[(0, (u64 10)), (1, (u64 10))] #[(u64 10), (u64 10)] (by kernel_rfl) (by decide) (by kernel_rfl))) (And.intro (And.intro trivial (snew_2 (F := (fun _ => False)) n1 10 10 1 (by decide) (goodN_sum.2 (by decide)))) (sk (sk (sk (sk (sk trivial))))))) (And.intro (sk (sk (sk (And.intro (And.intro (@rfl Bool true) t2) (And.intro (And.intro (@rfl Bool true) t2) (And.intro (And.intro trivial (And.intro (fun (_ : false = true) => trivial) (fun (_ : false = false) => trivial))) trivial)))))) (And.intro trivial (And.intro (@rfl Bool false) (And.intro (sk (And.intro (And.intro trivial (RunsO.val (bond_O (F := (fun _ => False)) n2 (lgN 2 (urow2 10 10) 1 n3 n4 n5) (0 : Int) 8 (show LOk (lgN 2 (urow2 10 10) 1 n3 n4 n5) (lgN 2 (urow2 10 10) 1 n3 n4 n5).L _ from LOk.new (by decide) (by decide) (by decide) (goodN_sum.2 (by decide)) _ _ _).ok) (show (fun ns => (int (bondE (lgN 2 (urow2 10 10) 1 n3 n4 n5) (0 : Int) 8)) : List Nat → Value) = (fun ns => (int 0)) from by kernel_rfl))) trivial)) (And.intro (sk (And.intro (And.intro trivial (RunsO.val (bond_O (F := (fun _ => False)) n2 (bondX (lgN 2 (urow2 10 10) 1 n3 n4 n5) (0 : Int) 8) (1 : Int) 4 (LOk.bond1 (show LOk (lgN 2 (urow2 10 10) 1 n3 n4 n5) (lgN 2 (urow2 10 10) 1 n3 n4 n5).L _ from LOk.new (by decide) (by decide) (by decide) (goodN_sum.2 (by decide)) _ _ _) (0 : Int) 8).ok) (show (fun ns => (int (bondE (bondX (lgN 2 (urow2 10 10) 1 n3 n4 n5) (0 : Int) 8) (1 : Int) 4)) : List Nat → Value) = (fun ns => (int 0)) from by kernel_rfl))) trivial)) (fun (n6 n7 : Nat) => And.intro (sk (And.intro (And.intro trivial (RunsO.val (unb_O (F := (fun _ => False)) n2 (bondX (bondX (lgN 2 (urow2 10 10) 1 n3 n4 n5) (0 : Int) 8) (1 : Int) 4) (0 : Int) 3 (LOk.bond1 (LOk.bond1 (show LOk (lgN 2 (urow2 10 10) 1 n3 n4 n5) (lgN 2 (urow2 10 10) 1 n3 n4 n5).L _ from LOk.new (by decide) (by decide) (by decide) (goodN_sum.2 (by decide)) _ _ _) (0 : Int) 8) (1 : Int) 4).ok) (show (fun ns => (int (unbE (bondX (bondX (lgN 2 (urow2 10 10) 1 n3 n4 n5) (0 : Int) 8) (1 : Int) 4) (0 : Int) 3)) : List Nat → Value) = (fun ns => (int 0)) from by kernel_rfl))) trivial)) (And.intro (sk (And.intro (And.intro trivial (RunsO.val (lwaiting_O (F := (fun _ => False)) n2 (unbX (bondX (bondX (lgN 2 (urow2 10 10) 1 n3 n4 n5) (0 : Int) 8) (1 : Int) 4) (0 : Int) 3 n6 n7) (0 : Int) (LOk.unb1 (LOk.bond1 (LOk.bond1 (show LOk (lgN 2 (urow2 10 10) 1 n3 n4 n5) (lgN 2 (urow2 10 10) 1 n3 n4 n5).L _ from LOk.new (by decide) (by decide) (by decide) (goodN_sum.2 (by decide)) _ _ _) (0 : Int) 8) (1 : Int) 4) (by decide) (0 : Int) 3 n6 n7).ok) (show (fun ns => (u64 (lgH (unbX (bondX (bondX (lgN 2 (urow2 10 10) 1 n3 n4 n5) (0 : Int) 8) (1 : Int) 4) (0 : Int) 3 n6 n7).N (unbX (bondX (bondX (lgN 2 (urow2 10 10) 1 n3 n4 n5) (0 : Int) 8) (1 : Int) 4) (0 : Int) 3 n6 n7).G 2 (0 : Int))) : List Nat → Value) = (fun ns => (u64 3)) from by kernel_rfl))) (sk trivial))) (fun (n8 n9 : Nat) => And.intro (sk (And.intro (And.intro trivial (nxt_L (F := (fun _ => False)) n2 (unbX (bondX (bondX (lgN 2 (urow2 10 10) 1 n3 n4 n5) (0 : Int) 8) (1 : Int) 4) (0 : Int) 3 n6 n7) (LOk.unb1 (LOk.bond1 (LOk.bond1 (show LOk (lgN 2 (urow2 10 10) 1 n3 n4 n5) (lgN 2 (urow2 10 10) 1 n3 n4 n5).L _ from LOk.new (by decide) (by decide) (by decide) (goodN_sum.2 (by decide)) _ _ _) (0 : Int) 8) (1 : Int) 4) (by decide) (0 : Int) 3 n6 n7))) (sk trivial))) (And.intro (sk (And.intro (And.intro trivial (RunsO.val (lfree_O (F := (fun _ => False)) n2 (nxtX (unbX (bondX (bondX (lgN 2 (urow2 10 10) 1 n3 n4 n5) (0 : Int) 8) (1 : Int) 4) (0 : Int) 3 n6 n7)) (0 : Int) (LOk.nxt1 (LOk.unb1 (LOk.bond1 (LOk.bond1 (show LOk (lgN 2 (urow2 10 10) 1 n3 n4 n5) (lgN 2 (urow2 10 10) 1 n3 n4 n5).L _ from LOk.new (by decide) (by decide) (by decide) (goodN_sum.2 (by decide)) _ _ _) (0 : Int) 8) (1 : Int) 4) (by decide) (0 : Int) 3 n6 n7) (by decide)).ok) (show (fun ns => (u64 (lgH (nxtX (unbX (bondX (bondX (lgN 2 (urow2 10 10) 1 n3 n4 n5) (0 : Int) 8) (1 : Int) 4) (0 : Int) 3 n6 n7)).N (nxtX (unbX (bondX (bondX (lgN 2 (urow2 10 10) 1 n3 n4 n5) (0 : Int) 8) (1 : Int) 4) (0 : Int) 3 n6 n7)).G 0 (0 : Int))) : List Nat → Value) = (fun ns => (u64 2)) from by kernel_rfl))) (sk trivial))) (fun (n10 n11 : Nat) => And.intro (sk (And.intro (And.intro trivial (nxt_L (F := (fun _ => False)) n2 (nxtX (unbX (bondX (bondX (lgN 2 (urow2 10 10) 1 n3 n4 n5) (0 : Int) 8) (1 : Int) 4) (0 : Int) 3 n6 n7)) (LOk.nxt1 (LOk.unb1 (LOk.bond1 (LOk.bond1 (show LOk (lgN 2 (urow2 10 10) 1 n3 n4 n5) (lgN 2 (urow2 10 10) 1 n3 n4 n5).L _ from LOk.new (by decide) (by decide) (by decide) (goodN_sum.2 (by decide)) _ _ _) (0 : Int) 8) (1 : Int) 4) (by decide) (0 : Int) 3 n6 n7) (by decide)))) (sk trivial))) (And.intro (sk (And.intro (And.intro trivial (RunsO.val (lfree_O (F := (fun _ => False)) n2 (nxtX (nxtX (unbX (bondX (bondX (lgN 2 (urow2 10 10) 1 n3 n4 n5) (0 : Int) 8) (1 : Int) 4) (0 : Int) 3 n6 n7))) (0 : Int) (LOk.nxt1 (LOk.nxt1 (LOk.unb1 (LOk.bond1 (LOk.bond1 (show LOk (lgN 2 (urow2 10 10) 1 n3 n4 n5) (lgN 2 (urow2 10 10) 1 n3 n4 n5).L _ from LOk.new (by decide) (by decide) (by decide) (goodN_sum.2 (by decide)) _ _ _) (0 : Int) 8) (1 : Int) 4) (by decide) (0 : Int) 3 n6 n7) (by decide)) (by decide)).ok) (show (fun ns => (u64 (lgH (nxtX (nxtX (unbX (bondX (bondX (lgN 2 (urow2 10 10) 1 n3 n4 n5) (0 : Int) 8) (1 : Int) 4) (0 : Int) 3 n6 n7))).N (nxtX (nxtX (unbX (bondX (bondX (lgN 2 (urow2 10 10) 1 n3 n4 n5) (0 : Int) 8) (1 : Int) 4) (0 : Int) 3 n6 n7))).G 0 (0 : Int))) : List Nat → Value) = (fun ns => (u64 5)) from by kernel_rfl))) (sk trivial))) (And.intro (sk (And.intro (And.intro trivial (RunsO.val (fau_O (F := (fun _ => False)) n2 (nxtX (nxtX (unbX (bondX (bondX (lgN 2 (urow2 10 10) 1 n3 n4 n5) (0 : Int) 8) (1 : Int) 4) (0 : Int) 3 n6 n7))) (1 : Int) 100 (LOk.nxt1 (LOk.nxt1 (LOk.unb1 (LOk.bond1 (LOk.bond1 (show LOk (lgN 2 (urow2 10 10) 1 n3 n4 n5) (lgN 2 (urow2 10 10) 1 n3 n4 n5).L _ from LOk.new (by decide) (by decide) (by decide) (goodN_sum.2 (by decide)) _ _ _) (0 : Int) 8) (1 : Int) 4) (by decide) (0 : Int) 3 n6 n7) (by decide)) (by decide)).ok ((LOk.nxt1 (LOk.nxt1 (LOk.unb1 (LOk.bond1 (LOk.bond1 (show LOk (lgN 2 (urow2 10 10) 1 n3 n4 n5) (lgN 2 (urow2 10 10) 1 n3 n4 n5).L _ from LOk.new (by decide) (by decide) (by decide) (goodN_sum.2 (by decide)) _ _ _) (0 : Int) 8) (1 : Int) 4) (by decide) (0 : Int) 3 n6 n7) (by decide)) (by decide)).fau_pre (1 : Int) 100)) (show (fun ns => (Value.tuple #[(u64 (fauV (nxtX (nxtX (unbX (bondX (bondX (lgN 2 (urow2 10 10) 1 n3 n4 n5) (0 : Int) 8) (1 : Int) 4) (0 : Int) 3 n6 n7))) (1 : Int) 100)), (int (fauE (nxtX (nxtX (unbX (bondX (bondX (lgN 2 (urow2 10 10) 1 n3 n4 n5) (0 : Int) 8) (1 : Int) 4) (0 : Int) 3 n6 n7))) (1 : Int)))]) : List Nat → Value) = (fun ns => (Value.tuple #[(u64 4), (int 0)])) from by kernel_rfl))) (sk (sk (sk (sk (sk trivial))))))) (fun (n12 n13 : Nat) => And.intro (sk (And.intro (And.intro trivial (nxt_L (F := (fun _ => False)) n2 (fauX (nxtX (nxtX (unbX (bondX (bondX (lgN 2 (urow2 10 10) 1 n3 n4 n5) (0 : Int) 8) (1 : Int) 4) (0 : Int) 3 n6 n7))) (1 : Int) 100) (LOk.fau1 (LOk.nxt1 (LOk.nxt1 (LOk.unb1 (LOk.bond1 (LOk.bond1 (show LOk (lgN 2 (urow2 10 10) 1 n3 n4 n5) (lgN 2 (urow2 10 10) 1 n3 n4 n5).L _ from LOk.new (by decide) (by decide) (by decide) (goodN_sum.2 (by decide)) _ _ _) (0 : Int) 8) (1 : Int) 4) (by decide) (0 : Int) 3 n6 n7) (by decide)) (by decide)) (1 : Int) 100))) trivial)) (And.intro (sk (And.intro (And.intro trivial (RunsO.val (lbonded_O (F := (fun _ => False)) n2 (nxtX (fauX (nxtX (nxtX (unbX (bondX (bondX (lgN 2 (urow2 10 10) 1 n3 n4 n5) (0 : Int) 8) (1 : Int) 4) (0 : Int) 3 n6 n7))) (1 : Int) 100)) (0 : Int) (LOk.nxt1 (LOk.fau1 (LOk.nxt1 (LOk.nxt1 (LOk.unb1 (LOk.bond1 (LOk.bond1 (show LOk (lgN 2 (urow2 10 10) 1 n3 n4 n5) (lgN 2 (urow2 10 10) 1 n3 n4 n5).L _ from LOk.new (by decide) (by decide) (by decide) (goodN_sum.2 (by decide)) _ _ _) (0 : Int) 8) (1 : Int) 4) (by decide) (0 : Int) 3 n6 n7) (by decide)) (by decide)) (1 : Int) 100) (by decide)).ok) (show (fun ns => (u64 (lgH (nxtX (fauX (nxtX (nxtX (unbX (bondX (bondX (lgN 2 (urow2 10 10) 1 n3 n4 n5) (0 : Int) 8) (1 : Int) 4) (0 : Int) 3 n6 n7))) (1 : Int) 100)).N (nxtX (fauX (nxtX (nxtX (unbX (bondX (bondX (lgN 2 (urow2 10 10) 1 n3 n4 n5) (0 : Int) 8) (1 : Int) 4) (0 : Int) 3 n6 n7))) (1 : Int) 100)).G 1 (0 : Int))) : List Nat → Value) = (fun ns => (u64 9)) from by kernel_rfl))) (sk trivial))) (fun (n14 : Nat) => And.intro (sk (sk (sk (And.intro (And.intro (@rfl Bool true) t2) (And.intro (And.intro (@rfl Bool true) (And.intro trivial (@is_len Try.prog 35 3 (.tmp 50) (by kernel_rfl) (gsA (nxtA (unbX (bondX (bondX (lgN 2 (urow2 10 10) 1 n3 n4 n5) (0 : Int) 8) (1 : Int) 4) (0 : Int) 3 n6 n7) n8 n9)) 0 (gsC (nxtA (unbX (bondX (bondX (lgN 2 (urow2 10 10) 1 n3 n4 n5) (0 : Int) 8) (1 : Int) 4) (0 : Int) 3 n6 n7) n8 n9))))) (And.intro (And.intro (@rfl Bool true) t2) (And.intro (And.intro trivial (And.intro (fun (_ : true = true) => trivial) (fun (_ : true = false) => trivial))) (sk (And.intro (And.intro (@rfl Bool true) t2) (And.intro (And.intro (@rfl Bool true) t2) (And.intro (And.intro trivial (And.intro (fun (_ : true = true) => trivial) (fun (_ : true = false) => trivial))) (sk (And.intro (And.intro (@rfl Bool true) t2) (And.intro (And.intro (@rfl Bool true) (And.intro trivial (mk_build (P := Try.prog) (t := 35) (e := 3) one3 1 #[(0, (int 0))] #[(int 0)] (by kernel_rfl) (by decide) (by kernel_rfl)))) (And.intro (And.intro (@rfl Bool true) (And.intro trivial (ints_O (F := (fun _ => False)) (ca := gsC (nxtA (nxtX (unbX (bondX (bondX (lgN 2 (urow2 10 10) 1 n3 n4 n5) (0 : Int) 8) (1 : Int) 4) (0 : Int) 3 n6 n7)) n10 n11)) (cb := 1) (n := (nxtA (nxtX (unbX (bondX (bondX (lgN 2 (urow2 10 10) 1 n3 n4 n5) (0 : Int) 8) (1 : Int) 4) (0 : Int) 3 n6 n7)) n10 n11).n) (m := 1) (f := (nxtA (nxtX (unbX (bondX (bondX (lgN 2 (urow2 10 10) 1 n3 n4 n5) (0 : Int) 8) (1 : Int) 4) (0 : Int) 3 n6 n7)) n10 n11).f) (src_gs (zc := [int 0]) (A := (nxtA (nxtX (unbX (bondX (bondX (lgN 2 (urow2 10 10) 1 n3 n4 n5) (0 : Int) 8) (1 : Int) 4) (0 : Int) 3 n6 n7)) n10 n11)) (gsOf_ok _ _ _ _)) (src_lit1 n14 0 (fun _ => 0) rfl) (show (nxtA (nxtX (unbX (bondX (bondX (lgN 2 (urow2 10 10) 1 n3 n4 n5) (0 : Int) 8) (1 : Int) 4) (0 : Int) 3 n6 n7)) n10 n11).n = 1 from by kernel_rfl) (Nat.le_trans (Nat.le_of_eq (show (nxtA (nxtX (unbX (bondX (bondX (lgN 2 (urow2 10 10) 1 n3 n4 n5) (0 : Int) 8) (1 : Int) 4) (0 : Int) 3 n6 n7)) n10 n11).n = 1 from by kernel_rfl)) (by decide)) (fun k hk => one_eq (f := (nxtA (nxtX (unbX (bondX (bondX (lgN 2 (urow2 10 10) 1 n3 n4 n5) (0 : Int) 8) (1 : Int) 4) (0 : Int) 3 n6 n7)) n10 n11).f) (g := fun _ => 0) (show (nxtA (nxtX (unbX (bondX (bondX (lgN 2 (urow2 10 10) 1 n3 n4 n5) (0 : Int) 8) (1 : Int) 4) (0 : Int) 3 n6 n7)) n10 n11).f 0 = 0 from by kernel_rfl) k (Nat.lt_of_lt_of_eq hk (show (nxtA (nxtX (unbX (bondX (bondX (lgN 2 (urow2 10 10) 1 n3 n4 n5) (0 : Int) 8) (1 : Int) 4) (0 : Int) 3 n6 n7)) n10 n11).n = 1 from by kernel_rfl)))))) (And.intro (And.intro trivial (And.intro (fun (_ : true = true) => trivial) (fun (_ : true = false) => trivial))) (sk (And.intro (And.intro (@rfl Bool true) t2) (And.intro (And.intro (@rfl Bool true) t2) (And.intro (And.intro trivial (And.intro (fun (_ : true = true) => trivial) (fun (_ : true = false) => trivial))) (sk (And.intro (And.intro (@rfl Bool true) t2) (And.intro (And.intro (@rfl Bool true) t2) (And.intro (And.intro trivial (And.intro (fun (_ : true = true) => trivial) (fun (_ : true = false) => trivial))) (sk (And.intro (And.intro (@rfl Bool true) t2) (And.intro (And.intro (@rfl Bool true) t2) (And.intro (And.intro trivial (And.intro (fun (_ : true = true) => trivial) (fun (_ : true = false) => trivial))) (sk trivial))))))))))))))))))))))))))))) (And.intro trivial (@Exists.intro (List Nat) (fun (ns : List Nat) => ns.length = 0 ∧ ((Value.bool true) : Value) = (fun (_ : List Nat) => Value.bool true) ns ∧ ([] : List (Option Blk)) = (fun (_ : List Nat) => []) ns) [] (And.intro (@rfl Nat 0) (And.intro (@rfl Value (Value.bool true)) (@rfl (List (Option Blk)) [])))))))))))))))))))))))
end Go.Proofs.Ytchkbchbfilipaa
end
section
namespace Go.Eng
set_option linter.unusedVariables false
set_option linter.unusedSimpArgs false
set_option maxRecDepth 100000
theorem lgH_at {N : Nat} {G : Nat → UInt64} {k j : Nat} (h : j < N) : lgH N G k ((j : Nat) : Int) = G (k * N + j) := by unfold lgH; rw [isI_nat h]; rfl
def s3 (X : LgR) : Nat → UInt64
  | 0 => X.G (3 * X.N) + X.G (3 * X.N + 1)
  | j + 1 => s3 X j + lgH X.N X.G 0 ((j : Nat) : Int) + lgH X.N X.G 1 ((j : Nat) : Int) + lgH X.N X.G 2 ((j : Nat) : Int)
theorem sumW_split (f : Nat → UInt64) (a : Nat) : ∀ b, sumW f (a + b) = sumW f a + sumW (fun j => f (a + j)) b
  | 0 => by show sumW f a = sumW f a + 0; rw [UInt64.add_zero]
  | b + 1 => by
    show sumW f (a + b) + f (a + b) = sumW f a + (sumW (fun j => f (a + j)) b + f (a + b))
    rw [sumW_split f a b, UInt64.add_assoc]
theorem s3_at (X : LgR) : ∀ j, j ≤ X.N → s3 X j = X.G (3 * X.N) + X.G (3 * X.N + 1) + (sumW X.G j + sumW (fun k => X.G (1 * X.N + k)) j + sumW (fun k => X.G (2 * X.N + k)) j)
  | 0, _ => by show _ = _ + (0 + 0 + 0); rw [UInt64.add_zero, UInt64.add_zero, UInt64.add_zero]; rfl
  | j + 1, h => by
    rw [s3, s3_at X j (by omega), lgH_at (by omega), lgH_at (by omega), lgH_at (by omega)]
    simp only [sumW, Nat.zero_mul, Nat.zero_add]
    ac_rfl
theorem s3_all (X : LgR) : s3 X X.N = sumW X.G (3 * X.N + 2) := by
  rw [s3_at X X.N (Nat.le_refl _)]
  have h1 : sumW X.G (3 * X.N + 2) = sumW X.G (3 * X.N) + X.G (3 * X.N) + X.G (3 * X.N + 1) := rfl
  have h2 := sumW_split X.G X.N X.N
  have h3 := sumW_split X.G (X.N + X.N) X.N
  have e2 : (fun k => X.G (1 * X.N + k)) = fun k => X.G (X.N + k) := by funext k; rw [Nat.one_mul]
  have e3 : (fun k => X.G (2 * X.N + k)) = fun k => X.G (X.N + X.N + k) := by funext k; rw [Nat.two_mul]
  rw [h1, show 3 * X.N = X.N + X.N + X.N by omega, h3, h2, e2, e3]
  ac_rfl
section
variable {X : LgR} {K n : Nat} {f : Nat → UInt64}
theorem LOk.sumw (h : LOk X X.L K) (hN : X.N = n) (hs : sumU X.G (3 * n + 2) = sumU f n) (hg : goodN n f) : sumW X.G (3 * X.N + 2) = sumW f n := by
  have h1 := (goodN_sum.1 hg).2
  apply UInt64.toNat_inj.1
  rw [sumW_val f n (by omega), hN, sumW_val X.G (3 * n + 2) (by omega)]; exact hs
theorem LOk.s3 (h : LOk X X.L K) (hN : X.N = n) (hs : sumU X.G (3 * n + 2) = sumU f n) (hg : goodN n f) : Go.Eng.s3 X n = sumW f n := by
  rw [← h.sumw hN hs hg, ← s3_all, hN]
end
end Go.Eng
end
section
namespace Go.Eng
set_option linter.unusedVariables false
set_option linter.unusedSimpArgs false
set_option maxRecDepth 100000
theorem partP_pot {w : UInt64} {T : N4} : partP 0 w T = 0 := by
  have e : (mul8 (smallN 0) (smallN w)).lo.val = 0 := by rw [mulSmall]; simp
  have e2 : wholeP 0 w T = N4.ofNat 0 := by unfold wholeP quoD; rw [e, Nat.zero_div]
  unfold partP
  rw [e2]; rfl
structure ApR (X : LgR) (n i : Nat) (v b : UInt64) : Prop where
  N : X.N = n
  fre : X.G i = v
  bnd : b.toNat ≤ (X.G (n + i)).toNat
  non : ∀ p ∈ X.L, p.w ≠ i
theorem LOk.apart {X : LgR} {K n i : Nat} {v b : UInt64} (h : LOk X X.L K) (hK : K ≤ 100000) (hi : i < n) (ha : ApR X n i v b) (o : OpR) (ho : o.i ≠ (i : Int) ∨ o.d < 1 ∨ 3 < o.d) (nm r : Nat) : ApR (dnX X o nm r) n i v b := by
  obtain ⟨hN, hf, hb, hn⟩ := ha
  subst hN
  have hN8 := h.ok.N8
  have hne : o.d = 1 ∨ o.d = 2 ∨ o.d = 3 → o.i ≠ (i : Int) := fun hd => by
    rcases ho with ho | ho | ho
    · exact ho
    · omega
    · omega
  unfold dnX
  by_cases h1 : o.d = 1
  · rw [if_pos h1]
    have hoi := hne (.inl h1)
    cases hc : isI X.N o.i with
    | false =>
      have e : bondX X o.i o.a = X := by unfold bondX; rw [hc]; rfl
      rw [e]; exact ⟨rfl, hf, hb, hn⟩
    | true =>
      obtain ⟨c1, c2⟩ := isI_iff.1 hc
      obtain ⟨j, hj⟩ := Int.eq_ofNat_of_zero_le c1
      have hjN : j < X.N := by omega
      have hji : j ≠ i := fun e => hoi (by rw [hj, e])
      have e : bondX X o.i o.a = { X with G := moveF (3 * X.N + 2) X.G ((0 * X.N + j : Nat) : Int) ((1 * X.N + j : Nat) : Int) o.a } := by unfold bondX; rw [hc, hj]; rfl
      rw [e]
      refine ⟨rfl, ?_, ?_, hn⟩
      · show moveF _ X.G _ _ o.a i = v
        by_cases hx : X.G (0 * X.N + j) < o.a
        · rw [moveF_no (by rw [moveE_at (by omega) (by omega), if_pos hx]; decide)]; exact hf
        · rw [moveF_at (by omega) (by omega) (by omega) hx]; unfold mvF; rw [if_neg (by omega), if_neg (by omega)]; exact hf
      · show b.toNat ≤ (moveF _ X.G _ _ o.a (X.N + i)).toNat
        by_cases hx : X.G (0 * X.N + j) < o.a
        · rw [moveF_no (by rw [moveE_at (by omega) (by omega), if_pos hx]; decide)]; exact hb
        · rw [moveF_at (by omega) (by omega) (by omega) hx]; unfold mvF; rw [if_neg (by omega), if_neg (by omega)]; exact hb
  rw [if_neg h1]
  by_cases h2 : o.d = 2
  · rw [if_pos h2]
    have hoi := hne (.inr (.inl h2))
    by_cases hc : unbE X o.i o.a = 0 ∧ o.a ≠ 0
    · obtain ⟨hi2, hx, _⟩ := unb_in hc
      obtain ⟨c1, c2⟩ := isI_iff.1 hi2
      obtain ⟨j, hj⟩ := Int.eq_ofNat_of_zero_le c1
      have hjN : j < X.N := by omega
      have hji : j ≠ i := fun e => hoi (by rw [hj, e])
      have e : unbX X o.i o.a nm r = _ := if_pos hc
      rw [e]
      rw [hj] at hx ⊢
      simp only [Int.toNat_natCast] at hx ⊢
      refine ⟨rfl, ?_, ?_, fun p hp => ?_⟩
      · show moveF _ X.G _ _ o.a i = v
        rw [moveF_at (by omega) (by omega) (by omega) hx]; unfold mvF; rw [if_neg (by omega), if_neg (by omega)]; exact hf
      · show b.toNat ≤ (moveF _ X.G _ _ o.a (X.N + i)).toNat
        rw [moveF_at (by omega) (by omega) (by omega) hx]; unfold mvF; rw [if_neg (by omega), if_neg (by omega)]; exact hb
      · rcases List.mem_append.1 hp with hp | hp
        · exact hn p hp
        · rw [List.mem_singleton.1 hp]; exact hji
    · rw [unbX, if_neg hc]; exact ⟨rfl, hf, hb, hn⟩
  rw [if_neg h2]
  by_cases h3 : o.d = 3
  · rw [if_pos h3]
    have hoi := hne (.inr (.inr h3))
    cases hc : isI X.N o.i with
    | false =>
      have e : fauX X o.i o.a = X := by unfold fauX; rw [hc]; rfl
      rw [e]; exact ⟨rfl, hf, hb, hn⟩
    | true =>
      obtain ⟨c1, c2⟩ := isI_iff.1 hc
      obtain ⟨j, hj⟩ := Int.eq_ofNat_of_zero_le c1
      have hjN : j < X.N := by omega
      have hji : j ≠ i := fun e => hoi (by rw [hj, e])
      have e : fauX X o.i o.a = { X with G := (fltR X j o.a).G, n := (fltR X j o.a).n, F := (fltR X j o.a).F, L := fauL X X.L o.i o.a } := by unfold fauX; rw [hc, hj]; rfl
      rw [e]
      have hO := h.flO hjN o.a
      obtain ⟨k1, k2, k3, k4⟩ := h.flt hjN o.a
      have hs : ∀ q, q ≠ 1 * X.N + j → q ≠ 3 * X.N → (fltS X j o.a).G q = X.G q := fun q q1 q2 => by rw [k3]; unfold mvF; rw [if_neg q2, if_neg q1]
      refine ⟨rfl, ?_, ?_, fun p hp => ?_⟩
      · show (fltR X j o.a).G i = v
        rw [hO.oth i (by omega), hs i (by omega) (by omega)]; exact hf
      · show b.toNat ≤ ((fltR X j o.a).G (X.N + i)).toNat
        rw [hO.oth _ (by omega), hs _ (by omega) (by omega)]; exact hb
      · have hp' : p ∈ fauL X X.L o.i o.a := hp
        unfold fauL at hp'
        rw [hc, if_pos rfl] at hp'
        obtain ⟨q, hq, ew, _⟩ := fltL_mem _ _ _ p hp'
        rw [ew]; exact hn q hq
  rw [if_neg h3]
  have hd := (dueP_at (e := X.e + 1) X.L).1
  have hfr := frG_ok h.rel _ hd
  refine ⟨rfl, ?_, ?_, fun p hp => hn p (List.mem_of_mem_drop hp)⟩
  · show spX X.N (frG X.N X.L X.G (dueP (X.e + 1) X.L)) i = v
    rw [spX_same (.inl hi)]
    have h5 := hfr.fre i hi
    rw [sumA_none (L := X.L) hn, sumA_none (L := X.L.drop _) fun p hp => hn p (List.mem_of_mem_drop hp)] at h5
    apply UInt64.toNat_inj.1
    rw [← hf]; exact h5
  · show b.toNat ≤ (spX X.N (frG X.N X.L X.G (dueP (X.e + 1) X.L)) (X.N + i)).toNat
    rw [(spX_bond hN8 hfr.good (j := X.N + i) (by omega)).2.1, hfr.oth _ (by omega) (by omega)]
    show b.toNat ≤ (X.G (X.N + i)).toNat + _
    omega
theorem ApR.fin {X : LgR} {K n i : Nat} {v b : UInt64} (h : LOk X X.L K) (hi : i < n) (ha : ApR X n i v b) : lgH X.N X.G 0 ((i : Nat) : Int) = v ∧ decide (b ≤ lgH X.N X.G 1 ((i : Nat) : Int)) = true ∧ lgH X.N X.G 2 ((i : Nat) : Int) = 0 := by
  obtain ⟨hN, hf, hb, hn⟩ := ha
  subst hN
  refine ⟨by rw [lgH_at hi, show 0 * X.N + i = i by omega]; exact hf, decide_eq_true ?_, ?_⟩
  · rw [lgH_at hi, show 1 * X.N + i = X.N + i by omega]; exact UInt64.le_iff_toNat_le.2 hb
  · rw [lgH_at hi]
    apply UInt64.toNat_inj.1
    have := h.rel.wt i hi
    rw [sumA_none hn] at this; exact this
structure WtR (X : LgR) (s x d i : UInt64) : Prop where
  hN : X.N = 2
  he : X.e = i
  hd : X.d = d
  hL : X.L = [⟨0, x, d + 1, 0⟩]
  g0 : X.G 0 = 0
  g2 : X.G 2 = s - x
  g4 : X.G 4 = x
  g6 : X.G 6 = 0
theorem wt_good {s : UInt64} (h : s < 4611686018427387904) : goodN 2 (urow2 s 5) := by
  have h' : s.toNat < 4611686018427387904 := h
  rw [goodN_sum]
  refine ⟨by decide, ?_⟩
  show 0 + s.toNat + 5 < 2 ^ 63
  omega
theorem wt_init {s x d : UInt64} (hx : ¬ s < x) (hx0 : x ≠ 0) (a b c nm r : Nat) :
    bondE (lgN 2 (urow2 s 5) d a b c) 0 s = 0 ∧ unbE (bondX (lgN 2 (urow2 s 5) d a b c) 0 s) 0 x = 0 ∧ WtR (unbX (bondX (lgN 2 (urow2 s 5) d a b c) 0 s) 0 x nm r) s x d 0 := by
  have hss : ¬ s < s := fun h => Nat.lt_irrefl _ h
  have e1 : bondE (lgN 2 (urow2 s 5) d a b c) 0 s = 0 := by
    show (if isI 2 0 = true then (if s < s then (50 : Int) else 0) else 1) = 0
    rw [if_neg hss]; rfl
  have hm := moveF_at (n := 8) (f := putU (fun _ => 0) 0 2 (urow2 s 5)) (a := 0) (b := 2) (x := s) (by decide) (by decide) (by decide) hss
  have e2 : bondX (lgN 2 (urow2 s 5) d a b c) 0 s = { lgN 2 (urow2 s 5) d a b c with G := mvF (putU (fun _ => 0) 0 2 (urow2 s 5)) 0 2 s } := by rw [← hm]; rfl
  have hg2 : mvF (putU (fun _ => 0) 0 2 (urow2 s 5)) 0 2 s 2 = s := by show (0 : UInt64) + s = s; exact UInt64.zero_add s
  have e3 : unbE (bondX (lgN 2 (urow2 s 5) d a b c) 0 s) 0 x = 0 := by
    rw [e2]
    show (if isI 2 0 = true then (if mvF (putU (fun _ => 0) 0 2 (urow2 s 5)) 0 2 s 2 < x then (50 : Int) else if x = 0 then 0 else if (0 : Nat) = 20 then 52 else 0) else 1) = 0
    rw [hg2, if_neg hx, if_neg hx0]; rfl
  have hm2 := moveF_at (n := 8) (f := mvF (putU (fun _ => 0) 0 2 (urow2 s 5)) 0 2 s) (a := 2) (b := 4) (x := x) (by decide) (by decide) (by decide) (by rw [hg2]; exact hx)
  refine ⟨e1, e3, ?_⟩
  have eu : unbX (bondX (lgN 2 (urow2 s 5) d a b c) 0 s) 0 x nm r = _ := if_pos ⟨e3, hx0⟩
  rw [eu, e2]
  have hG : ∀ j, moveF (3 * 2 + 2) (mvF (putU (fun _ => 0) 0 2 (urow2 s 5)) 0 2 s) ((1 * 2 + (0 : Int).toNat : Nat) : Int) ((2 * 2 + (0 : Int).toNat : Nat) : Int) x j = mvF (mvF (putU (fun _ => 0) 0 2 (urow2 s 5)) 0 2 s) 2 4 x j := fun j => congrFun hm2 j
  refine ⟨rfl, rfl, rfl, ?_, ?_, ?_, ?_, ?_⟩
  · show [] ++ [PaR.mk 0 x (0 + d + 1) 0] = _
    rw [UInt64.zero_add]; rfl
  · refine (hG 0).trans ?_
    show s - s = 0; exact UInt64.sub_self s
  · refine (hG 2).trans ?_
    show mvF (putU (fun _ => 0) 0 2 (urow2 s 5)) 0 2 s 2 - x = _
    rw [hg2]
  · refine (hG 4).trans ?_
    show (0 : UInt64) + x = x; exact UInt64.zero_add x
  · exact hG 6
theorem WtR.see {X : LgR} {s x d i : UInt64} (h : WtR X s x d i) : lgH X.N X.G 0 0 = 0 ∧ lgH X.N X.G 2 0 = x ∧ lgH X.N X.G 1 0 = s - x := by
  obtain ⟨hN, _, _, _, h0, h2, h4, _⟩ := h
  rw [hN]
  exact ⟨h0, h4, h2⟩
theorem u_lt {a b : UInt64} (h : a < b) : (a + 1).toNat = a.toNat + 1 := by
  have h' : a.toNat < b.toNat := h
  have := b.toNat_lt
  rw [UInt64.toNat_add]; show (a.toNat + 1) % _ = _; rw [Nat.mod_eq_of_lt (by omega)]
theorem spX_zero {X : LgR} {G : Nat → UInt64} (hN : X.N = 2) (h6 : G 6 = 0) : spX X.N G 0 = G 0 ∧ spX X.N G 2 = G 2 ∧ spX X.N G 4 = G 4 ∧ spX X.N G 6 = 0 := by
  rw [hN]
  refine ⟨spX_same (.inl (by decide)), ?_, spX_same (.inr (by decide)), spX_pot⟩
  rw [spX_at (by decide), show 3 * 2 = 6 from rfl, h6, partP_pot, if_neg (by decide), UInt64.add_zero]
theorem WtR.step {X : LgR} {s x d i : UInt64} (h : WtR X s x d i) (hi : i < d) (hd : d ≤ 100) (nm r : Nat) : WtR (nxtX X) s x d (i + 1) ∧ (nxtA X nm r).n = 0 := by
  obtain ⟨hN, he, hdd, hL, h0, h2, h4, h6⟩ := h
  have h1 := u_lt hi
  have hd' : d.toNat ≤ 100 := UInt64.le_iff_toNat_le.1 hd
  have hd1 : (d + 1).toNat = d.toNat + 1 := by rw [UInt64.toNat_add]; show (d.toNat + 1) % _ = _; rw [Nat.mod_eq_of_lt (by omega)]
  have hi' : i.toNat < d.toNat := hi
  have hnd : ¬ d + 1 ≤ i + 1 := fun hc => by have := UInt64.le_iff_toNat_le.1 hc; omega
  have e0 : dueP (X.e + 1) X.L = 0 := by
    rw [hL, he]; unfold dueP; simp [hnd]
  have hz := spX_zero (G := X.G) hN h6
  refine ⟨⟨hN, by show X.e + 1 = _; rw [he], hdd, by show X.L.drop _ = _; rw [e0, hL]; rfl, ?_, ?_, ?_, ?_⟩, by show dueP (X.e + 1) X.L = 0; exact e0⟩
  · show spX X.N (frG X.N X.L X.G (dueP (X.e + 1) X.L)) 0 = 0; rw [e0]; show spX X.N X.G 0 = 0; rw [hz.1, h0]
  · show spX X.N (frG X.N X.L X.G (dueP (X.e + 1) X.L)) 2 = _; rw [e0]; show spX X.N X.G 2 = _; rw [hz.2.1, h2]
  · show spX X.N (frG X.N X.L X.G (dueP (X.e + 1) X.L)) 4 = _; rw [e0]; show spX X.N X.G 4 = _; rw [hz.2.2.1, h4]
  · show spX X.N (frG X.N X.L X.G (dueP (X.e + 1) X.L)) 6 = _; rw [e0]; exact hz.2.2.2
theorem WtR.last {X : LgR} {s x d : UInt64} (h : WtR X s x d d) (nm r : Nat) : (nxtA X nm r).n = 1 ∧ (nxtA X nm r).f 0 = 0 ∧ lgH (nxtX X).N (nxtX X).G 0 0 = x ∧ lgH (nxtX X).N (nxtX X).G 2 0 = 0 ∧ lgH (nxtX X).N (nxtX X).G 1 0 = s - x := by
  obtain ⟨hN, he, hdd, hL, h0, h2, h4, h6⟩ := h
  have e0 : dueP (X.e + 1) X.L = 1 := by
    rw [hL, he]; unfold dueP; simp
  have hx : ¬ X.G 4 < x := by rw [h4]; exact fun h => Nat.lt_irrefl _ h
  have hf : frG X.N X.L X.G 1 = mvF X.G 4 0 x := by
    rw [frG, frG, hN, hL]
    exact moveF_at (n := 8) (f := X.G) (a := 4) (b := 0) (x := x) (by decide) (by decide) (by decide) hx
  have hz := spX_zero (G := mvF X.G 4 0 x) hN (show X.G 6 = 0 from h6)
  have hG : (nxtX X).G = spX X.N (mvF X.G 4 0 x) := by show spX X.N (frG X.N X.L X.G (dueP (X.e + 1) X.L)) = _; rw [e0, hf]
  have hNN : (nxtX X).N = 2 := hN
  refine ⟨e0, ?_, ?_, ?_, ?_⟩
  · show (((X.L.getD 0 paZ).w : Nat) : Int) = 0; rw [hL]; rfl
  · rw [hG, hNN]; show spX X.N (mvF X.G 4 0 x) 0 = x
    rw [hz.1]; show X.G 0 + x = x; rw [h0, UInt64.zero_add]
  · rw [hG, hNN]; show spX X.N (mvF X.G 4 0 x) 4 = 0
    rw [hz.2.2.1]; show X.G 4 - x = 0; rw [h4, UInt64.sub_self]
  · rw [hG, hNN]; show spX X.N (mvF X.G 4 0 x) 2 = _
    rw [hz.2.1]; exact h2
end Go.Eng
end
