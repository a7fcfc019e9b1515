/-
  Many in one: StkDn, StkAw, Stake7, Stake8.
-/
import Derived.Test.YtchkbchbfilipaaZStakeApart10
section
namespace Go.Proofs.Ytchkbchbfilipaa
open Go Go.Eng
set_option linter.unusedVariables false
set_option linter.unusedSimpArgs false
set_option maxRecDepth 100000
section
variable {F : Blk → Prop}
theorem nxt_L (w : Nat) (X : LgR) {K : Nat} (h : LOk X X.L K) : RunsO F Try.prog 26 [ptr w 0] (LB w X) 2 (fun ns => gsV (nxtA X (ns.getD 0 0) (ns.getD 1 0))) (fun ns => LB w (nxtX X) ++ [gsE intC [int 0] 1 (nxtA X (ns.getD 0 0) (ns.getD 1 0))]) := nxt_O w X h.ok h.rel.std h.rel.who
theorem snew_O (p o n q : Nat) (f : Nat → UInt64) (d : UInt64) (hn : 1 ≤ n ∧ n ≤ 8) (hd : d ≤ 100) (hg : goodN n f) : RunsO F Try.prog 8 [.slice (some ⟨p, o, none⟩) n q, u64 d] [some ⟨p, false, o, tabF n fun k => u64 (f k)⟩] 4 (fun ns => .tuple #[ptr (ns.getD 0 0) 0, int 0]) (fun ns => none :: LB (ns.getD 0 0) (lgN n f d (ns.getD 1 0) (ns.getD 2 0) (ns.getD 3 0))) :=
  (Runs.dark [true] (snew_ok p o n q f d hn hd ((new_good hn.2).2 hg))).toO.as (.refl _) id fun ns hns => ⟨hns, rfl, sub_none [none, _, _, _], rfl, rfl, rfl, trivial⟩
end
theorem done_1 {F : Blk → Prop} (w : Nat) (X : LgR) (K : Nat) (o : OpR) (h : LOk X X.L K) (hd : o.d = 1) : RunsO F Try.prog 10 [(ptr w 0), (Value.agg #[(int o.d), (int o.i), (u64 o.a)])] [(lb0 w X), (lb1 X), (lb2 X), (lb3 X)] 0 (fun (ns : List Nat) => (Value.tuple #[(u64 0), (Value.slice none 0 0), (int (bondE X o.i o.a))])) (fun (ns : List Nat) => [(lb0 w (bondX X o.i o.a)), (lb1 (bondX X o.i o.a)), (lb2 (bondX X o.i o.a)), (lb3 (bondX X o.i o.a))]) :=
  runsO_of_ev mix Try.func10 rfl rfl 400 (.regn [(0, .new), (1, .g), (2, .g), (3, .g)] (more (fun n1 => fun _ => (.reg [(0, .g), (1, (.ld 4 (.lit 0)))] (.reg [(0, .g), (1, .g)] (.yes (.reg [(0, .g), (1, .g), (2, (.ld 4 (.lit 1))), (3, .g), (4, (.ld 4 (.lit 2))), (5, (.callO [(0, false), (1, false), (2, false), (3, false)] 0 0 (fun ns => (int (bondE X o.i o.a))) (fun ns => [lb0 w (bondX X o.i o.a), lb1 (bondX X o.i o.a), lb2 (bondX X o.i o.a), lb3 (bondX X o.i o.a)]))), (6, .g), (7, .g), (8, .g)] .done))))))) [] [] rfl
    (Eq.mp (by kernel_rfl) (fun (n1 : Nat) => And.intro (sk (sk (sk (sk trivial)))) (And.intro (sk (And.intro (And.intro trivial (ad n1 0)) trivial)) (And.intro (sk (sk trivial)) ((fun (hp1 : ((o.d : Int) == 1) = true) => have f0 : ((o.d : Int) == 1) = true := hp1; And.intro trivial (And.intro hp1 (And.intro (sk (sk (And.intro (And.intro trivial (ad n1 1)) (sk (And.intro (And.intro trivial (ad n1 2)) (And.intro (And.intro trivial (bond_O (F := F) w X o.i o.a h.ok)) (sk (sk (sk trivial))))))))) (And.intro trivial (@Exists.intro (List Nat) (fun (ns : List Nat) => ns.length = 0 ∧ ((Value.tuple #[(u64 0), (Value.slice none 0 0), (int (bondE X o.i o.a))]) : Value) = (fun (ns : List Nat) => (Value.tuple #[(u64 0), (Value.slice none 0 0), (int (bondE X o.i o.a))])) ns ∧ ([(lb0 w (bondX X o.i o.a)), (lb1 (bondX X o.i o.a)), (lb2 (bondX X o.i o.a)), (lb3 (bondX X o.i o.a))] : List (Option Blk)) = (fun (ns : List Nat) => [(lb0 w (bondX X o.i o.a)), (lb1 (bondX X o.i o.a)), (lb2 (bondX X o.i o.a)), (lb3 (bondX X o.i o.a))]) ns) [] (And.intro (@rfl Nat 0) (And.intro (@rfl Value (Value.tuple #[(u64 0), (Value.slice none 0 0), (int (bondE X o.i o.a))])) (@rfl (List (Option Blk)) [(lb0 w (bondX X o.i o.a)), (lb1 (bondX X o.i o.a)), (lb2 (bondX X o.i o.a)), (lb3 (bondX X o.i o.a))])))))))) (show ((o.d : Int) == 1) = true from by rw [hd]; rfl))))))
theorem done_2 {F : Blk → Prop} (w : Nat) (X : LgR) (K : Nat) (o : OpR) (h : LOk X X.L K) (hd : o.d = 2) : RunsO F Try.prog 10 [(ptr w 0), (Value.agg #[(int o.d), (int o.i), (u64 o.a)])] [(lb0 w X), (lb1 X), (lb2 X), (lb3 X)] 2 (fun (ns : List Nat) => (Value.tuple #[(u64 0), (Value.slice none 0 0), (int (unbE X o.i o.a))])) (fun (ns : List Nat) => [(lb0 w (unbX X o.i o.a (ns.getD 0 0) (ns.getD 1 0))), (lb1 (unbX X o.i o.a (ns.getD 0 0) (ns.getD 1 0))), (lb2 (unbX X o.i o.a (ns.getD 0 0) (ns.getD 1 0))), (lb3 (unbX X o.i o.a (ns.getD 0 0) (ns.getD 1 0)))]) :=
  runsO_of_ev mix Try.func10 rfl rfl 400 (.regn [(0, .new), (1, .g), (2, .g), (3, .g)] (more (fun n1 => fun _ => (.reg [(0, .g), (1, (.ld 4 (.lit 0)))] (.reg [(0, .g), (1, .g)] (.no (.reg [(0, .g), (1, .g)] (.yes (.regn [(0, .g), (1, .g), (2, (.ld 4 (.lit 1))), (3, .g), (4, (.ld 4 (.lit 2))), (5, (.callO [(0, false), (1, false), (2, false), (3, false)] 2 0 (fun ns => (int (unbE X o.i o.a))) (fun ns => [lb0 w (unbX X o.i o.a (ns.getD 0 0) (ns.getD 1 0)), lb1 (unbX X o.i o.a (ns.getD 0 0) (ns.getD 1 0)), lb2 (unbX X o.i o.a (ns.getD 0 0) (ns.getD 1 0)), lb3 (unbX X o.i o.a (ns.getD 0 0) (ns.getD 1 0))]))), (6, .g), (7, .g), (8, .g)] (more (fun n2 => more (fun n3 => fun _ => .done)))))))))))) [] [] rfl
    (Eq.mp (by kernel_rfl) (fun (n1 : Nat) => And.intro (sk (sk (sk (sk trivial)))) (And.intro (sk (And.intro (And.intro trivial (ad n1 0)) trivial)) (And.intro (sk (sk trivial)) ((fun (hp1 : ((o.d : Int) == 1) = false) => have f0 : ((o.d : Int) == 1) = false := hp1; And.intro trivial (And.intro hp1 (And.intro (sk (sk trivial)) ((fun (hp2 : ((o.d : Int) == 2) = true) => have f1 : ((o.d : Int) == 2) = true := hp2; And.intro trivial (And.intro hp2 (fun (n2 n3 : Nat) => And.intro (sk (sk (And.intro (And.intro trivial (ad n1 1)) (sk (And.intro (And.intro trivial (ad n1 2)) (And.intro (And.intro trivial (unb_O (F := F) w X o.i o.a h.ok)) (sk (sk (sk trivial))))))))) (And.intro trivial (@Exists.intro (List Nat) (fun (ns : List Nat) => ns.length = 2 ∧ ((Value.tuple #[(u64 0), (Value.slice none 0 0), (int (unbE X o.i o.a))]) : Value) = (fun (ns : List Nat) => (Value.tuple #[(u64 0), (Value.slice none 0 0), (int (unbE X o.i o.a))])) ns ∧ ([(lb0 w (unbX X o.i o.a n2 n3)), (lb1 (unbX X o.i o.a n2 n3)), (lb2 (unbX X o.i o.a n2 n3)), (lb3 (unbX X o.i o.a n2 n3))] : List (Option Blk)) = (fun (ns : List Nat) => [(lb0 w (unbX X o.i o.a (ns.getD 0 0) (ns.getD 1 0))), (lb1 (unbX X o.i o.a (ns.getD 0 0) (ns.getD 1 0))), (lb2 (unbX X o.i o.a (ns.getD 0 0) (ns.getD 1 0))), (lb3 (unbX X o.i o.a (ns.getD 0 0) (ns.getD 1 0)))]) ns) [n2, n3] (And.intro (@rfl Nat 2) (And.intro (@rfl Value (Value.tuple #[(u64 0), (Value.slice none 0 0), (int (unbE X o.i o.a))])) (@rfl (List (Option Blk)) [(lb0 w (unbX X o.i o.a n2 n3)), (lb1 (unbX X o.i o.a n2 n3)), (lb2 (unbX X o.i o.a n2 n3)), (lb3 (unbX X o.i o.a n2 n3))])))))))) (show ((o.d : Int) == 2) = true from by rw [hd]; rfl))))) (show ((o.d : Int) == 1) = false from by rw [hd]; rfl))))))
theorem done_3 {F : Blk → Prop} (w : Nat) (X : LgR) (K : Nat) (o : OpR) (h : LOk X X.L K) (hd : o.d = 3) : RunsO F Try.prog 10 [(ptr w 0), (Value.agg #[(int o.d), (int o.i), (u64 o.a)])] [(lb0 w X), (lb1 X), (lb2 X), (lb3 X)] 0 (fun (ns : List Nat) => (Value.tuple #[(u64 (fauV X o.i o.a)), (Value.slice none 0 0), (int (fauE X o.i))])) (fun (ns : List Nat) => [(lb0 w (fauX X o.i o.a)), (lb1 (fauX X o.i o.a)), (lb2 (fauX X o.i o.a)), (lb3 (fauX X o.i o.a))]) :=
  runsO_of_ev mix Try.func10 rfl rfl 400 (.regn [(0, .new), (1, .g), (2, .g), (3, .g)] (more (fun n1 => fun _ => (.reg [(0, .g), (1, (.ld 4 (.lit 0)))] (.reg [(0, .g), (1, .g)] (.no (.reg [(0, .g), (1, .g)] (.no (.reg [(0, .g), (1, .g)] (.yes (.reg [(0, .g), (1, .g), (2, (.ld 4 (.lit 1))), (3, .g), (4, (.ld 4 (.lit 2))), (5, (.callO [(0, false), (1, false), (2, false), (3, false)] 0 0 (fun ns => (Value.tuple #[(u64 (fauV X o.i o.a)), (int (fauE X o.i))])) (fun ns => [lb0 w (fauX X o.i o.a), lb1 (fauX X o.i o.a), lb2 (fauX X o.i o.a), lb3 (fauX X o.i o.a)]))), (6, .g), (7, .g), (8, .g), (9, .g), (10, .g)] (.reg [(0, .g), (1, .g), (2, .g), (3, .g), (4, .g)] .done)))))))))))) [] [] rfl
    (Eq.mp (by kernel_rfl) (fun (n1 : Nat) => And.intro (sk (sk (sk (sk trivial)))) (And.intro (sk (And.intro (And.intro trivial (ad n1 0)) trivial)) (And.intro (sk (sk trivial)) ((fun (hp1 : ((o.d : Int) == 1) = false) => have f0 : ((o.d : Int) == 1) = false := hp1; And.intro trivial (And.intro hp1 (And.intro (sk (sk trivial)) ((fun (hp2 : ((o.d : Int) == 2) = false) => have f1 : ((o.d : Int) == 2) = false := hp2; And.intro trivial (And.intro hp2 (And.intro (sk (sk trivial)) ((fun (hp3 : ((o.d : Int) == 3) = true) => have f2 : ((o.d : Int) == 3) = true := hp3; And.intro trivial (And.intro hp3 (And.intro (sk (sk (And.intro (And.intro trivial (ad n1 1)) (sk (And.intro (And.intro trivial (ad n1 2)) (And.intro (And.intro trivial (fau_O (F := F) w X o.i o.a h.ok (h.fau_pre o.i o.a))) (sk (sk (sk (sk (sk trivial))))))))))) (And.intro (sk (sk (sk (sk (sk trivial))))) (And.intro trivial (@Exists.intro (List Nat) (fun (ns : List Nat) => ns.length = 0 ∧ ((Value.tuple #[(u64 (fauV X o.i o.a)), (Value.slice none 0 0), (int (fauE X o.i))]) : Value) = (fun (ns : List Nat) => (Value.tuple #[(u64 (fauV X o.i o.a)), (Value.slice none 0 0), (int (fauE X o.i))])) ns ∧ ([(lb0 w (fauX X o.i o.a)), (lb1 (fauX X o.i o.a)), (lb2 (fauX X o.i o.a)), (lb3 (fauX X o.i o.a))] : List (Option Blk)) = (fun (ns : List Nat) => [(lb0 w (fauX X o.i o.a)), (lb1 (fauX X o.i o.a)), (lb2 (fauX X o.i o.a)), (lb3 (fauX X o.i o.a))]) ns) [] (And.intro (@rfl Nat 0) (And.intro (@rfl Value (Value.tuple #[(u64 (fauV X o.i o.a)), (Value.slice none 0 0), (int (fauE X o.i))])) (@rfl (List (Option Blk)) [(lb0 w (fauX X o.i o.a)), (lb1 (fauX X o.i o.a)), (lb2 (fauX X o.i o.a)), (lb3 (fauX X o.i o.a))]))))))))) (show ((o.d : Int) == 3) = true from by rw [hd]; rfl))))) (show ((o.d : Int) == 2) = false from by rw [hd]; rfl))))) (show ((o.d : Int) == 1) = false from by rw [hd]; rfl))))))
theorem done_4 {F : Blk → Prop} (w : Nat) (X : LgR) (K : Nat) (o : OpR) (h : LOk X X.L K) (hd1 : o.d ≠ 1) (hd2 : o.d ≠ 2) (hd3 : o.d ≠ 3) : RunsO F Try.prog 10 [(ptr w 0), (Value.agg #[(int o.d), (int o.i), (u64 o.a)])] [(lb0 w X), (lb1 X), (lb2 X), (lb3 X)] 2 (fun (ns : List Nat) => (Value.tuple #[(u64 0), (gsV (gsOf (dueP (X.e + 1) X.L) (fun k => (((X.L.getD k paZ).w : Nat) : Int)) (ns.getD 0 0) (ns.getD 1 0))), (int 0)])) (fun (ns : List Nat) => [(lb0 w (nxtX X)), (lb1 (nxtX X)), (lb2 (nxtX X)), (lb3 (nxtX X)), (gsE intC [int 0] 1 (gsOf (dueP (X.e + 1) X.L) (fun k => (((X.L.getD k paZ).w : Nat) : Int)) (ns.getD 0 0) (ns.getD 1 0)))]) :=
  runsO_of_ev mix Try.func10 rfl rfl 400 (.regn [(0, .new), (1, .g), (2, .g), (3, .g)] (more (fun n1 => fun _ => (.reg [(0, .g), (1, (.ld 4 (.lit 0)))] (.reg [(0, .g), (1, .g)] (.no (.reg [(0, .g), (1, .g)] (.no (.reg [(0, .g), (1, .g)] (.no (.regn [(0, .g), (1, (.callO [(0, false), (1, false), (2, false), (3, false)] 2 1 (fun ns => gsV (nxtA X (ns.getD 0 0) (ns.getD 1 0))) (fun ns => [lb0 w (nxtX X), lb1 (nxtX X), lb2 (nxtX X), lb3 (nxtX X), gsE intC [int 0] 1 (nxtA X (ns.getD 0 0) (ns.getD 1 0))]))), (2, .g), (3, .g), (4, .g)] (more (fun n2 => more (fun n3 => fun _ => .done)))))))))))))) [] [5] rfl
    (Eq.mp (by kernel_rfl) (fun (n1 : Nat) => And.intro (sk (sk (sk (sk trivial)))) (And.intro (sk (And.intro (And.intro trivial (ad n1 0)) trivial)) (And.intro (sk (sk trivial)) ((fun (hp1 : ((o.d : Int) == 1) = false) => have f0 : ((o.d : Int) == 1) = false := hp1; And.intro trivial (And.intro hp1 (And.intro (sk (sk trivial)) ((fun (hp2 : ((o.d : Int) == 2) = false) => have f1 : ((o.d : Int) == 2) = false := hp2; And.intro trivial (And.intro hp2 (And.intro (sk (sk trivial)) ((fun (hp3 : ((o.d : Int) == 3) = false) => have f2 : ((o.d : Int) == 3) = false := hp3; And.intro trivial (And.intro hp3 (fun (n2 n3 : Nat) => And.intro (sk (And.intro (And.intro trivial (nxt_L (F := F) w X h)) (sk (sk (sk trivial))))) (And.intro trivial (@Exists.intro (List Nat) (fun (ns : List Nat) => ns.length = 2 ∧ ((Value.tuple #[(u64 0), (gsV (nxtA X n2 n3)), (int 0)]) : Value) = (fun (ns : List Nat) => (Value.tuple #[(u64 0), (gsV (gsOf (dueP (X.e + 1) X.L) (fun k => (((X.L.getD k paZ).w : Nat) : Int)) (ns.getD 0 0) (ns.getD 1 0))), (int 0)])) ns ∧ ([(lb0 w (nxtX X)), (lb1 (nxtX X)), (lb2 (nxtX X)), (lb3 (nxtX X)), (gsE intC [int 0] 1 (nxtA X n2 n3))] : List (Option Blk)) = (fun (ns : List Nat) => [(lb0 w (nxtX X)), (lb1 (nxtX X)), (lb2 (nxtX X)), (lb3 (nxtX X)), (gsE intC [int 0] 1 (gsOf (dueP (X.e + 1) X.L) (fun k => (((X.L.getD k paZ).w : Nat) : Int)) (ns.getD 0 0) (ns.getD 1 0)))]) ns) [(nxtA X n2 n3).nm, (nxtA X n2 n3).r] (And.intro (@rfl Nat 2) (And.intro ((show ((Value.tuple #[(u64 0), (gsV (nxtA X n2 n3)), (int 0)]) : Value) = (Value.tuple #[(u64 0), (gsV (gsOf (dueP (X.e + 1) X.L) (fun k => (((X.L.getD k paZ).w : Nat) : Int)) (nxtA X n2 n3).nm (nxtA X n2 n3).r)), (int 0)]) from by first | rw [((gs_tell (C := intC) (zc := [int 0]) (sz := 1) (A := (nxtA X n2 n3)) (S := (dueP (X.e + 1) X.L)) (F := (fun k => (((X.L.getD k paZ).w : Nat) : Int))) rfl rfl (fun _ _ => rfl))).1] | (rfl))) ((show ([(lb0 w (nxtX X)), (lb1 (nxtX X)), (lb2 (nxtX X)), (lb3 (nxtX X)), (gsE intC [int 0] 1 (nxtA X n2 n3))] : List (Option Blk)) = [(lb0 w (nxtX X)), (lb1 (nxtX X)), (lb2 (nxtX X)), (lb3 (nxtX X)), (gsE intC [int 0] 1 (gsOf (dueP (X.e + 1) X.L) (fun k => (((X.L.getD k paZ).w : Nat) : Int)) (nxtA X n2 n3).nm (nxtA X n2 n3).r))] from by first | rw [((gs_tell (C := intC) (zc := [int 0]) (sz := 1) (A := (nxtA X n2 n3)) (S := (dueP (X.e + 1) X.L)) (F := (fun k => (((X.L.getD k paZ).w : Nat) : Int))) rfl rfl (fun _ _ => rfl))).1, ((gs_tell (C := intC) (zc := [int 0]) (sz := 1) (A := (nxtA X n2 n3)) (S := (dueP (X.e + 1) X.L)) (F := (fun k => (((X.L.getD k paZ).w : Nat) : Int))) rfl rfl (fun _ _ => rfl))).2] | rw [((gs_tell (C := intC) (zc := [int 0]) (sz := 1) (A := (nxtA X n2 n3)) (S := (dueP (X.e + 1) X.L)) (F := (fun k => (((X.L.getD k paZ).w : Nat) : Int))) rfl rfl (fun _ _ => rfl))).2]))))))))) (show ((o.d : Int) == 3) = false from by exact beq_false_of_ne hd3))))) (show ((o.d : Int) == 2) = false from by exact beq_false_of_ne hd2))))) (show ((o.d : Int) == 1) = false from by exact beq_false_of_ne hd1))))))
section
variable {F : Blk → Prop}
theorem lb_own (w : Nat) (X : LgR) {r : List (Option Blk)} (hr : ownL r) : ownL (LB w X ++ r) := by
  refine ⟨rfl, rfl, rfl, ?_⟩
  show ownL (lb3 X :: r)
  unfold lb3
  cases X.z with
  | true => exact hr
  | false => exact ⟨rfl, hr⟩
theorem done_O (w : Nat) (X : LgR) (K : Nat) (o : OpR) (h : LOk X X.L K) : RunsO F Try.prog 10 [ptr w 0, .agg #[int o.d, int o.i, u64 o.a]] (LB w X) 2 (fun ns => .tuple #[u64 (dnV X o), gsV (dnA X o (ns.getD 0 0) (ns.getD 1 0)), int (dnE X o)])
    (fun ns => LB w (dnX X o (ns.getD 0 0) (ns.getD 1 0)) ++ [gsE intC [int 0] 1 (dnA X o (ns.getD 0 0) (ns.getD 1 0))]) := by
  by_cases h1 : o.d = 1
  · obtain ⟨e1, e2, e3, e4⟩ := dn_1 (X := X) h1
    simp only [e1, e2, e3, e4]
    exact (done_1 w X K o h h1).as (.refl _) (fun _ => [0, 0]) fun ns hns => ⟨rfl, rfl, sub_none [_, _, _, _], lb_own w _ trivial⟩
  by_cases h2 : o.d = 2
  · obtain ⟨e1, e2, e3, e4⟩ := dn_2 (X := X) h2
    simp only [e1, e2, e3, e4]
    exact (done_2 w X K o h h2).as (.refl _) id fun ns hns => ⟨hns, rfl, sub_none [_, _, _, _], lb_own w _ trivial⟩
  by_cases h3 : o.d = 3
  · obtain ⟨e1, e2, e3, e4⟩ := dn_3 (X := X) h3
    simp only [e1, e2, e3, e4]
    exact (done_3 w X K o h h3).as (.refl _) (fun _ => [0, 0]) fun ns hns => ⟨rfl, rfl, sub_none [_, _, _, _], lb_own w _ trivial⟩
  obtain ⟨e1, e2, e3, e4⟩ := dn_4 (X := X) h1 h2 h3
  simp only [e1, e2, e3, e4]
  exact (done_4 w X K o h h1 h2 h3).as (.refl _) id fun ns hns => ⟨hns, rfl, .refl _, lb_own w _ (gsE_ownL trivial)⟩
end
end Go.Proofs.Ytchkbchbfilipaa
end
section
namespace Go.Proofs.Ytchkbchbfilipaa
open Go Go.Eng
set_option linter.unusedVariables false
set_option linter.unusedSimpArgs false
set_option maxRecDepth 100000
set_option maxHeartbeats 1000000
def ints_any_S1 (x : Nat) (o2 : Nat) (f : Nat → Int) (c : Nat) (n : Nat) (y : Nat) (o : Nat) (d : Nat) (g : Nat → Int) (x1 : Nat) : St := ⟨[(0, .v (Value.slice (some ⟨x, o2, none⟩) n c)), (1, .v (Value.slice (some ⟨y, o, none⟩) n d)), (5, .v (nat x1))], [(0, some ⟨x, false, o2, (tabF n (fun k => int (f k)))⟩), (1, some ⟨y, false, o, (tabF n (fun k => int (g k)))⟩)], 2⟩
def ints_any_R1 (x : Nat) (o2 : Nat) (f : Nat → Int) (c : Nat) (n : Nat) (y : Nat) (o : Nat) (d : Nat) (g : Nat → Int) (x1 : Nat) : Prop := (x1 ≤ n)
def ints_any_mu1 (x : Nat) (o2 : Nat) (f : Nat → Int) (c : Nat) (n : Nat) (y : Nat) (o : Nat) (d : Nat) (g : Nat → Int) (x1 : Nat) : Nat := n - x1
theorem ints_any (x o2 : Nat) (f : Nat → Int) (c n y o d : Nat) (g : Nat → Int) (hn : n ≤ 9223372036854775807) (hq : ∀ k, k < n → f k = g k) : Runs Try.prog 15 [(Value.slice (some ⟨x, o2, none⟩) n c), (Value.slice (some ⟨y, o, none⟩) n d)] [⟨x, false, o2, (tabF n (fun k => int (f k)))⟩, ⟨y, false, o, (tabF n (fun k => int (g k)))⟩] 0 (fun (_ : List Nat) => Value.bool true) (fun (_ : List Nat) => [some ⟨x, false, o2, (tabF n (fun k => int (f k)))⟩, some ⟨y, false, o, (tabF n (fun k => int (g k)))⟩]) :=
  runs_of_ev mix Try.func15 rfl rfl 400 (.reg [(0, .g)] (.reg [(0, .g), (1, (.as (nat n))), (2, .g), (3, (.as (nat n))), (4, (.as (Value.bool (!(decide (n = n))))))] (.no (.reg [(0, .g)] (.inv [0, 1, 5] [0, 1] 2 (ints_any_R1 x o2 f c n y o d g) (ints_any_S1 x o2 f c n y o d g) (ints_any_mu1 x o2 f c n y o d g) (0 : Nat) (fun (x1 : Nat) => (.reg [(0, .g), (1, .g), (2, (.as (nat n))), (3, (.as (Value.bool (decide (x1 < n)))))] (.br (.reg [(0, .g), (1, .g), (2, (.as (ptr x (o2 + x1 * 1)))), (3, (.ld 0 (.tab x1 0))), (4, .g), (5, .g), (6, (.as (ptr y (o + x1 * 1)))), (7, (.ld 1 (.tab x1 0))), (8, .g)] (.no (.reg [(0, .g), (1, (.as (nat (x1 + 1)))), (2, .g)] .done))) (.reg [(0, .g)] .done))))))))) [] [] rfl
    (Eq.mp (by kernel_rfl) (have f0 : n ≤ 9223372036854775807 := hn; And.intro (sk trivial) (And.intro (sk (And.intro (And.intro trivial (@is_len Try.prog 35 3 (.tmp 6) (by kernel_rfl) (some ⟨x, o2, none⟩) n c)) (sk (And.intro (And.intro trivial (@is_len Try.prog 35 3 (.tmp 8) (by kernel_rfl) (some ⟨y, o, none⟩) n d)) (And.intro (And.intro trivial (@is_neqn Try.prog 3 3 (.tmp 7) (.tmp 9)  n n)) trivial))))) ((fun (hp1 : (!(decide (n = n))) = false) => have f1 : (n = n) := (of_decide_eq_true (bnot_f hp1)); And.intro trivial (And.intro hp1 (And.intro (sk trivial) (And.intro (show (ints_any_R1 x o2 f c n y o d g) (0 : Nat) from (show (0 ≤ n) from by omega)) (And.intro (@rfl St ((ints_any_S1 x o2 f c n y o d g) (0 : Nat))) (fun (x1 : Nat) (hx1 : (ints_any_R1 x o2 f c n y o d g) x1) => have B0 : x1 ≤ n := hx1; And.intro (sk (sk (And.intro (And.intro trivial (@is_len Try.prog 35 3 (.tmp 12) (by kernel_rfl) (some ⟨x, o2, none⟩) n c)) (And.intro (And.intro trivial (@is_lssn Try.prog 3 3 (.tmp 11) (.tmp 13)  x1 n)) trivial)))) (And.intro trivial (And.intro (fun (h2 : (decide (x1 < n)) = true) => have f3 : (x1 < n) := (of_decide_eq_true h2); And.intro (sk (sk (And.intro (And.intro trivial (@is_ixSl Try.prog 35 3 (.tmp 17) (.tmp 18) 1 (by kernel_rfl) (by kernel_rfl) x o2 n c x1 (show x1 < n from by omega))) (And.intro (And.intro trivial (And.intro (show x1 < n from by omega) (@rfl Value (ptr x (o2 + x1 * 1))))) (sk (sk (And.intro (And.intro trivial (@is_ixSl Try.prog 35 3 (.tmp 21) (.tmp 22) 1 (by kernel_rfl) (by kernel_rfl) y o n d x1 (show x1 < n from by omega))) (And.intro (And.intro trivial (And.intro (show x1 < n from by omega) (@rfl Value (ptr y (o + x1 * 1))))) (sk trivial))))))))) ((fun (hp3 : (((f x1) : Int) != (g x1)) = false) => have f4 : (((f x1) : Int) != (g x1)) = false := hp3; And.intro trivial (And.intro hp3 (And.intro (sk (And.intro (And.intro trivial (@is_addn Try.prog 3 3 (.tmp 15) (.const (.int .i64 1))  x1 1 (show x1 + 1 ≤ 9223372036854775807 from by omega))) (sk trivial))) ((rnd (ints_any_R1 x o2 f c n y o d g) (ints_any_S1 x o2 f c n y o d g) (ints_any_mu1 x o2 f c n y o d g) x1 (x1 + 1 : Nat) (show (ints_any_R1 x o2 f c n y o d g) (x1 + 1 : Nat) ∧ (ints_any_mu1 x o2 f c n y o d g) (x1 + 1 : Nat) < (ints_any_mu1 x o2 f c n y o d g) x1 from (show (((x1 + 1) ≤ n)) ∧ (n - (x1 + 1)) < (n - x1) from by omega))))))) (show (((f x1) : Int) != (g x1)) = false from by rw [hq _ (by omega)]; simp [selB]))) (fun (h2 : (decide (x1 < n)) = false) => have f3 : ¬ (x1 < n) := (of_decide_eq_false h2); And.intro (sk trivial) (And.intro trivial (@Exists.intro (List Nat) (fun (ns : List Nat) => ns.length = 0 ∧ ((Value.bool true) : Value) = (fun (_ : List Nat) => Value.bool true) ns ∧ ([some ⟨x, false, o2, (tabF n (fun k => int (f k)))⟩, some ⟨y, false, o, (tabF n (fun k => int (g k)))⟩] : List (Option Blk)) = (fun (_ : List Nat) => [some ⟨x, false, o2, (tabF n (fun k => int (f k)))⟩, some ⟨y, false, o, (tabF n (fun k => int (g k)))⟩]) ns) [] (And.intro (@rfl Nat 0) (And.intro (@rfl Value (Value.bool true)) (@rfl (List (Option Blk)) [some ⟨x, false, o2, (tabF n (fun k => int (f k)))⟩, some ⟨y, false, o, (tabF n (fun k => int (g k)))⟩])))))))))))))) (show (!(decide (n = n))) = false from by simp)))))
theorem ints_none (wa wb : Option Addr) (c d : Nat) : Runs Try.prog 15 [(Value.slice wa 0 c), (Value.slice wb 0 d)] [] 0 (fun (_ : List Nat) => Value.bool true) (fun (_ : List Nat) => []) :=
  runs_of_ev mix Try.func15 rfl rfl 400 (.reg [(0, .g)] (.reg [(0, .g), (1, (.as (nat 0))), (2, .g), (3, (.as (nat 0))), (4, (.as (Value.bool (!(decide (0 = 0))))))] (.no (.reg [(0, .g)] (.unroll (.reg [(0, .g), (1, .g), (2, (.as (nat 0))), (3, (.as (Value.bool (decide (0 < 0)))))] (.no (.reg [(0, .g)] .done)))))))) [] [] rfl
    (Eq.mp (by kernel_rfl) (And.intro (sk trivial) (And.intro (sk (And.intro (And.intro trivial (@is_len Try.prog 35 3 (.tmp 6) (by kernel_rfl) wa 0 c)) (sk (And.intro (And.intro trivial (@is_len Try.prog 35 3 (.tmp 8) (by kernel_rfl) wb 0 d)) (And.intro (And.intro trivial (@is_neqn Try.prog 3 3 (.tmp 7) (.tmp 9)  0 0)) trivial))))) ((fun (hp1 : (!(decide (0 = 0))) = false) => have f0 : (0 = 0) := (of_decide_eq_true (bnot_f hp1)); And.intro trivial (And.intro hp1 (And.intro (sk trivial) (And.intro (sk (sk (And.intro (And.intro trivial (@is_len Try.prog 35 3 (.tmp 12) (by kernel_rfl) wa 0 c)) (And.intro (And.intro trivial (@is_lssn Try.prog 3 3 (.tmp 11) (.tmp 13)  0 0)) trivial)))) ((fun (hp2 : (decide (0 < 0)) = false) => have f1 : ¬ (0 < 0) := (of_decide_eq_false hp2); And.intro trivial (And.intro hp2 (And.intro (sk trivial) (And.intro trivial (@Exists.intro (List Nat) (fun (ns : List Nat) => ns.length = 0 ∧ ((Value.bool true) : Value) = (fun (_ : List Nat) => Value.bool true) ns ∧ ([] : List (Option Blk)) = (fun (_ : List Nat) => []) ns) [] (And.intro (@rfl Nat 0) (And.intro (@rfl Value (Value.bool true)) (@rfl (List (Option Blk)) [])))))))) (show (decide (0 < 0)) = false from by rfl)))))) (show (!(decide (0 = 0))) = false from by rfl)))))
theorem one_eq {f g : Nat → Int} (h : f 0 = g 0) : ∀ k, k < 1 → f k = g k := fun k hk => by
  have e : k = 0 := by omega
  rw [e]; exact h
theorem ints_O {F : Blk → Prop} {wa wb : Option Addr} {n m ca cb : Nat} {f g : Nat → Int} {oa ob : Option Blk} (ha : Src intC 1 oa wa n f) (hb : Src intC 1 ob wb m g) (hn : n = m) (hN : n ≤ 9223372036854775807) (hq : ∀ k, k < n → f k = g k) :
    RunsO F Try.prog 15 [.slice wa n ca, .slice wb m cb] [oa, ob] 0 (fun _ => .bool true) (fun _ => [none, none]) := by
  subst hn
  rcases Nat.eq_zero_or_pos n with h0 | h0
  · subst h0
    exact (ints_none wa wb ca cb).toO.as (.zz _) id fun ns h => ⟨h, rfl, .dn (.dn (.zz _)), trivial⟩
  · obtain ⟨b, o, S, rfl, rfl, h3, h4⟩ := ha h0
    obtain ⟨b', o', S', rfl, rfl, k3, k4⟩ := hb h0
    exact (Runs.dark [true, true] (ints_any b o f ca n b' o' cb g hN hq)).toO.as (.kp _ _ ⟨rfl, rfl, fun w hw => hw.recont (b := ⟨b, false, o, S⟩) rfl h4⟩ (.kp _ _ ⟨rfl, rfl, fun w hw => hw.recont (b := ⟨b', false, o', S'⟩) rfl k4⟩ (.zz _))) id fun ns h => ⟨h, rfl, .dr _ (.dr _ (.zz _)), trivial⟩
theorem snew_2 {F : Blk → Prop} (p : Nat) (x y d : UInt64) (hd : d ≤ 100) (hg : goodN 2 (urow2 x y)) : RunsO F Try.prog 8 [.slice (some ⟨p, 0, none⟩) 2 2, u64 d] [some ⟨p, false, 0, .lit [u64 x, u64 y]⟩] 4 (fun ns => .tuple #[ptr (ns.getD 0 0) 0, int 0]) (fun ns => none :: LB (ns.getD 0 0) (lgN 2 (urow2 x y) d (ns.getD 1 0) (ns.getD 2 0) (ns.getD 3 0))) :=
  (snew_O p 0 2 2 (urow2 x y) d (by decide) hd hg).as (.kp _ _ ⟨rfl, rfl, fun w hw => hw.recont (b := ⟨p, false, 0, .lit [u64 x, u64 y]⟩) rfl fun j v hj => by
    by_cases h : j < 2
    · rw [tabF_in h] at hj
      have := lit2u_get x y j h
      rw [Nat.zero_add] at this; rw [this]; exact hj
    · rw [tabF_out h] at hj; cases hj⟩ (.zz _)) id fun ns h => ⟨h, rfl, .refl _, rfl, rfl, rfl, trivial⟩
theorem awake_runs : Runs Try.prog 7 [] [] 0 (fun (_ : List Nat) => Value.bool true) (fun (_ : List Nat) => []) :=
  runs_of_ev mix Try.func7 rfl rfl 400 (.reg [(0, .g)] (.regn [(0, (.oth [] 1 1 (fun ns => Value.slice (some ⟨ns.getD 0 0, 0, none⟩) 2 2) (fun ns => [some ⟨ns.getD 0 0, true, 0, .lit [(u64 10), (u64 10)]⟩]))), (1, (.callO [(0, true)] 4 4 (fun ns => (Value.tuple #[ptr (ns.getD 0 0) 0, int 0])) (fun ns => [none, lb0 (ns.getD 0 0) (lgN 2 (urow2 10 10) 1 (ns.getD 1 0) (ns.getD 2 0) (ns.getD 3 0)), lb1 (lgN 2 (urow2 10 10) 1 (ns.getD 1 0) (ns.getD 2 0) (ns.getD 3 0)), lb2 (lgN 2 (urow2 10 10) 1 (ns.getD 1 0) (ns.getD 2 0) (ns.getD 3 0)), lb3 (lgN 2 (urow2 10 10) 1 (ns.getD 1 0) (ns.getD 2 0) (ns.getD 3 0))]))), (2, .g), (3, .g), (4, .g), (5, .g), (6, .g)] (more (fun n1 => more (fun n2 => more (fun n3 => more (fun n4 => more (fun n5 => fun _ => (.reg [(0, .g), (1, .g), (2, .g), (3, .run .g), (4, .run .g), (5, .pk)] (.no (.reg [(0, .g), (1, (.callO [(1, false), (2, false), (3, false), (4, false)] 0 0 (fun ns => (int 0)) (fun ns => [lb0 n2 (bondX (lgN 2 (urow2 10 10) 1 n3 n4 n5) (0 : Int) 8), lb1 (bondX (lgN 2 (urow2 10 10) 1 n3 n4 n5) (0 : Int) 8), lb2 (bondX (lgN 2 (urow2 10 10) 1 n3 n4 n5) (0 : Int) 8), lb3 (bondX (lgN 2 (urow2 10 10) 1 n3 n4 n5) (0 : Int) 8)])))] (.reg [(0, .g), (1, (.callO [(1, false), (2, false), (3, false), (4, false)] 0 0 (fun ns => (int 0)) (fun ns => [lb0 n2 (bondX (bondX (lgN 2 (urow2 10 10) 1 n3 n4 n5) (0 : Int) 8) (1 : Int) 4), lb1 (bondX (bondX (lgN 2 (urow2 10 10) 1 n3 n4 n5) (0 : Int) 8) (1 : Int) 4), lb2 (bondX (bondX (lgN 2 (urow2 10 10) 1 n3 n4 n5) (0 : Int) 8) (1 : Int) 4), lb3 (bondX (bondX (lgN 2 (urow2 10 10) 1 n3 n4 n5) (0 : Int) 8) (1 : Int) 4)])))] (.regn [(0, .g), (1, (.callO [(1, false), (2, false), (3, false), (4, false)] 2 0 (fun ns => (int 0)) (fun ns => [lb0 n2 (unbX (bondX (bondX (lgN 2 (urow2 10 10) 1 n3 n4 n5) (0 : Int) 8) (1 : Int) 4) (0 : Int) 3 (ns.getD 0 0) (ns.getD 1 0)), lb1 (unbX (bondX (bondX (lgN 2 (urow2 10 10) 1 n3 n4 n5) (0 : Int) 8) (1 : Int) 4) (0 : Int) 3 (ns.getD 0 0) (ns.getD 1 0)), lb2 (unbX (bondX (bondX (lgN 2 (urow2 10 10) 1 n3 n4 n5) (0 : Int) 8) (1 : Int) 4) (0 : Int) 3 (ns.getD 0 0) (ns.getD 1 0)), lb3 (unbX (bondX (bondX (lgN 2 (urow2 10 10) 1 n3 n4 n5) (0 : Int) 8) (1 : Int) 4) (0 : Int) 3 (ns.getD 0 0) (ns.getD 1 0))])))] (more (fun n6 => more (fun n7 => fun _ => (.reg [(0, .g), (1, (.callO [(1, true), (2, true), (3, true)] 0 0 (fun ns => (u64 3)) (fun ns => [none, none, none]))), (2, .g)] (.regn [(0, .g), (1, (.callO [(1, false), (2, false), (3, false), (4, false)] 2 1 (fun ns => gsV (nxtA (unbX (bondX (bondX (lgN 2 (urow2 10 10) 1 n3 n4 n5) (0 : Int) 8) (1 : Int) 4) (0 : Int) 3 n6 n7) (ns.getD 0 0) (ns.getD 1 0))) (fun ns => [lb0 n2 (nxtX (unbX (bondX (bondX (lgN 2 (urow2 10 10) 1 n3 n4 n5) (0 : Int) 8) (1 : Int) 4) (0 : Int) 3 n6 n7)), lb1 (nxtX (unbX (bondX (bondX (lgN 2 (urow2 10 10) 1 n3 n4 n5) (0 : Int) 8) (1 : Int) 4) (0 : Int) 3 n6 n7)), lb2 (nxtX (unbX (bondX (bondX (lgN 2 (urow2 10 10) 1 n3 n4 n5) (0 : Int) 8) (1 : Int) 4) (0 : Int) 3 n6 n7)), lb3 (nxtX (unbX (bondX (bondX (lgN 2 (urow2 10 10) 1 n3 n4 n5) (0 : Int) 8) (1 : Int) 4) (0 : Int) 3 n6 n7)), gsE intC [int 0] 1 (nxtA (unbX (bondX (bondX (lgN 2 (urow2 10 10) 1 n3 n4 n5) (0 : Int) 8) (1 : Int) 4) (0 : Int) 3 n6 n7) (ns.getD 0 0) (ns.getD 1 0))]))), (2, .g)] (more (fun n8 => more (fun n9 => fun _ => (.reg [(0, .g), (1, (.callO [(1, true), (2, true), (3, true)] 0 0 (fun ns => (u64 2)) (fun ns => [none, none, none]))), (2, .g)] (.regn [(0, .g), (1, (.callO [(1, false), (2, false), (3, false), (4, false)] 2 1 (fun ns => gsV (nxtA (nxtX (unbX (bondX (bondX (lgN 2 (urow2 10 10) 1 n3 n4 n5) (0 : Int) 8) (1 : Int) 4) (0 : Int) 3 n6 n7)) (ns.getD 0 0) (ns.getD 1 0))) (fun ns => [lb0 n2 (nxtX (nxtX (unbX (bondX (bondX (lgN 2 (urow2 10 10) 1 n3 n4 n5) (0 : Int) 8) (1 : Int) 4) (0 : Int) 3 n6 n7))), lb1 (nxtX (nxtX (unbX (bondX (bondX (lgN 2 (urow2 10 10) 1 n3 n4 n5) (0 : Int) 8) (1 : Int) 4) (0 : Int) 3 n6 n7))), lb2 (nxtX (nxtX (unbX (bondX (bondX (lgN 2 (urow2 10 10) 1 n3 n4 n5) (0 : Int) 8) (1 : Int) 4) (0 : Int) 3 n6 n7))), lb3 (nxtX (nxtX (unbX (bondX (bondX (lgN 2 (urow2 10 10) 1 n3 n4 n5) (0 : Int) 8) (1 : Int) 4) (0 : Int) 3 n6 n7))), gsE intC [int 0] 1 (nxtA (nxtX (unbX (bondX (bondX (lgN 2 (urow2 10 10) 1 n3 n4 n5) (0 : Int) 8) (1 : Int) 4) (0 : Int) 3 n6 n7)) (ns.getD 0 0) (ns.getD 1 0))]))), (2, .g)] (more (fun n10 => more (fun n11 => fun _ => (.reg [(0, .g), (1, (.callO [(1, true), (2, true), (3, true)] 0 0 (fun ns => (u64 5)) (fun ns => [none, none, none]))), (2, .g)] (.reg [(0, .g), (1, (.callO [(1, false), (2, false), (3, false), (4, false)] 0 0 (fun ns => (Value.tuple #[(u64 4), (int 0)])) (fun ns => [lb0 n2 (fauX (nxtX (nxtX (unbX (bondX (bondX (lgN 2 (urow2 10 10) 1 n3 n4 n5) (0 : Int) 8) (1 : Int) 4) (0 : Int) 3 n6 n7))) (1 : Int) 100), lb1 (fauX (nxtX (nxtX (unbX (bondX (bondX (lgN 2 (urow2 10 10) 1 n3 n4 n5) (0 : Int) 8) (1 : Int) 4) (0 : Int) 3 n6 n7))) (1 : Int) 100), lb2 (fauX (nxtX (nxtX (unbX (bondX (bondX (lgN 2 (urow2 10 10) 1 n3 n4 n5) (0 : Int) 8) (1 : Int) 4) (0 : Int) 3 n6 n7))) (1 : Int) 100), lb3 (fauX (nxtX (nxtX (unbX (bondX (bondX (lgN 2 (urow2 10 10) 1 n3 n4 n5) (0 : Int) 8) (1 : Int) 4) (0 : Int) 3 n6 n7))) (1 : Int) 100)]))), (2, .g), (3, .g), (4, .g), (5, .g), (6, .g)] (.regn [(0, .g), (1, (.callO [(1, false), (2, false), (3, false), (4, false)] 2 1 (fun ns => gsV (nxtA (fauX (nxtX (nxtX (unbX (bondX (bondX (lgN 2 (urow2 10 10) 1 n3 n4 n5) (0 : Int) 8) (1 : Int) 4) (0 : Int) 3 n6 n7))) (1 : Int) 100) (ns.getD 0 0) (ns.getD 1 0))) (fun ns => [lb0 n2 (nxtX (fauX (nxtX (nxtX (unbX (bondX (bondX (lgN 2 (urow2 10 10) 1 n3 n4 n5) (0 : Int) 8) (1 : Int) 4) (0 : Int) 3 n6 n7))) (1 : Int) 100)), lb1 (nxtX (fauX (nxtX (nxtX (unbX (bondX (bondX (lgN 2 (urow2 10 10) 1 n3 n4 n5) (0 : Int) 8) (1 : Int) 4) (0 : Int) 3 n6 n7))) (1 : Int) 100)), lb2 (nxtX (fauX (nxtX (nxtX (unbX (bondX (bondX (lgN 2 (urow2 10 10) 1 n3 n4 n5) (0 : Int) 8) (1 : Int) 4) (0 : Int) 3 n6 n7))) (1 : Int) 100)), lb3 (nxtX (fauX (nxtX (nxtX (unbX (bondX (bondX (lgN 2 (urow2 10 10) 1 n3 n4 n5) (0 : Int) 8) (1 : Int) 4) (0 : Int) 3 n6 n7))) (1 : Int) 100)), gsE intC [int 0] 1 (nxtA (fauX (nxtX (nxtX (unbX (bondX (bondX (lgN 2 (urow2 10 10) 1 n3 n4 n5) (0 : Int) 8) (1 : Int) 4) (0 : Int) 3 n6 n7))) (1 : Int) 100) (ns.getD 0 0) (ns.getD 1 0))])))] (more (fun n12 => more (fun n13 => fun _ => (.reg [(0, .g), (1, (.callO [(1, true), (2, true), (3, true)] 0 0 (fun ns => (u64 9)) (fun ns => [none, none, none]))), (2, .g)] (.regn [(0, .g), (1, .g), (2, .g), (3, .run .g), (4, .run (.as (int 0))), (5, .run .g), (6, .pk), (7, .g), (8, .run .g), (9, .run .g), (10, .pk), (11, .g), (12, .run .g), (13, .run (.oth [] 1 1 (fun ns => Value.slice (some ⟨ns.getD 0 0, 0, none⟩) 1 1) (fun ns => [some ⟨ns.getD 0 0, true, 0, .lit [(int 0)]⟩]))), (14, .run (.callO [(6, true), (8, true)] 0 0 (fun ns => (Value.bool true)) (fun ns => [none, none]))), (15, .pk), (16, .g), (17, .run .g), (18, .run .g), (19, .pk), (20, .g), (21, .run .g), (22, .run .g), (23, .pk), (24, .g), (25, .run .g), (26, .run .g), (27, .pk), (28, .g)] (more (fun n14 => fun _ => .done)))))))))))))))))))))))))))))))))))) [] [] rfl
    (Eq.mp (by kernel_rfl) (And.intro (sk trivial) (fun (n1 n2 n3 n4 n5 : Nat) => And.intro (And.intro (And.intro trivial (mk_build (P := Try.prog) (t := 22) (e := 23) one23 2 #[(0, (u64 10)), (1, (u64 10))] #[(u64 10), (u64 10)] (by kernel_rfl) (by decide) (by kernel_rfl))) (And.intro (And.intro trivial (snew_2 (F := (fun _ => False)) n1 10 10 1 (by decide) (goodN_sum.2 (by decide)))) (sk (sk (sk (sk (sk trivial))))))) (And.intro (sk (sk (sk (And.intro (And.intro (@rfl Bool true) t2) (And.intro (And.intro (@rfl Bool true) t2) (And.intro (And.intro trivial (And.intro (fun (_ : false = true) => trivial) (fun (_ : false = false) => trivial))) trivial)))))) (And.intro trivial (And.intro (@rfl Bool false) (And.intro (sk (And.intro (And.intro trivial (RunsO.val (bond_O (F := (fun _ => False)) n2 (lgN 2 (urow2 10 10) 1 n3 n4 n5) (0 : Int) 8 (show LOk (lgN 2 (urow2 10 10) 1 n3 n4 n5) (lgN 2 (urow2 10 10) 1 n3 n4 n5).L _ from LOk.new (by decide) (by decide) (by decide) (goodN_sum.2 (by decide)) _ _ _).ok) (show (fun ns => (int (bondE (lgN 2 (urow2 10 10) 1 n3 n4 n5) (0 : Int) 8)) : List Nat → Value) = (fun ns => (int 0)) from by kernel_rfl))) trivial)) (And.intro (sk (And.intro (And.intro trivial (RunsO.val (bond_O (F := (fun _ => False)) n2 (bondX (lgN 2 (urow2 10 10) 1 n3 n4 n5) (0 : Int) 8) (1 : Int) 4 (LOk.bond1 (show LOk (lgN 2 (urow2 10 10) 1 n3 n4 n5) (lgN 2 (urow2 10 10) 1 n3 n4 n5).L _ from LOk.new (by decide) (by decide) (by decide) (goodN_sum.2 (by decide)) _ _ _) (0 : Int) 8).ok) (show (fun ns => (int (bondE (bondX (lgN 2 (urow2 10 10) 1 n3 n4 n5) (0 : Int) 8) (1 : Int) 4)) : List Nat → Value) = (fun ns => (int 0)) from by kernel_rfl))) trivial)) (fun (n6 n7 : Nat) => And.intro (sk (And.intro (And.intro trivial (RunsO.val (unb_O (F := (fun _ => False)) n2 (bondX (bondX (lgN 2 (urow2 10 10) 1 n3 n4 n5) (0 : Int) 8) (1 : Int) 4) (0 : Int) 3 (LOk.bond1 (LOk.bond1 (show LOk (lgN 2 (urow2 10 10) 1 n3 n4 n5) (lgN 2 (urow2 10 10) 1 n3 n4 n5).L _ from LOk.new (by decide) (by decide) (by decide) (goodN_sum.2 (by decide)) _ _ _) (0 : Int) 8) (1 : Int) 4).ok) (show (fun ns => (int (unbE (bondX (bondX (lgN 2 (urow2 10 10) 1 n3 n4 n5) (0 : Int) 8) (1 : Int) 4) (0 : Int) 3)) : List Nat → Value) = (fun ns => (int 0)) from by kernel_rfl))) trivial)) (And.intro (sk (And.intro (And.intro trivial (RunsO.val (lwaiting_O (F := (fun _ => False)) n2 (unbX (bondX (bondX (lgN 2 (urow2 10 10) 1 n3 n4 n5) (0 : Int) 8) (1 : Int) 4) (0 : Int) 3 n6 n7) (0 : Int) (LOk.unb1 (LOk.bond1 (LOk.bond1 (show LOk (lgN 2 (urow2 10 10) 1 n3 n4 n5) (lgN 2 (urow2 10 10) 1 n3 n4 n5).L _ from LOk.new (by decide) (by decide) (by decide) (goodN_sum.2 (by decide)) _ _ _) (0 : Int) 8) (1 : Int) 4) (by decide) (0 : Int) 3 n6 n7).ok) (show (fun ns => (u64 (lgH (unbX (bondX (bondX (lgN 2 (urow2 10 10) 1 n3 n4 n5) (0 : Int) 8) (1 : Int) 4) (0 : Int) 3 n6 n7).N (unbX (bondX (bondX (lgN 2 (urow2 10 10) 1 n3 n4 n5) (0 : Int) 8) (1 : Int) 4) (0 : Int) 3 n6 n7).G 2 (0 : Int))) : List Nat → Value) = (fun ns => (u64 3)) from by kernel_rfl))) (sk trivial))) (fun (n8 n9 : Nat) => And.intro (sk (And.intro (And.intro trivial (nxt_L (F := (fun _ => False)) n2 (unbX (bondX (bondX (lgN 2 (urow2 10 10) 1 n3 n4 n5) (0 : Int) 8) (1 : Int) 4) (0 : Int) 3 n6 n7) (LOk.unb1 (LOk.bond1 (LOk.bond1 (show LOk (lgN 2 (urow2 10 10) 1 n3 n4 n5) (lgN 2 (urow2 10 10) 1 n3 n4 n5).L _ from LOk.new (by decide) (by decide) (by decide) (goodN_sum.2 (by decide)) _ _ _) (0 : Int) 8) (1 : Int) 4) (by decide) (0 : Int) 3 n6 n7))) (sk trivial))) (And.intro (sk (And.intro (And.intro trivial (RunsO.val (lfree_O (F := (fun _ => False)) n2 (nxtX (unbX (bondX (bondX (lgN 2 (urow2 10 10) 1 n3 n4 n5) (0 : Int) 8) (1 : Int) 4) (0 : Int) 3 n6 n7)) (0 : Int) (LOk.nxt1 (LOk.unb1 (LOk.bond1 (LOk.bond1 (show LOk (lgN 2 (urow2 10 10) 1 n3 n4 n5) (lgN 2 (urow2 10 10) 1 n3 n4 n5).L _ from LOk.new (by decide) (by decide) (by decide) (goodN_sum.2 (by decide)) _ _ _) (0 : Int) 8) (1 : Int) 4) (by decide) (0 : Int) 3 n6 n7) (by decide)).ok) (show (fun ns => (u64 (lgH (nxtX (unbX (bondX (bondX (lgN 2 (urow2 10 10) 1 n3 n4 n5) (0 : Int) 8) (1 : Int) 4) (0 : Int) 3 n6 n7)).N (nxtX (unbX (bondX (bondX (lgN 2 (urow2 10 10) 1 n3 n4 n5) (0 : Int) 8) (1 : Int) 4) (0 : Int) 3 n6 n7)).G 0 (0 : Int))) : List Nat → Value) = (fun ns => (u64 2)) from by kernel_rfl))) (sk trivial))) (fun (n10 n11 : Nat) => And.intro (sk (And.intro (And.intro trivial (nxt_L (F := (fun _ => False)) n2 (nxtX (unbX (bondX (bondX (lgN 2 (urow2 10 10) 1 n3 n4 n5) (0 : Int) 8) (1 : Int) 4) (0 : Int) 3 n6 n7)) (LOk.nxt1 (LOk.unb1 (LOk.bond1 (LOk.bond1 (show LOk (lgN 2 (urow2 10 10) 1 n3 n4 n5) (lgN 2 (urow2 10 10) 1 n3 n4 n5).L _ from LOk.new (by decide) (by decide) (by decide) (goodN_sum.2 (by decide)) _ _ _) (0 : Int) 8) (1 : Int) 4) (by decide) (0 : Int) 3 n6 n7) (by decide)))) (sk trivial))) (And.intro (sk (And.intro (And.intro trivial (RunsO.val (lfree_O (F := (fun _ => False)) n2 (nxtX (nxtX (unbX (bondX (bondX (lgN 2 (urow2 10 10) 1 n3 n4 n5) (0 : Int) 8) (1 : Int) 4) (0 : Int) 3 n6 n7))) (0 : Int) (LOk.nxt1 (LOk.nxt1 (LOk.unb1 (LOk.bond1 (LOk.bond1 (show LOk (lgN 2 (urow2 10 10) 1 n3 n4 n5) (lgN 2 (urow2 10 10) 1 n3 n4 n5).L _ from LOk.new (by decide) (by decide) (by decide) (goodN_sum.2 (by decide)) _ _ _) (0 : Int) 8) (1 : Int) 4) (by decide) (0 : Int) 3 n6 n7) (by decide)) (by decide)).ok) (show (fun ns => (u64 (lgH (nxtX (nxtX (unbX (bondX (bondX (lgN 2 (urow2 10 10) 1 n3 n4 n5) (0 : Int) 8) (1 : Int) 4) (0 : Int) 3 n6 n7))).N (nxtX (nxtX (unbX (bondX (bondX (lgN 2 (urow2 10 10) 1 n3 n4 n5) (0 : Int) 8) (1 : Int) 4) (0 : Int) 3 n6 n7))).G 0 (0 : Int))) : List Nat → Value) = (fun ns => (u64 5)) from by kernel_rfl))) (sk trivial))) (And.intro (sk (And.intro (And.intro trivial (RunsO.val (fau_O (F := (fun _ => False)) n2 (nxtX (nxtX (unbX (bondX (bondX (lgN 2 (urow2 10 10) 1 n3 n4 n5) (0 : Int) 8) (1 : Int) 4) (0 : Int) 3 n6 n7))) (1 : Int) 100 (LOk.nxt1 (LOk.nxt1 (LOk.unb1 (LOk.bond1 (LOk.bond1 (show LOk (lgN 2 (urow2 10 10) 1 n3 n4 n5) (lgN 2 (urow2 10 10) 1 n3 n4 n5).L _ from LOk.new (by decide) (by decide) (by decide) (goodN_sum.2 (by decide)) _ _ _) (0 : Int) 8) (1 : Int) 4) (by decide) (0 : Int) 3 n6 n7) (by decide)) (by decide)).ok ((LOk.nxt1 (LOk.nxt1 (LOk.unb1 (LOk.bond1 (LOk.bond1 (show LOk (lgN 2 (urow2 10 10) 1 n3 n4 n5) (lgN 2 (urow2 10 10) 1 n3 n4 n5).L _ from LOk.new (by decide) (by decide) (by decide) (goodN_sum.2 (by decide)) _ _ _) (0 : Int) 8) (1 : Int) 4) (by decide) (0 : Int) 3 n6 n7) (by decide)) (by decide)).fau_pre (1 : Int) 100)) (show (fun ns => (Value.tuple #[(u64 (fauV (nxtX (nxtX (unbX (bondX (bondX (lgN 2 (urow2 10 10) 1 n3 n4 n5) (0 : Int) 8) (1 : Int) 4) (0 : Int) 3 n6 n7))) (1 : Int) 100)), (int (fauE (nxtX (nxtX (unbX (bondX (bondX (lgN 2 (urow2 10 10) 1 n3 n4 n5) (0 : Int) 8) (1 : Int) 4) (0 : Int) 3 n6 n7))) (1 : Int)))]) : List Nat → Value) = (fun ns => (Value.tuple #[(u64 4), (int 0)])) from by kernel_rfl))) (sk (sk (sk (sk (sk trivial))))))) (fun (n12 n13 : Nat) => And.intro (sk (And.intro (And.intro trivial (nxt_L (F := (fun _ => False)) n2 (fauX (nxtX (nxtX (unbX (bondX (bondX (lgN 2 (urow2 10 10) 1 n3 n4 n5) (0 : Int) 8) (1 : Int) 4) (0 : Int) 3 n6 n7))) (1 : Int) 100) (LOk.fau1 (LOk.nxt1 (LOk.nxt1 (LOk.unb1 (LOk.bond1 (LOk.bond1 (show LOk (lgN 2 (urow2 10 10) 1 n3 n4 n5) (lgN 2 (urow2 10 10) 1 n3 n4 n5).L _ from LOk.new (by decide) (by decide) (by decide) (goodN_sum.2 (by decide)) _ _ _) (0 : Int) 8) (1 : Int) 4) (by decide) (0 : Int) 3 n6 n7) (by decide)) (by decide)) (1 : Int) 100))) trivial)) (And.intro (sk (And.intro (And.intro trivial (RunsO.val (lbonded_O (F := (fun _ => False)) n2 (nxtX (fauX (nxtX (nxtX (unbX (bondX (bondX (lgN 2 (urow2 10 10) 1 n3 n4 n5) (0 : Int) 8) (1 : Int) 4) (0 : Int) 3 n6 n7))) (1 : Int) 100)) (0 : Int) (LOk.nxt1 (LOk.fau1 (LOk.nxt1 (LOk.nxt1 (LOk.unb1 (LOk.bond1 (LOk.bond1 (show LOk (lgN 2 (urow2 10 10) 1 n3 n4 n5) (lgN 2 (urow2 10 10) 1 n3 n4 n5).L _ from LOk.new (by decide) (by decide) (by decide) (goodN_sum.2 (by decide)) _ _ _) (0 : Int) 8) (1 : Int) 4) (by decide) (0 : Int) 3 n6 n7) (by decide)) (by decide)) (1 : Int) 100) (by decide)).ok) (show (fun ns => (u64 (lgH (nxtX (fauX (nxtX (nxtX (unbX (bondX (bondX (lgN 2 (urow2 10 10) 1 n3 n4 n5) (0 : Int) 8) (1 : Int) 4) (0 : Int) 3 n6 n7))) (1 : Int) 100)).N (nxtX (fauX (nxtX (nxtX (unbX (bondX (bondX (lgN 2 (urow2 10 10) 1 n3 n4 n5) (0 : Int) 8) (1 : Int) 4) (0 : Int) 3 n6 n7))) (1 : Int) 100)).G 1 (0 : Int))) : List Nat → Value) = (fun ns => (u64 9)) from by kernel_rfl))) (sk trivial))) (fun (n14 : Nat) => And.intro (sk (sk (sk (And.intro (And.intro (@rfl Bool true) t2) (And.intro (And.intro (@rfl Bool true) (And.intro trivial (@is_len Try.prog 35 3 (.tmp 50) (by kernel_rfl) (gsA (nxtA (unbX (bondX (bondX (lgN 2 (urow2 10 10) 1 n3 n4 n5) (0 : Int) 8) (1 : Int) 4) (0 : Int) 3 n6 n7) n8 n9)) 0 (gsC (nxtA (unbX (bondX (bondX (lgN 2 (urow2 10 10) 1 n3 n4 n5) (0 : Int) 8) (1 : Int) 4) (0 : Int) 3 n6 n7) n8 n9))))) (And.intro (And.intro (@rfl Bool true) t2) (And.intro (And.intro trivial (And.intro (fun (_ : true = true) => trivial) (fun (_ : true = false) => trivial))) (sk (And.intro (And.intro (@rfl Bool true) t2) (And.intro (And.intro (@rfl Bool true) t2) (And.intro (And.intro trivial (And.intro (fun (_ : true = true) => trivial) (fun (_ : true = false) => trivial))) (sk (And.intro (And.intro (@rfl Bool true) t2) (And.intro (And.intro (@rfl Bool true) (And.intro trivial (mk_build (P := Try.prog) (t := 35) (e := 3) one3 1 #[(0, (int 0))] #[(int 0)] (by kernel_rfl) (by decide) (by kernel_rfl)))) (And.intro (And.intro (@rfl Bool true) (And.intro trivial (ints_O (F := (fun _ => False)) (ca := gsC (nxtA (nxtX (unbX (bondX (bondX (lgN 2 (urow2 10 10) 1 n3 n4 n5) (0 : Int) 8) (1 : Int) 4) (0 : Int) 3 n6 n7)) n10 n11)) (cb := 1) (n := (nxtA (nxtX (unbX (bondX (bondX (lgN 2 (urow2 10 10) 1 n3 n4 n5) (0 : Int) 8) (1 : Int) 4) (0 : Int) 3 n6 n7)) n10 n11).n) (m := 1) (f := (nxtA (nxtX (unbX (bondX (bondX (lgN 2 (urow2 10 10) 1 n3 n4 n5) (0 : Int) 8) (1 : Int) 4) (0 : Int) 3 n6 n7)) n10 n11).f) (src_gs (zc := [int 0]) (A := (nxtA (nxtX (unbX (bondX (bondX (lgN 2 (urow2 10 10) 1 n3 n4 n5) (0 : Int) 8) (1 : Int) 4) (0 : Int) 3 n6 n7)) n10 n11)) (gsOf_ok _ _ _ _)) (src_lit1 n14 0 (fun _ => 0) rfl) (show (nxtA (nxtX (unbX (bondX (bondX (lgN 2 (urow2 10 10) 1 n3 n4 n5) (0 : Int) 8) (1 : Int) 4) (0 : Int) 3 n6 n7)) n10 n11).n = 1 from by kernel_rfl) (Nat.le_trans (Nat.le_of_eq (show (nxtA (nxtX (unbX (bondX (bondX (lgN 2 (urow2 10 10) 1 n3 n4 n5) (0 : Int) 8) (1 : Int) 4) (0 : Int) 3 n6 n7)) n10 n11).n = 1 from by kernel_rfl)) (by decide)) (fun k hk => one_eq (f := (nxtA (nxtX (unbX (bondX (bondX (lgN 2 (urow2 10 10) 1 n3 n4 n5) (0 : Int) 8) (1 : Int) 4) (0 : Int) 3 n6 n7)) n10 n11).f) (g := fun _ => 0) (show (nxtA (nxtX (unbX (bondX (bondX (lgN 2 (urow2 10 10) 1 n3 n4 n5) (0 : Int) 8) (1 : Int) 4) (0 : Int) 3 n6 n7)) n10 n11).f 0 = 0 from by kernel_rfl) k (Nat.lt_of_lt_of_eq hk (show (nxtA (nxtX (unbX (bondX (bondX (lgN 2 (urow2 10 10) 1 n3 n4 n5) (0 : Int) 8) (1 : Int) 4) (0 : Int) 3 n6 n7)) n10 n11).n = 1 from by kernel_rfl)))))) (And.intro (And.intro trivial (And.intro (fun (_ : true = true) => trivial) (fun (_ : true = false) => trivial))) (sk (And.intro (And.intro (@rfl Bool true) t2) (And.intro (And.intro (@rfl Bool true) t2) (And.intro (And.intro trivial (And.intro (fun (_ : true = true) => trivial) (fun (_ : true = false) => trivial))) (sk (And.intro (And.intro (@rfl Bool true) t2) (And.intro (And.intro (@rfl Bool true) t2) (And.intro (And.intro trivial (And.intro (fun (_ : true = true) => trivial) (fun (_ : true = false) => trivial))) (sk (And.intro (And.intro (@rfl Bool true) t2) (And.intro (And.intro (@rfl Bool true) t2) (And.intro (And.intro trivial (And.intro (fun (_ : true = true) => trivial) (fun (_ : true = false) => trivial))) (sk trivial))))))))))))))))))))))))))))) (And.intro trivial (@Exists.intro (List Nat) (fun (ns : List Nat) => ns.length = 0 ∧ ((Value.bool true) : Value) = (fun (_ : List Nat) => Value.bool true) ns ∧ ([] : List (Option Blk)) = (fun (_ : List Nat) => []) ns) [] (And.intro (@rfl Nat 0) (And.intro (@rfl Value (Value.bool true)) (@rfl (List (Option Blk)) [])))))))))))))))))))))))
end Go.Proofs.Ytchkbchbfilipaa
end
section
namespace Go.Eng
set_option linter.unusedVariables false
set_option linter.unusedSimpArgs false
set_option maxRecDepth 100000
theorem lgH_at {N : Nat} {G : Nat → UInt64} {k j : Nat} (h : j < N) : lgH N G k ((j : Nat) : Int) = G (k * N + j) := by unfold lgH; rw [isI_nat h]; rfl
def s3 (X : LgR) : Nat → UInt64
  | 0 => X.G (3 * X.N) + X.G (3 * X.N + 1)
  | j + 1 => s3 X j + lgH X.N X.G 0 ((j : Nat) : Int) + lgH X.N X.G 1 ((j : Nat) : Int) + lgH X.N X.G 2 ((j : Nat) : Int)
theorem sumW_split (f : Nat → UInt64) (a : Nat) : ∀ b, sumW f (a + b) = sumW f a + sumW (fun j => f (a + j)) b
  | 0 => by show sumW f a = sumW f a + 0; rw [UInt64.add_zero]
  | b + 1 => by
    show sumW f (a + b) + f (a + b) = sumW f a + (sumW (fun j => f (a + j)) b + f (a + b))
    rw [sumW_split f a b, UInt64.add_assoc]
theorem s3_at (X : LgR) : ∀ j, j ≤ X.N → s3 X j = X.G (3 * X.N) + X.G (3 * X.N + 1) + (sumW X.G j + sumW (fun k => X.G (1 * X.N + k)) j + sumW (fun k => X.G (2 * X.N + k)) j)
  | 0, _ => by show _ = _ + (0 + 0 + 0); rw [UInt64.add_zero, UInt64.add_zero, UInt64.add_zero]; rfl
  | j + 1, h => by
    rw [s3, s3_at X j (by omega), lgH_at (by omega), lgH_at (by omega), lgH_at (by omega)]
    simp only [sumW, Nat.zero_mul, Nat.zero_add]
    ac_rfl
theorem s3_all (X : LgR) : s3 X X.N = sumW X.G (3 * X.N + 2) := by
  rw [s3_at X X.N (Nat.le_refl _)]
  have h1 : sumW X.G (3 * X.N + 2) = sumW X.G (3 * X.N) + X.G (3 * X.N) + X.G (3 * X.N + 1) := rfl
  have h2 := sumW_split X.G X.N X.N
  have h3 := sumW_split X.G (X.N + X.N) X.N
  have e2 : (fun k => X.G (1 * X.N + k)) = fun k => X.G (X.N + k) := by funext k; rw [Nat.one_mul]
  have e3 : (fun k => X.G (2 * X.N + k)) = fun k => X.G (X.N + X.N + k) := by funext k; rw [Nat.two_mul]
  rw [h1, show 3 * X.N = X.N + X.N + X.N by omega, h3, h2, e2, e3]
  ac_rfl
section
variable {X : LgR} {K n : Nat} {f : Nat → UInt64}
theorem LOk.sumw (h : LOk X X.L K) (hN : X.N = n) (hs : sumU X.G (3 * n + 2) = sumU f n) (hg : goodN n f) : sumW X.G (3 * X.N + 2) = sumW f n := by
  have h1 := (goodN_sum.1 hg).2
  apply UInt64.toNat_inj.1
  rw [sumW_val f n (by omega), hN, sumW_val X.G (3 * n + 2) (by omega)]; exact hs
theorem LOk.s3 (h : LOk X X.L K) (hN : X.N = n) (hs : sumU X.G (3 * n + 2) = sumU f n) (hg : goodN n f) : Go.Eng.s3 X n = sumW f n := by
  rw [← h.sumw hN hs hg, ← s3_all, hN]
end
end Go.Eng
end
section
namespace Go.Eng
set_option linter.unusedVariables false
set_option linter.unusedSimpArgs false
set_option maxRecDepth 100000
theorem is_quo64 {P : Program} {t t' : TypeId} {x y : Operand} (a b : UInt64) (hb : b.toNat ≠ 0) : IsOp P (.binOp .quo t x y t') [u64 a, u64 b] (u64 (a / b)) := isOp_bin guard_int (by
  show pureRun P (Op.intDiv .quo .u64 (a.toNat : Int) (b.toNat : Int)) = _
  unfold Op.intDiv
  rw [if_neg (by omega)]
  show some (Value.int .u64 (IntKind.u64.wrap (Int.tdiv (a.toNat : Int) b.toNat))) = _
  rw [wrap_u64, u64, UInt64.toNat_div]; congr 2
  rw [Int.tdiv_eq_ediv_of_nonneg (by omega), ← Int.natCast_ediv]
  have h3 : a.toNat / b.toNat < 18446744073709551616 := Nat.lt_of_le_of_lt (Nat.div_le_self _ _) a.toNat_lt
  rw [show (18446744073709551616 : Int) = ((18446744073709551616 : Nat) : Int) from rfl, ← Int.natCast_emod, Nat.mod_eq_of_lt h3])
theorem partP_pot {w : UInt64} {T : N4} : partP 0 w T = 0 := by
  have e : (mul8 (smallN 0) (smallN w)).lo.val = 0 := by rw [mulSmall]; simp
  have e2 : wholeP 0 w T = N4.ofNat 0 := by unfold wholeP quoD; rw [e, Nat.zero_div]
  unfold partP
  rw [e2]; rfl
structure ApR (X : LgR) (n i : Nat) (v b : UInt64) : Prop where
  N : X.N = n
  fre : X.G i = v
  bnd : b.toNat ≤ (X.G (n + i)).toNat
  non : ∀ p ∈ X.L, p.w ≠ i
theorem LOk.apart {X : LgR} {K n i : Nat} {v b : UInt64} (h : LOk X X.L K) (hK : K ≤ 100000) (hi : i < n) (ha : ApR X n i v b) (o : OpR) (ho : o.i ≠ (i : Int) ∨ o.d < 1 ∨ 3 < o.d) (nm r : Nat) : ApR (dnX X o nm r) n i v b := by
  obtain ⟨hN, hf, hb, hn⟩ := ha
  subst hN
  have hN8 := h.ok.N8
  have hne : o.d = 1 ∨ o.d = 2 ∨ o.d = 3 → o.i ≠ (i : Int) := fun hd => by
    rcases ho with ho | ho | ho
    · exact ho
    · omega
    · omega
  unfold dnX
  by_cases h1 : o.d = 1
  · rw [if_pos h1]
    have hoi := hne (.inl h1)
    cases hc : isI X.N o.i with
    | false =>
      have e : bondX X o.i o.a = X := by unfold bondX; rw [hc]; rfl
      rw [e]; exact ⟨rfl, hf, hb, hn⟩
    | true =>
      obtain ⟨c1, c2⟩ := isI_iff.1 hc
      obtain ⟨j, hj⟩ := Int.eq_ofNat_of_zero_le c1
      have hjN : j < X.N := by omega
      have hji : j ≠ i := fun e => hoi (by rw [hj, e])
      have e : bondX X o.i o.a = { X with G := moveF (3 * X.N + 2) X.G ((0 * X.N + j : Nat) : Int) ((1 * X.N + j : Nat) : Int) o.a } := by unfold bondX; rw [hc, hj]; rfl
      rw [e]
      refine ⟨rfl, ?_, ?_, hn⟩
      · show moveF _ X.G _ _ o.a i = v
        by_cases hx : X.G (0 * X.N + j) < o.a
        · rw [moveF_no (by rw [moveE_at (by omega) (by omega), if_pos hx]; decide)]; exact hf
        · rw [moveF_at (by omega) (by omega) (by omega) hx]; unfold mvF; rw [if_neg (by omega), if_neg (by omega)]; exact hf
      · show b.toNat ≤ (moveF _ X.G _ _ o.a (X.N + i)).toNat
        by_cases hx : X.G (0 * X.N + j) < o.a
        · rw [moveF_no (by rw [moveE_at (by omega) (by omega), if_pos hx]; decide)]; exact hb
        · rw [moveF_at (by omega) (by omega) (by omega) hx]; unfold mvF; rw [if_neg (by omega), if_neg (by omega)]; exact hb
  rw [if_neg h1]
  by_cases h2 : o.d = 2
  · rw [if_pos h2]
    have hoi := hne (.inr (.inl h2))
    by_cases hc : unbE X o.i o.a = 0 ∧ o.a ≠ 0
    · obtain ⟨hi2, hx, _⟩ := unb_in hc
      obtain ⟨c1, c2⟩ := isI_iff.1 hi2
      obtain ⟨j, hj⟩ := Int.eq_ofNat_of_zero_le c1
      have hjN : j < X.N := by omega
      have hji : j ≠ i := fun e => hoi (by rw [hj, e])
      have e : unbX X o.i o.a nm r = _ := if_pos hc
      rw [e]
      rw [hj] at hx ⊢
      simp only [Int.toNat_natCast] at hx ⊢
      refine ⟨rfl, ?_, ?_, fun p hp => ?_⟩
      · show moveF _ X.G _ _ o.a i = v
        rw [moveF_at (by omega) (by omega) (by omega) hx]; unfold mvF; rw [if_neg (by omega), if_neg (by omega)]; exact hf
      · show b.toNat ≤ (moveF _ X.G _ _ o.a (X.N + i)).toNat
        rw [moveF_at (by omega) (by omega) (by omega) hx]; unfold mvF; rw [if_neg (by omega), if_neg (by omega)]; exact hb
      · rcases List.mem_append.1 hp with hp | hp
        · exact hn p hp
        · rw [List.mem_singleton.1 hp]; exact hji
    · rw [unbX, if_neg hc]; exact ⟨rfl, hf, hb, hn⟩
  rw [if_neg h2]
  by_cases h3 : o.d = 3
  · rw [if_pos h3]
    have hoi := hne (.inr (.inr h3))
    cases hc : isI X.N o.i with
    | false =>
      have e : fauX X o.i o.a = X := by unfold fauX; rw [hc]; rfl
      rw [e]; exact ⟨rfl, hf, hb, hn⟩
    | true =>
      obtain ⟨c1, c2⟩ := isI_iff.1 hc
      obtain ⟨j, hj⟩ := Int.eq_ofNat_of_zero_le c1
      have hjN : j < X.N := by omega
      have hji : j ≠ i := fun e => hoi (by rw [hj, e])
      have e : fauX X o.i o.a = { X with G := (fltR X j o.a).G, n := (fltR X j o.a).n, F := (fltR X j o.a).F, L := fauL X X.L o.i o.a } := by unfold fauX; rw [hc, hj]; rfl
      rw [e]
      have hO := h.flO hjN o.a
      obtain ⟨k1, k2, k3, k4⟩ := h.flt hjN o.a
      have hs : ∀ q, q ≠ 1 * X.N + j → q ≠ 3 * X.N → (fltS X j o.a).G q = X.G q := fun q q1 q2 => by rw [k3]; unfold mvF; rw [if_neg q2, if_neg q1]
      refine ⟨rfl, ?_, ?_, fun p hp => ?_⟩
      · show (fltR X j o.a).G i = v
        rw [hO.oth i (by omega), hs i (by omega) (by omega)]; exact hf
      · show b.toNat ≤ ((fltR X j o.a).G (X.N + i)).toNat
        rw [hO.oth _ (by omega), hs _ (by omega) (by omega)]; exact hb
      · have hp' : p ∈ fauL X X.L o.i o.a := hp
        unfold fauL at hp'
        rw [hc, if_pos rfl] at hp'
        obtain ⟨q, hq, ew, _⟩ := fltL_mem _ _ _ p hp'
        rw [ew]; exact hn q hq
  rw [if_neg h3]
  have hd := (dueP_at (e := X.e + 1) X.L).1
  have hfr := frG_ok h.rel _ hd
  refine ⟨rfl, ?_, ?_, fun p hp => hn p (List.mem_of_mem_drop hp)⟩
  · show spX X.N (frG X.N X.L X.G (dueP (X.e + 1) X.L)) i = v
    rw [spX_same (.inl hi)]
    have h5 := hfr.fre i hi
    rw [sumA_none (L := X.L) hn, sumA_none (L := X.L.drop _) fun p hp => hn p (List.mem_of_mem_drop hp)] at h5
    apply UInt64.toNat_inj.1
    rw [← hf]; exact h5
  · show b.toNat ≤ (spX X.N (frG X.N X.L X.G (dueP (X.e + 1) X.L)) (X.N + i)).toNat
    rw [(spX_bond hN8 hfr.good (j := X.N + i) (by omega)).2.1, hfr.oth _ (by omega) (by omega)]
    show b.toNat ≤ (X.G (X.N + i)).toNat + _
    omega
theorem half_le (x : UInt64) : ¬ x < x / 2 := fun h => by
  have h' : x.toNat < (x / 2).toNat := h
  rw [UInt64.toNat_div] at h'
  have : x.toNat / (2 : UInt64).toNat ≤ x.toNat := Nat.div_le_self _ _
  omega
theorem ApR.init {n i : Nat} {f : Nat → UInt64} {d : UInt64} {a b c : Nat} (hi : i < n) (hn8 : n ≤ 8) : ApR (bondX (lgN n f d a b c) (i : Int) (f i / 2)) n i (f i - f i / 2) (lgH (bondX (lgN n f d a b c) (i : Int) (f i / 2)).N (bondX (lgN n f d a b c) (i : Int) (f i / 2)).G 1 (i : Int)) := by
  have e : bondX (lgN n f d a b c) (i : Int) (f i / 2) = { lgN n f d a b c with G := moveF (3 * n + 2) (putU (fun _ => 0) 0 n f) ((0 * n + i : Nat) : Int) ((1 * n + i : Nat) : Int) (f i / 2) } := by
    unfold bondX
    show (if isI n (i : Int) = true then _ else _) = _
    rw [isI_nat hi]; rfl
  have hG : putU (fun _ => 0) 0 n f (0 * n + i) = f i := by rw [putU_at, if_pos (by omega)]; congr 1; omega
  have hm := moveF_at (n := 3 * n + 2) (f := putU (fun _ => 0) 0 n f) (a := 0 * n + i) (b := 1 * n + i) (x := f i / 2) (by omega) (by omega) (by omega) (by rw [hG]; exact half_le _)
  rw [e]
  refine ⟨rfl, ?_, ?_, fun p hp => by cases hp⟩
  · show moveF _ _ _ _ _ i = _
    rw [hm]; unfold mvF; rw [if_neg (by omega), if_pos (by omega), hG]
  · show (lgH n (moveF _ _ _ _ _) 1 (i : Int)).toNat ≤ (moveF _ _ _ _ _ (n + i)).toNat
    rw [lgH_at hi, show 1 * n + i = n + i by omega]; exact Nat.le_refl _
theorem ApR.fin {X : LgR} {K n i : Nat} {v b : UInt64} (h : LOk X X.L K) (hi : i < n) (ha : ApR X n i v b) : lgH X.N X.G 0 ((i : Nat) : Int) = v ∧ decide (b ≤ lgH X.N X.G 1 ((i : Nat) : Int)) = true ∧ lgH X.N X.G 2 ((i : Nat) : Int) = 0 := by
  obtain ⟨hN, hf, hb, hn⟩ := ha
  subst hN
  refine ⟨by rw [lgH_at hi, show 0 * X.N + i = i by omega]; exact hf, decide_eq_true ?_, ?_⟩
  · rw [lgH_at hi, show 1 * X.N + i = X.N + i by omega]; exact UInt64.le_iff_toNat_le.2 hb
  · rw [lgH_at hi]
    apply UInt64.toNat_inj.1
    have := h.rel.wt i hi
    rw [sumA_none hn] at this; exact this
structure WtR (X : LgR) (s x d i : UInt64) : Prop where
  hN : X.N = 2
  he : X.e = i
  hd : X.d = d
  hL : X.L = [⟨0, x, d + 1, 0⟩]
  g0 : X.G 0 = 0
  g2 : X.G 2 = s - x
  g4 : X.G 4 = x
  g6 : X.G 6 = 0
theorem u_lt {a b : UInt64} (h : a < b) : (a + 1).toNat = a.toNat + 1 := by
  have h' : a.toNat < b.toNat := h
  have := b.toNat_lt
  rw [UInt64.toNat_add]; show (a.toNat + 1) % _ = _; rw [Nat.mod_eq_of_lt (by omega)]
theorem spX_zero {X : LgR} {G : Nat → UInt64} (hN : X.N = 2) (h6 : G 6 = 0) : spX X.N G 0 = G 0 ∧ spX X.N G 2 = G 2 ∧ spX X.N G 4 = G 4 ∧ spX X.N G 6 = 0 := by
  rw [hN]
  refine ⟨spX_same (.inl (by decide)), ?_, spX_same (.inr (by decide)), spX_pot⟩
  rw [spX_at (by decide), show 3 * 2 = 6 from rfl, h6, partP_pot, if_neg (by decide), UInt64.add_zero]
theorem WtR.step {X : LgR} {s x d i : UInt64} (h : WtR X s x d i) (hi : i < d) (hd : d ≤ 100) (nm r : Nat) : WtR (nxtX X) s x d (i + 1) ∧ (nxtA X nm r).n = 0 := by
  obtain ⟨hN, he, hdd, hL, h0, h2, h4, h6⟩ := h
  have h1 := u_lt hi
  have hd' : d.toNat ≤ 100 := UInt64.le_iff_toNat_le.1 hd
  have hd1 : (d + 1).toNat = d.toNat + 1 := by rw [UInt64.toNat_add]; show (d.toNat + 1) % _ = _; rw [Nat.mod_eq_of_lt (by omega)]
  have hi' : i.toNat < d.toNat := hi
  have hnd : ¬ d + 1 ≤ i + 1 := fun hc => by have := UInt64.le_iff_toNat_le.1 hc; omega
  have e0 : dueP (X.e + 1) X.L = 0 := by
    rw [hL, he]; unfold dueP; simp [hnd]
  have hz := spX_zero (G := X.G) hN h6
  refine ⟨⟨hN, by show X.e + 1 = _; rw [he], hdd, by show X.L.drop _ = _; rw [e0, hL]; rfl, ?_, ?_, ?_, ?_⟩, by show dueP (X.e + 1) X.L = 0; exact e0⟩
  · show spX X.N (frG X.N X.L X.G (dueP (X.e + 1) X.L)) 0 = 0; rw [e0]; show spX X.N X.G 0 = 0; rw [hz.1, h0]
  · show spX X.N (frG X.N X.L X.G (dueP (X.e + 1) X.L)) 2 = _; rw [e0]; show spX X.N X.G 2 = _; rw [hz.2.1, h2]
  · show spX X.N (frG X.N X.L X.G (dueP (X.e + 1) X.L)) 4 = _; rw [e0]; show spX X.N X.G 4 = _; rw [hz.2.2.1, h4]
  · show spX X.N (frG X.N X.L X.G (dueP (X.e + 1) X.L)) 6 = _; rw [e0]; exact hz.2.2.2
theorem WtR.last {X : LgR} {s x d : UInt64} (h : WtR X s x d d) (nm r : Nat) : (nxtA X nm r).n = 1 ∧ (nxtA X nm r).f 0 = 0 ∧ lgH (nxtX X).N (nxtX X).G 0 0 = x ∧ lgH (nxtX X).N (nxtX X).G 2 0 = 0 ∧ lgH (nxtX X).N (nxtX X).G 1 0 = s - x := by
  obtain ⟨hN, he, hdd, hL, h0, h2, h4, h6⟩ := h
  have e0 : dueP (X.e + 1) X.L = 1 := by
    rw [hL, he]; unfold dueP; simp
  have hx : ¬ X.G 4 < x := by rw [h4]; exact fun h => Nat.lt_irrefl _ h
  have hf : frG X.N X.L X.G 1 = mvF X.G 4 0 x := by
    rw [frG, frG, hN, hL]
    exact moveF_at (n := 8) (f := X.G) (a := 4) (b := 0) (x := x) (by decide) (by decide) (by decide) hx
  have hz := spX_zero (G := mvF X.G 4 0 x) hN (show X.G 6 = 0 from h6)
  have hG : (nxtX X).G = spX X.N (mvF X.G 4 0 x) := by show spX X.N (frG X.N X.L X.G (dueP (X.e + 1) X.L)) = _; rw [e0, hf]
  have hNN : (nxtX X).N = 2 := hN
  refine ⟨e0, ?_, ?_, ?_, ?_⟩
  · show (((X.L.getD 0 paZ).w : Nat) : Int) = 0; rw [hL]; rfl
  · rw [hG, hNN]; show spX X.N (mvF X.G 4 0 x) 0 = x
    rw [hz.1]; show X.G 0 + x = x; rw [h0, UInt64.zero_add]
  · rw [hG, hNN]; show spX X.N (mvF X.G 4 0 x) 4 = 0
    rw [hz.2.2.1]; show X.G 4 - x = 0; rw [h4, UInt64.sub_self]
  · rw [hG, hNN]; show spX X.N (mvF X.G 4 0 x) 2 = _
    rw [hz.2.1]; exact h2
end Go.Eng
end
