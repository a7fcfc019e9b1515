/-
  modq.Eval, piece by piece.
-/
import Derived.Test.YtmaejpooanenpaaModqFns
import Derived.Test.YtmaejpooanenpaaModqBack
import Derived.Test.YtmaejpooanenpaaMontMath
namespace Go.Proofs.Ytmaejpooanenpaa
open Go Go.Eng
set_option linter.unusedVariables false
set_option maxRecDepth 100000
def cL : Code → Code
  | .seq a _ => a
  | c => c
def cR : Code → Code
  | .seq _ a => a
  | c => c
def cI : Code → Code
  | .block _ b => b
  | c => c
def rA : Code → Code
  | .rangeFunc _ _ a _ => a
  | c => c
def rB : Code → Code
  | .rangeFunc _ _ _ a => a
  | c => c
noncomputable def evalC : Code := match Try.f19.body with
  | some c => c
  | none => .skip
noncomputable def evA : Code := cL evalC
noncomputable def evB : Code := cL (cR evalC)
noncomputable def evC : Code := cL (cL (cR (cR evalC)))
noncomputable def evLoop : Code := cI (cR (cL (cR (cR evalC))))
noncomputable def evAsg : Code := rA evLoop
noncomputable def evBody : Code := rB evLoop
noncomputable def evEnd : Code := cR (cR (cR evalC))
theorem backward_runs (a : Option Addr) (n c : Nat) : Runs Try.prog 42 [Value.slice a n c] [] 1 (fun ns => Value.func (.func 61) #[] #[ptr (ns.getD 0 0) 0]) (fun ns => [some ⟨ns.getD 0 0, true, 0, .lit [Value.slice a n c]⟩]) :=
  runs_of_ev mix Try.func42 rfl rfl 60 (.regn [(0, .new), (1, .g)] (more (fun n1 => fun _ => .reg [(0, .g), (1, .g)] .done))) [] [0] rfl
    (Eq.mp (by kernel_rfl) (fun (n1 : Nat) => And.intro (sk (sk trivial)) (And.intro (sk (sk trivial)) (And.intro trivial (@Exists.intro (List Nat) (fun ns => ns.length = 1 ∧ Value.func (.func 61) #[] #[ptr n1 0] = Value.func (.func 61) #[] #[ptr (ns.getD 0 0) 0] ∧ [some (Blk.mk n1 true 0 (.lit [Value.slice a n c]))] = [some (Blk.mk (ns.getD 0 0) true 0 (.lit [Value.slice a n c]))]) [n1] (And.intro rfl (And.intro rfl rfl)))))))
def evSA (b : Nat) (m : N4) (s : Bool) (p o n c : Nat) (f : Nat → N4) (z : N4) (q1 q2 q3 : Nat) : St := ⟨[(0, .v (ptr b 0)), (1, .v (Value.slice (some ⟨p, o, none⟩) n c)), (2, .v (nat4 z)), (3, .v (ptr q1 0)), (5, .v (ptr q2 0)), (6, .v (ptr q3 0))], [(0, some ⟨b, true, 0, (.lit [(u64 m.a), (u64 m.b), (u64 m.c), (u64 m.d), (u32 (doneS s)), (Value.int .i32 0), (u32 0), (u64 ((lackS m s).a)), (u64 ((lackS m s).b)), (u64 ((lackS m s).c)), (u64 ((lackS m s).d)), (u64 ((oneS m s).a)), (u64 ((oneS m s).b)), (u64 ((oneS m s).c)), (u64 ((oneS m s).d)), (u64 ((twoS m s).a)), (u64 ((twoS m s).b)), (u64 ((twoS m s).c)), (u64 ((twoS m s).d))])⟩), (1, some ⟨p, false, o, (tabN n f)⟩), (2, some ⟨q1, true, 0, (.lit [(ptr b 0)])⟩), (3, some ⟨q2, true, 0, (.lit [(u64 z.a), (u64 z.b), (u64 z.c), (u64 z.d)])⟩), (4, some ⟨q3, true, 0, (.lit [(u64 0), (u64 0), (u64 0), (u64 0)])⟩)], 5⟩

def evSB (b : Nat) (m : N4) (s : Bool) (p o n c : Nat) (f : Nat → N4) (z : N4) (q1 q2 q3 q4 : Nat) : St := ⟨[(0, .v (ptr b 0)), (1, .v (Value.slice (some ⟨p, o, none⟩) n c)), (2, .v (nat4 z)), (3, .v (ptr q1 0)), (5, .v (ptr q2 0)), (6, .v (ptr q3 0)), (7, .v (ptr q4 0))], [(0, some ⟨b, true, 0, (.lit [(u64 m.a), (u64 m.b), (u64 m.c), (u64 m.d), (u32 (doneS s)), (Value.int .i32 0), (u32 0), (u64 ((lackS m s).a)), (u64 ((lackS m s).b)), (u64 ((lackS m s).c)), (u64 ((lackS m s).d)), (u64 ((oneS m s).a)), (u64 ((oneS m s).b)), (u64 ((oneS m s).c)), (u64 ((oneS m s).d)), (u64 ((twoS m s).a)), (u64 ((twoS m s).b)), (u64 ((twoS m s).c)), (u64 ((twoS m s).d))])⟩), (1, some ⟨p, false, o, (tabN n f)⟩), (2, some ⟨q1, true, 0, (.lit [(ptr b 0)])⟩), (3, some ⟨q2, true, 0, (.lit [(u64 z.a), (u64 z.b), (u64 z.c), (u64 z.d)])⟩), (4, some ⟨q3, true, 0, (.lit [(u64 0), (u64 0), (u64 0), (u64 0)])⟩), (5, some ⟨q4, true, 0, (.lit [(u64 0), (u64 0), (u64 0), (u64 0)])⟩)], 6⟩

def evS0 (b : Nat) (m : N4) (s : Bool) (p o n c : Nat) (f : Nat → N4) (z : N4) (q1 q2 q3 q4 q5 : Nat) : St := ⟨[(0, .v (ptr b 0)), (1, .v (Value.slice (some ⟨p, o, none⟩) n c)), (2, .v (nat4 z)), (3, .v (ptr q1 0)), (5, .v (ptr q2 0)), (6, .v (ptr q3 0)), (7, .v (ptr q4 0)), (11, .v (Value.func (.func 61) #[] #[(ptr q5 0)]))], [(0, some ⟨b, true, 0, (.lit [(u64 m.a), (u64 m.b), (u64 m.c), (u64 m.d), (u32 (doneS s)), (Value.int .i32 0), (u32 0), (u64 ((lackS m s).a)), (u64 ((lackS m s).b)), (u64 ((lackS m s).c)), (u64 ((lackS m s).d)), (u64 ((oneS m s).a)), (u64 ((oneS m s).b)), (u64 ((oneS m s).c)), (u64 ((oneS m s).d)), (u64 ((twoS m s).a)), (u64 ((twoS m s).b)), (u64 ((twoS m s).c)), (u64 ((twoS m s).d))])⟩), (1, some ⟨p, false, o, (tabN n f)⟩), (2, some ⟨q1, true, 0, (.lit [(ptr b 0)])⟩), (3, some ⟨q2, true, 0, (.lit [(u64 z.a), (u64 z.b), (u64 z.c), (u64 z.d)])⟩), (4, some ⟨q3, true, 0, (.lit [(u64 0), (u64 0), (u64 0), (u64 0)])⟩), (5, some ⟨q4, true, 0, (.lit [(u64 0), (u64 0), (u64 0), (u64 0)])⟩), (6, some ⟨q5, true, 0, (.lit [(Value.slice (some ⟨p, o, none⟩) n c)])⟩)], 7⟩

theorem eval_preA (b : Nat) (m : N4) (s : Bool) (p o n c : Nat) (f : Nat → N4) (z : N4)  : ev Try.prog 23 60 false evA (Go.Eng.start [(ptr b 0), (Value.slice (some ⟨p, o, none⟩) n c), (nat4 z)] [⟨b, true, 0, (.lit [(u64 m.a), (u64 m.b), (u64 m.c), (u64 m.d), (u32 (doneS s)), (Value.int .i32 0), (u32 0), (u64 ((lackS m s).a)), (u64 ((lackS m s).b)), (u64 ((lackS m s).c)), (u64 ((lackS m s).d)), (u64 ((oneS m s).a)), (u64 ((oneS m s).b)), (u64 ((oneS m s).c)), (u64 ((oneS m s).d)), (u64 ((twoS m s).a)), (u64 ((twoS m s).b)), (u64 ((twoS m s).c)), (u64 ((twoS m s).d))])⟩, ⟨p, false, o, (tabN n f)⟩]) (.regn [(0, .new), (1, .new), (2, .new)] (more (fun n1 => more (fun n2 => more (fun n3 => fun _ => .done)))))
    (fun e s' _ => e = Exit.normal ∧ Meet (fun _ => True) (fun x : Nat × Nat × Nat => evSA b m s p o n c f z x.1 x.2.1 x.2.2) (s'.keep [0, 1, 2, 3, 5, 6] [0, 1, 2, 3, 4] 5)) :=
  Eq.mp (by kernel_rfl) (fun (n1 n2 n3 : Nat) => And.intro (sk (sk (sk trivial))) ((And.intro (@rfl Exit .normal) (meet (fun _ => True) (fun x : Nat × Nat × Nat => evSA b m s p o n c f z x.1 x.2.1 x.2.2) (n1, n2, n3) trivial))))

theorem eval_preB (b : Nat) (m : N4) (s : Bool) (p o n c : Nat) (f : Nat → N4) (z : N4) (q1 q2 q3 : Nat) : ev Try.prog 23 60 false evB (evSA b m s p o n c f z q1 q2 q3) (.regn [(0, .new)] (more (fun n1 => fun _ => .done)))
    (fun e s' _ => e = Exit.normal ∧ Meet (fun _ => True) (fun x : Nat => evSB b m s p o n c f z q1 q2 q3 x) (s'.keep [0, 1, 2, 3, 5, 6, 7] [0, 1, 2, 3, 4, 5] 6)) :=
  Eq.mp (by kernel_rfl) (fun (n1 : Nat) => And.intro (sk trivial) ((And.intro (@rfl Exit .normal) (meet (fun _ => True) (fun x : Nat => evSB b m s p o n c f z q1 q2 q3 x) (n1) trivial))))

theorem eval_preC (b : Nat) (m : N4) (s : Bool) (p o n c : Nat) (f : Nat → N4) (z : N4) (q1 q2 q3 q4 : Nat) : ev Try.prog 23 60 false evC (evSB b m s p o n c f z q1 q2 q3 q4) (.regn [(0, .g), (1, (.call [] 1 1 (fun ns => (Value.func (.func 61) #[] #[(ptr (ns.getD 0 0) 0)])) (fun ns => [some ⟨(ns.getD 0 0), true, 0, .lit [(Value.slice (some ⟨p, o, none⟩) n c)]⟩])))] (more (fun n1 => fun _ => .done)))
    (fun e s' _ => e = Exit.normal ∧ Meet (fun _ => True) (fun x : Nat => evS0 b m s p o n c f z q1 q2 q3 q4 x) (s'.keep [0, 1, 2, 3, 5, 6, 7, 11] [0, 1, 2, 3, 4, 5, 6] 7)) :=
  Eq.mp (by kernel_rfl) (fun (n1 : Nat) => And.intro (sk (And.intro (And.intro trivial (backward_runs (some ⟨p, o, none⟩) n c)) trivial)) ((And.intro (@rfl Exit .normal) (meet (fun _ => True) (fun x : Nat => evS0 b m s p o n c f z q1 q2 q3 q4 x) (n1) trivial))))

def evC0 (b : Nat) (m : N4) (s : Bool) (p o n c : Nat) (f : Nat → N4) (z : N4) (q1 q2 q3 q4 q5 : Nat) (d : Bool) (v : N4) : St := ⟨[(0, .v (ptr b 0)), (1, .v (Value.slice (some ⟨p, o, none⟩) n c)), (2, .v (nat4 z)), (3, .v (ptr q1 0)), (5, .v (ptr q2 0)), (6, .v (ptr q3 0)), (7, .v (ptr q4 0)), (11, .v (Value.func (.func 61) #[] #[(ptr q5 0)]))], [(0, some ⟨b, true, 0, (.lit [(u64 m.a), (u64 m.b), (u64 m.c), (u64 m.d), (u32 (doneS d)), (Value.int .i32 0), (u32 0), (u64 ((lackS m d).a)), (u64 ((lackS m d).b)), (u64 ((lackS m d).c)), (u64 ((lackS m d).d)), (u64 ((oneS m d).a)), (u64 ((oneS m d).b)), (u64 ((oneS m d).c)), (u64 ((oneS m d).d)), (u64 ((twoS m d).a)), (u64 ((twoS m d).b)), (u64 ((twoS m d).c)), (u64 ((twoS m d).d))])⟩), (1, some ⟨p, false, o, (tabN n f)⟩), (2, some ⟨q1, true, 0, (.lit [(ptr b 0)])⟩), (3, some ⟨q2, true, 0, (.lit [(u64 z.a), (u64 z.b), (u64 z.c), (u64 z.d)])⟩), (4, some ⟨q3, true, 0, (.lit [(u64 0), (u64 0), (u64 0), (u64 0)])⟩), (5, some ⟨q4, true, 0, (.lit [(u64 v.a), (u64 v.b), (u64 v.c), (u64 v.d)])⟩)], 7⟩

def evC1 (b : Nat) (m : N4) (s : Bool) (p o n c : Nat) (f : Nat → N4) (z : N4) (q1 q2 q3 q4 q5 : Nat) (d : Bool) (v : N4) (i : Nat) : St := ⟨[(12, .v (nat i)), (13, .v (nat4 (f i))), (0, .v (ptr b 0)), (1, .v (Value.slice (some ⟨p, o, none⟩) n c)), (2, .v (nat4 z)), (3, .v (ptr q1 0)), (5, .v (ptr q2 0)), (6, .v (ptr q3 0)), (7, .v (ptr q4 0)), (11, .v (Value.func (.func 61) #[] #[(ptr q5 0)]))], [(0, some ⟨b, true, 0, (.lit [(u64 m.a), (u64 m.b), (u64 m.c), (u64 m.d), (u32 (doneS d)), (Value.int .i32 0), (u32 0), (u64 ((lackS m d).a)), (u64 ((lackS m d).b)), (u64 ((lackS m d).c)), (u64 ((lackS m d).d)), (u64 ((oneS m d).a)), (u64 ((oneS m d).b)), (u64 ((oneS m d).c)), (u64 ((oneS m d).d)), (u64 ((twoS m d).a)), (u64 ((twoS m d).b)), (u64 ((twoS m d).c)), (u64 ((twoS m d).d))])⟩), (1, some ⟨p, false, o, (tabN n f)⟩), (2, some ⟨q1, true, 0, (.lit [(ptr b 0)])⟩), (3, some ⟨q2, true, 0, (.lit [(u64 z.a), (u64 z.b), (u64 z.c), (u64 z.d)])⟩), (4, some ⟨q3, true, 0, (.lit [(u64 0), (u64 0), (u64 0), (u64 0)])⟩), (5, some ⟨q4, true, 0, (.lit [(u64 v.a), (u64 v.b), (u64 v.c), (u64 v.d)])⟩)], 7⟩

def evC2 (b : Nat) (m : N4) (s : Bool) (p o n c : Nat) (f : Nat → N4) (z : N4) (q1 q2 q3 q4 q5 : Nat) (d : Bool) (v : N4) (i k : Nat) : St := ⟨[(0, .v (ptr b 0)), (1, .v (Value.slice (some ⟨p, o, none⟩) n c)), (2, .v (nat4 z)), (3, .v (ptr q1 0)), (5, .v (ptr q2 0)), (6, .v (ptr q3 0)), (7, .v (ptr q4 0)), (11, .v (Value.func (.func 61) #[] #[(ptr q5 0)])), (9, .v (ptr k 0))], [(0, some ⟨b, true, 0, (.lit [(u64 m.a), (u64 m.b), (u64 m.c), (u64 m.d), (u32 (doneS d)), (Value.int .i32 0), (u32 0), (u64 ((lackS m d).a)), (u64 ((lackS m d).b)), (u64 ((lackS m d).c)), (u64 ((lackS m d).d)), (u64 ((oneS m d).a)), (u64 ((oneS m d).b)), (u64 ((oneS m d).c)), (u64 ((oneS m d).d)), (u64 ((twoS m d).a)), (u64 ((twoS m d).b)), (u64 ((twoS m d).c)), (u64 ((twoS m d).d))])⟩), (1, some ⟨p, false, o, (tabN n f)⟩), (2, some ⟨q1, true, 0, (.lit [(ptr b 0)])⟩), (3, some ⟨q2, true, 0, (.lit [(u64 z.a), (u64 z.b), (u64 z.c), (u64 z.d)])⟩), (4, some ⟨q3, true, 0, (.lit [(u64 0), (u64 0), (u64 0), (u64 0)])⟩), (5, some ⟨q4, true, 0, (.lit [(u64 v.a), (u64 v.b), (u64 v.c), (u64 v.d)])⟩), (7, some ⟨k, true, 0, (.lit [(u64 ((f i).a)), (u64 ((f i).b)), (u64 ((f i).c)), (u64 ((f i).d))])⟩)], 8⟩

theorem eval_asg (b : Nat) (m : N4) (s : Bool) (p o n c : Nat) (f : Nat → N4) (z : N4) (q1 q2 q3 q4 q5 : Nat) (d : Bool) (v : N4) (i : Nat) : ev Try.prog 23 60 false evAsg (evC1 b m s p o n c f z q1 q2 q3 q4 q5 d v i) (.regn [(0, .new), (1, (.st 7 (.lit 0)))] (more (fun n1 => fun _ => .done)))
    (fun e s' _ => e = Exit.normal ∧ Meet (fun _ => True) (fun k : Nat => evC2 b m s p o n c f z q1 q2 q3 q4 q5 d v i k) (s'.keep [0, 1, 2, 3, 5, 6, 7, 11, 9] [0, 1, 2, 3, 4, 5, 7] 8)) :=
  Eq.mp (by kernel_rfl) (fun (n1 : Nat) => And.intro (sk (And.intro (And.intro trivial (ad n1 0)) trivial)) ((And.intro (@rfl Exit .normal) (meet (fun _ => True) (fun k : Nat => evC2 b m s p o n c f z q1 q2 q3 q4 q5 d v i k) n1 trivial))))

theorem eval_body (b : Nat) (m : N4) (s : Bool) (p o n c : Nat) (f : Nat → N4) (z : N4) (q1 q2 q3 q4 q5 : Nat) (hm : OddM m) (d : Bool) (v : N4) (i k : Nat) : ev Try.prog 23 60 false evBody (evC2 b m s p o n c f z q1 q2 q3 q4 q5 d v i k) (.regn [(0, (.ld 2 (.lit 0))), (1, (.ld 2 (.lit 0))), (2, (.ld 3 (.lit 0))), (3, (.ld 5 (.lit 0))), (4, (.call [(0, false)] 0 0 (fun _ => (nat4 (timesM m z v))) (fun _ => [some ⟨b, true, 0, (.lit [(u64 m.a), (u64 m.b), (u64 m.c), (u64 m.d), (u32 (doneS true)), (Value.int .i32 0), (u32 0), (u64 ((lackS m true).a)), (u64 ((lackS m true).b)), (u64 ((lackS m true).c)), (u64 ((lackS m true).d)), (u64 ((oneS m true).a)), (u64 ((oneS m true).b)), (u64 ((oneS m true).c)), (u64 ((oneS m true).d)), (u64 ((twoS m true).a)), (u64 ((twoS m true).b)), (u64 ((twoS m true).c)), (u64 ((twoS m true).d))])⟩]))), (5, (.ld 7 (.lit 0))), (6, (.oth [] 1 1 (fun ns => Value.slice (some ⟨ns.getD 0 0, 0, none⟩) 2 2) (fun ns => [some ⟨ns.getD 0 0, true, 0, .lit [(u64 ((timesM m z v).a)), (u64 ((timesM m z v).b)), (u64 ((timesM m z v).c)), (u64 ((timesM m z v).d)), (u64 ((f i).a)), (u64 ((f i).b)), (u64 ((f i).c)), (u64 ((f i).d))]⟩]))), (7, (.call [(0, true), (8, true)] 0 0 (fun _ => (nat4 (sumM m (nrow2 (timesM m z v) (f i)) 2))) (fun _ => [none, none]))), (8, (.st 5 (.lit 0)))] (more (fun n1 => fun _ => .done)))
    (fun e s' _ => e = Exit.normal ∧ s'.keep [0, 1, 2, 3, 5, 6, 7, 11] [0, 1, 2, 3, 4, 5] 7 = evC0 b m s p o n c f z q1 q2 q3 q4 q5 true (stepV m z f v i)) :=
  Eq.mp (by kernel_rfl) (fun (n1 : Nat) => And.intro (And.intro (And.intro trivial (ad q1 0)) (And.intro (And.intro trivial (ad q1 0)) (And.intro (And.intro trivial (ad q2 0)) (And.intro (And.intro trivial (ad q4 0)) (And.intro (And.intro trivial (Runs.dark [false] (times_runs b m d hm z v))) (And.intro (And.intro trivial (ad k 0)) (And.intro (And.intro trivial (mkE_build (P := Try.prog) (t := 25) (e := 24) (z := (Value.agg #[(u64 0), (u64 0), (u64 0), (u64 0)])) agg24 (by kernel_rfl) 2 #[(0, (nat4 (timesM m z v))), (1, (nat4 (f i)))] #[(u64 ((timesM m z v).a)), (u64 ((timesM m z v).b)), (u64 ((timesM m z v).c)), (u64 ((timesM m z v).d)), (u64 ((f i).a)), (u64 ((f i).b)), (u64 ((f i).c)), (u64 ((f i).d))] (by kernel_rfl) (by decide) (by kernel_rfl))) (And.intro (And.intro trivial (Runs.dark [true, true] (sum_2 b m true hm n1 (timesM m z v) (f i)))) (And.intro (And.intro trivial (ad q4 0)) trivial))))))))) ((And.intro (@rfl Exit .normal) (@rfl St (evC0 b m s p o n c f z q1 q2 q3 q4 q5 true (stepV m z f v i))))))
end Go.Proofs.Ytmaejpooanenpaa
