/-
  Many in one: LimbByt, EngT, MontFnsA, EngU, ModqMath, ModqRef, EngV, EngZ, ModqLag.
-/
import Derived.Test.YtmhhdnfidbednaaGreatZShareTurned6
import Derived.Deep.Slices
set_option linter.unusedVariables false
set_option linter.unusedSimpArgs false
set_option maxRecDepth 100000
set_option maxHeartbeats 1000000
section
namespace Go.Eng
section
variable {P:Program} {t t':TypeId} {x y:Operand} (a b:UInt8)
end
end Go.Eng
namespace Go.Eng
section bytesin
open Go.ChangeShapes Go.WideShapes Go.ChangeAt Go.RowKit Go.Deep
variable {H:Type} {enc:TypeId × Value→H} {P:Program}
theorem lt_of_cell {W:World} {a:Addr} {v:Value} (h:W.cell? a=some v):a.block < W.heap.size:=by
  by_cases hlt:a.block < W.heap.size
  · exact hlt
  · have:W.heap[a.block]? = none:=by simp; omega
    simp [World.cell?,this] at h
end bytesin
end Go.Eng
end
section
namespace Go.Eng
section
open Go.ChangeShapes Go.WideShapes Go.ChangeAt Go.RowKit Go.Deep
variable {H:Type} {enc:TypeId × Value→H} {P:Program}
def cellsN (a:N4):List Value:=[u64 a.a,u64 a.b,u64 a.c,u64 a.d]
instance:Inhabited N4:=⟨⟨0,0,0,0⟩⟩
end
end Go.Eng
end
section
namespace Go.Proofs.YtmhhdnfidbednaaGreat
open Go Go.Eng
theorem halves_pure (w:N8):Pure Tryz.prog 104 [(wide8 w)] (Value.tuple #[nat4 w.lo,nat4 w.hi]) :=
  pure_of_ev mix Tryz.func104 rfl rfl 400 (.regn (rg [.new,.new,.new]) (more (fun n1=>more (fun n2=>more (fun n3=>fun _=>(.reg (rg [.g,.g,(.ld 0 (.lit 0)),.g,.g,(.ld 0 (.lit 4)),(.st 1 (.lit 0)),(.st 2 (.lit 0))]) .done)))))) [(1,0),(2,0)]
    (Eq.mp (by kernel_rfl) (fun(n1 n2 n3:Nat)=>aI kV3 (aI (sK2 (aI (aT (ad n1 0)) (sK2 (aI (aT (ad n1 4)) (aI (aT (ad n2 0)) (aI (aT (ad n3 0)) tV)))))) (aI (aI (@rfl Value (ptr n2 0)) (aI (@rfl Value (ptr n3 0)) tV)) (@rfl Value (Value.tuple #[nat4 w.lo,nat4 w.hi]))))))
theorem rem_odd (w:N8) (m:N4) (hm:OddM m):Pure Tryz.prog 105 [wide8 w,nat4 m] (Value.tuple #[nat4 (N4.ofNat (w.val % m.val)),int 0]):=by
  have h:=rem_pure w m
  have e:eq4 m ⟨0,0,0,0⟩=false:=by rw [eq4_val]; exact decide_eq_false (by rw [val_zero]; have:=hm.pos; omega)
  rw [remV,e] at h; exact h
theorem div_odd (a m:N4) (hm:OddM m):Pure Tryz.prog 79 [nat4 a,nat4 m] (Value.tuple #[nat4 (N4.ofNat (a.val / m.val)),nat4 (belowM m a),int 0]):=by
  have h:=div_pure a m
  have e:eq4 m ⟨0,0,0,0⟩=false:=by rw [eq4_val]; exact decide_eq_false (by rw [val_zero]; have:=hm.pos; omega)
  rw [divV,e] at h; exact h
theorem less_runs (b:Nat) (m:N4) (s:Bool) (hm:OddM m) (a:N4) (c:UInt64):Runs Tryz.prog 51 [(ptr b 0),(nat4 a),(u64 c)] [⟨b,false,0,(.lit [(u64 m.a),(u64 m.b),(u64 m.c),(u64 m.d),(u32 (doneS s)),(Value.int .i32 0),(u32 0),(u64 ((lackS m s).a)),(u64 ((lackS m s).b)),(u64 ((lackS m s).c)),(u64 ((lackS m s).d)),(u64 ((oneS m s).a)),(u64 ((oneS m s).b)),(u64 ((oneS m s).c)),(u64 ((oneS m s).d)),(u64 ((twoS m s).a)),(u64 ((twoS m s).b)),(u64 ((twoS m s).c)),(u64 ((twoS m s).d))])⟩] 0 (fun _=>nat4 (lessM m a c)) (fun _=>[some ⟨b,false,0,(.lit [(u64 m.a),(u64 m.b),(u64 m.c),(u64 m.d),(u32 (doneS s)),(Value.int .i32 0),(u32 0),(u64 ((lackS m s).a)),(u64 ((lackS m s).b)),(u64 ((lackS m s).c)),(u64 ((lackS m s).d)),(u64 ((oneS m s).a)),(u64 ((oneS m s).b)),(u64 ((oneS m s).c)),(u64 ((oneS m s).d)),(u64 ((twoS m s).a)),(u64 ((twoS m s).b)),(u64 ((twoS m s).c)),(u64 ((twoS m s).d))])⟩]) :=
  runs_of_ev mix Tryz.func51 rfl rfl 400 (.regn (rg [.new,.new]) (more (fun n1=>more (fun n2=>fun _=>(.regn (rg [(.ld 1 (.lit 0)),.g,.g,.g,(.ld 0 (.lit 0)),(.call [] 0 0 (fun _=>(Value.tuple #[(nat4 (sub4 a m)),(u64 (b2u (sub4c a m)))])) (fun _=>[])),.g,.g,.g,.new,(.st 3 (.lit 0)),.g]) (more (fun n3=>fun _=>(.reg (rg [.g,(.as (Value.bool (c == 0))),.g,(.opt .g),(.opt (.as (Value.bool ((b2u (sub4c a m)) == 1)))),.pk]) (.br (.reg (rg [(.ld 1 (.lit 0)),(.st 2 (.lit 0))]) .done) (.reg (rg [(.ld 3 (.lit 0)),(.st 2 (.lit 0))]) .done)))))))))) [(2,0)] [] rfl
    (Eq.mp (by kernel_rfl) (fun(n1 n2:Nat)=>aI kV2 (fun(n3:Nat)=>aI (aI (aT (ad n1 0)) (sK3 (aI (aT (ad b 0)) (aI (aT (sub_pure a m)) (sK4 (aI (aT (ad n3 0)) kV1)))))) (aI (sk (aI (aT (@is_eql64 Tryz.prog 24 24 (.tmp 18) (.const (.int .u64 0)) c 0)) (sk (aI (fun(hg:(sameB (c == 0) true)=true)=>t2) (aI (fun(hg:(sameB (c == 0) true)=true)=>(aI (aI hg tV) (@is_eql64 Tryz.prog 24 24 (.tmp 21) (.const (.int .u64 1)) (b2u (sub4c a m)) 1))) (aI (aT (aI (fun(hp:(c == 0)=true)=>(sameB_mk hp)) (fun(_:(c == 0)=false)=>tV))) tV)))))) (aT (aI (fun(h1:(selB (c == 0) ((b2u (sub4c a m)) == 1) false)=true)=>have f0:(c == 0)=true:=(sband_l h1); have f1:((b2u (sub4c a m)) == 1)=true:=(sband_r h1); aI (aI (aT (ad n1 0)) (aI (aT (ad n2 0)) tV)) (aI (aI (@rfl Value (ptr n2 0)) tV) (eX (fun(ns:List Nat)=>ns.length=0∧((nat4 a):Value)=(fun _=>nat4 (lessM m a c)) ns∧([some ⟨b,false,0,(.lit [(u64 m.a),(u64 m.b),(u64 m.c),(u64 m.d),(u32 (doneS s)),(Value.int .i32 0),(u32 0),(u64 ((lackS m s).a)),(u64 ((lackS m s).b)),(u64 ((lackS m s).c)),(u64 ((lackS m s).d)),(u64 ((oneS m s).a)),(u64 ((oneS m s).b)),(u64 ((oneS m s).c)),(u64 ((oneS m s).d)),(u64 ((twoS m s).a)),(u64 ((twoS m s).b)),(u64 ((twoS m s).c)),(u64 ((twoS m s).d))])⟩]:List (Option Blk))=(fun _=>[some ⟨b,false,0,(.lit [(u64 m.a),(u64 m.b),(u64 m.c),(u64 m.d),(u32 (doneS s)),(Value.int .i32 0),(u32 0),(u64 ((lackS m s).a)),(u64 ((lackS m s).b)),(u64 ((lackS m s).c)),(u64 ((lackS m s).d)),(u64 ((oneS m s).a)),(u64 ((oneS m s).b)),(u64 ((oneS m s).c)),(u64 ((oneS m s).d)),(u64 ((twoS m s).a)),(u64 ((twoS m s).b)),(u64 ((twoS m s).c)),(u64 ((twoS m s).d))])⟩]) ns) [] (aI (@rfl Nat 0) (aI ((show(nat4 a)=nat4 (lessM m a c) from by rw [lessM,h1] <;> rfl)) (@rfl (List (Option Blk)) [some ⟨b,false,0,(.lit [(u64 m.a),(u64 m.b),(u64 m.c),(u64 m.d),(u32 (doneS s)),(Value.int .i32 0),(u32 0),(u64 ((lackS m s).a)),(u64 ((lackS m s).b)),(u64 ((lackS m s).c)),(u64 ((lackS m s).d)),(u64 ((oneS m s).a)),(u64 ((oneS m s).b)),(u64 ((oneS m s).c)),(u64 ((oneS m s).d)),(u64 ((twoS m s).a)),(u64 ((twoS m s).b)),(u64 ((twoS m s).c)),(u64 ((twoS m s).d))])⟩])))))) (fun(h1:(selB (c == 0) ((b2u (sub4c a m)) == 1) false)=false)=>have f0:((c == 0)=false)∨(((b2u (sub4c a m)) == 1)=false):=(Or.imp (fun h=>h) (fun h=>h) (sband_f h1)); aI (aI (aT (ad n3 0)) (aI (aT (ad n2 0)) tV)) (aI (aI (@rfl Value (ptr n2 0)) tV) (eX (fun(ns:List Nat)=>ns.length=0∧((nat4 (sub4 a m)):Value)=(fun _=>nat4 (lessM m a c)) ns∧([some ⟨b,false,0,(.lit [(u64 m.a),(u64 m.b),(u64 m.c),(u64 m.d),(u32 (doneS s)),(Value.int .i32 0),(u32 0),(u64 ((lackS m s).a)),(u64 ((lackS m s).b)),(u64 ((lackS m s).c)),(u64 ((lackS m s).d)),(u64 ((oneS m s).a)),(u64 ((oneS m s).b)),(u64 ((oneS m s).c)),(u64 ((oneS m s).d)),(u64 ((twoS m s).a)),(u64 ((twoS m s).b)),(u64 ((twoS m s).c)),(u64 ((twoS m s).d))])⟩]:List (Option Blk))=(fun _=>[some ⟨b,false,0,(.lit [(u64 m.a),(u64 m.b),(u64 m.c),(u64 m.d),(u32 (doneS s)),(Value.int .i32 0),(u32 0),(u64 ((lackS m s).a)),(u64 ((lackS m s).b)),(u64 ((lackS m s).c)),(u64 ((lackS m s).d)),(u64 ((oneS m s).a)),(u64 ((oneS m s).b)),(u64 ((oneS m s).c)),(u64 ((oneS m s).d)),(u64 ((twoS m s).a)),(u64 ((twoS m s).b)),(u64 ((twoS m s).c)),(u64 ((twoS m s).d))])⟩]) ns) [] (aI (@rfl Nat 0) (aI ((show(nat4 (sub4 a m))=nat4 (lessM m a c) from by rw [lessM,h1] <;> rfl)) (@rfl (List (Option Blk)) [some ⟨b,false,0,(.lit [(u64 m.a),(u64 m.b),(u64 m.c),(u64 m.d),(u32 (doneS s)),(Value.int .i32 0),(u32 0),(u64 ((lackS m s).a)),(u64 ((lackS m s).b)),(u64 ((lackS m s).c)),(u64 ((lackS m s).d)),(u64 ((oneS m s).a)),(u64 ((oneS m s).b)),(u64 ((oneS m s).c)),(u64 ((oneS m s).d)),(u64 ((twoS m s).a)),(u64 ((twoS m s).b)),(u64 ((twoS m s).c)),(u64 ((twoS m s).d))])⟩]))))))))))))
theorem below_runs (b:Nat) (m:N4) (s:Bool) (hm:OddM m) (a:N4):Runs Tryz.prog 53 [(ptr b 0),(nat4 a)] [⟨b,false,0,(.lit [(u64 m.a),(u64 m.b),(u64 m.c),(u64 m.d),(u32 (doneS s)),(Value.int .i32 0),(u32 0),(u64 ((lackS m s).a)),(u64 ((lackS m s).b)),(u64 ((lackS m s).c)),(u64 ((lackS m s).d)),(u64 ((oneS m s).a)),(u64 ((oneS m s).b)),(u64 ((oneS m s).c)),(u64 ((oneS m s).d)),(u64 ((twoS m s).a)),(u64 ((twoS m s).b)),(u64 ((twoS m s).c)),(u64 ((twoS m s).d))])⟩] 0 (fun _=>nat4 (belowM m a)) (fun _=>[some ⟨b,false,0,(.lit [(u64 m.a),(u64 m.b),(u64 m.c),(u64 m.d),(u32 (doneS s)),(Value.int .i32 0),(u32 0),(u64 ((lackS m s).a)),(u64 ((lackS m s).b)),(u64 ((lackS m s).c)),(u64 ((lackS m s).d)),(u64 ((oneS m s).a)),(u64 ((oneS m s).b)),(u64 ((oneS m s).c)),(u64 ((oneS m s).d)),(u64 ((twoS m s).a)),(u64 ((twoS m s).b)),(u64 ((twoS m s).c)),(u64 ((twoS m s).d))])⟩]) :=
  runs_of_ev mix Tryz.func53 rfl rfl 400 (.regn (rg [.new,.new]) (more (fun n1=>more (fun n2=>fun _=>(.reg (rg [(.ld 1 (.lit 0)),.g,.g,.g,(.ld 0 (.lit 0)),(.call [] 0 0 (fun _=>(int (cmp4 a m))) (fun _=>[])),.g]) (.br (.reg (rg [(.ld 1 (.lit 0)),(.st 2 (.lit 0))]) .done) (.regn (rg [(.ld 1 (.lit 0)),.g,.g,.g,(.ld 0 (.lit 0)),(.call [] 0 0 (fun _=>(Value.tuple #[(nat4 (N4.ofNat (a.val / m.val))),(nat4 (belowM m a)),(int 0)])) (fun _=>[])),.g,.g,.g,.g,.new,.new,(.st 3 (.lit 0)),(.st 4 (.lit 0)),.g]) (more (fun n3=>more (fun n4=>fun _=>(.reg (rg [(.ld 4 (.lit 0)),(.st 2 (.lit 0))]) .done))))))))))) [(2,0)] [] rfl
    (Eq.mp (by kernel_rfl) (fun(n1 n2:Nat)=>aI kV2 (aI (aI (aT (ad n1 0)) (sK3 (aI (aT (ad b 0)) (aI (aT (cmp_pure a m)) kV1)))) (aT (aI (fun(h1:(decide (((cmp4 a m):Int) < 0))=true)=>have f0:=(oT h1); aI (aI (aT (ad n1 0)) (aI (aT (ad n2 0)) tV)) (aI (aI (@rfl Value (ptr n2 0)) tV) (eX (fun(ns:List Nat)=>ns.length=0∧((nat4 a):Value)=(fun _=>nat4 (belowM m a)) ns∧([some ⟨b,false,0,(.lit [(u64 m.a),(u64 m.b),(u64 m.c),(u64 m.d),(u32 (doneS s)),(Value.int .i32 0),(u32 0),(u64 ((lackS m s).a)),(u64 ((lackS m s).b)),(u64 ((lackS m s).c)),(u64 ((lackS m s).d)),(u64 ((oneS m s).a)),(u64 ((oneS m s).b)),(u64 ((oneS m s).c)),(u64 ((oneS m s).d)),(u64 ((twoS m s).a)),(u64 ((twoS m s).b)),(u64 ((twoS m s).c)),(u64 ((twoS m s).d))])⟩]:List (Option Blk))=(fun _=>[some ⟨b,false,0,(.lit [(u64 m.a),(u64 m.b),(u64 m.c),(u64 m.d),(u32 (doneS s)),(Value.int .i32 0),(u32 0),(u64 ((lackS m s).a)),(u64 ((lackS m s).b)),(u64 ((lackS m s).c)),(u64 ((lackS m s).d)),(u64 ((oneS m s).a)),(u64 ((oneS m s).b)),(u64 ((oneS m s).c)),(u64 ((oneS m s).d)),(u64 ((twoS m s).a)),(u64 ((twoS m s).b)),(u64 ((twoS m s).c)),(u64 ((twoS m s).d))])⟩]) ns) [] (aI (@rfl Nat 0) (aI ((show(nat4 a)=nat4 (belowM m a) from by rw [← belowM_yes h1])) (@rfl (List (Option Blk)) [some ⟨b,false,0,(.lit [(u64 m.a),(u64 m.b),(u64 m.c),(u64 m.d),(u32 (doneS s)),(Value.int .i32 0),(u32 0),(u64 ((lackS m s).a)),(u64 ((lackS m s).b)),(u64 ((lackS m s).c)),(u64 ((lackS m s).d)),(u64 ((oneS m s).a)),(u64 ((oneS m s).b)),(u64 ((oneS m s).c)),(u64 ((oneS m s).d)),(u64 ((twoS m s).a)),(u64 ((twoS m s).b)),(u64 ((twoS m s).c)),(u64 ((twoS m s).d))])⟩])))))) (fun(h1:(decide (((cmp4 a m):Int) < 0))=false)=>have f0:=(oF h1); fun(n3 n4:Nat)=>aI (aI (aT (ad n1 0)) (sK3 (aI (aT (ad b 0)) (aI (aT (div_odd a m hm)) (sK4 (sK2 (aI (aT (ad n3 0)) (aI (aT (ad n4 0)) kV1)))))))) (aI (aI (aT (ad n4 0)) (aI (aT (ad n2 0)) tV)) (aI (aI (@rfl Value (ptr n2 0)) tV) (eX (fun(ns:List Nat)=>ns.length=0∧((nat4 (belowM m a)):Value)=(fun _=>nat4 (belowM m a)) ns∧([some ⟨b,false,0,(.lit [(u64 m.a),(u64 m.b),(u64 m.c),(u64 m.d),(u32 (doneS s)),(Value.int .i32 0),(u32 0),(u64 ((lackS m s).a)),(u64 ((lackS m s).b)),(u64 ((lackS m s).c)),(u64 ((lackS m s).d)),(u64 ((oneS m s).a)),(u64 ((oneS m s).b)),(u64 ((oneS m s).c)),(u64 ((oneS m s).d)),(u64 ((twoS m s).a)),(u64 ((twoS m s).b)),(u64 ((twoS m s).c)),(u64 ((twoS m s).d))])⟩]:List (Option Blk))=(fun _=>[some ⟨b,false,0,(.lit [(u64 m.a),(u64 m.b),(u64 m.c),(u64 m.d),(u32 (doneS s)),(Value.int .i32 0),(u32 0),(u64 ((lackS m s).a)),(u64 ((lackS m s).b)),(u64 ((lackS m s).c)),(u64 ((lackS m s).d)),(u64 ((oneS m s).a)),(u64 ((oneS m s).b)),(u64 ((oneS m s).c)),(u64 ((oneS m s).d)),(u64 ((twoS m s).a)),(u64 ((twoS m s).b)),(u64 ((twoS m s).c)),(u64 ((twoS m s).d))])⟩]) ns) [] (aI (@rfl Nat 0) (aI ((@rfl Value (nat4 (belowM m a)))) (@rfl (List (Option Blk)) [some ⟨b,false,0,(.lit [(u64 m.a),(u64 m.b),(u64 m.c),(u64 m.d),(u32 (doneS s)),(Value.int .i32 0),(u32 0),(u64 ((lackS m s).a)),(u64 ((lackS m s).b)),(u64 ((lackS m s).c)),(u64 ((lackS m s).d)),(u64 ((oneS m s).a)),(u64 ((oneS m s).b)),(u64 ((oneS m s).c)),(u64 ((oneS m s).d)),(u64 ((twoS m s).a)),(u64 ((twoS m s).b)),(u64 ((twoS m s).c)),(u64 ((twoS m s).d))])⟩]))))))))))))
theorem plus_runs (b:Nat) (m:N4) (s:Bool) (hm:OddM m) (x y:N4):Runs Tryz.prog 29 [(ptr b 0),(nat4 x),(nat4 y)] [⟨b,false,0,(.lit [(u64 m.a),(u64 m.b),(u64 m.c),(u64 m.d),(u32 (doneS s)),(Value.int .i32 0),(u32 0),(u64 ((lackS m s).a)),(u64 ((lackS m s).b)),(u64 ((lackS m s).c)),(u64 ((lackS m s).d)),(u64 ((oneS m s).a)),(u64 ((oneS m s).b)),(u64 ((oneS m s).c)),(u64 ((oneS m s).d)),(u64 ((twoS m s).a)),(u64 ((twoS m s).b)),(u64 ((twoS m s).c)),(u64 ((twoS m s).d))])⟩] 0 (fun _=>nat4 (plusM m x y)) (fun _=>[some ⟨b,false,0,(.lit [(u64 m.a),(u64 m.b),(u64 m.c),(u64 m.d),(u32 (doneS s)),(Value.int .i32 0),(u32 0),(u64 ((lackS m s).a)),(u64 ((lackS m s).b)),(u64 ((lackS m s).c)),(u64 ((lackS m s).d)),(u64 ((oneS m s).a)),(u64 ((oneS m s).b)),(u64 ((oneS m s).c)),(u64 ((oneS m s).d)),(u64 ((twoS m s).a)),(u64 ((twoS m s).b)),(u64 ((twoS m s).c)),(u64 ((twoS m s).d))])⟩]) :=
  runs_of_ev mix Tryz.func29 rfl rfl 400 (.regn (rg [.new,.new,.new]) (more (fun n1=>more (fun n2=>more (fun n3=>fun _=>(.reg (rg [.g,.g,(.ld 1 (.lit 0)),(.call [(0,true)] 0 0 (fun _=>(nat4 (belowM m x))) (fun _=>[none])),.g,(.ld 2 (.lit 0)),(.call [(0,true)] 0 0 (fun _=>(nat4 (belowM m y))) (fun _=>[none])),(.call [] 0 0 (fun _=>(Value.tuple #[(nat4 (add4 (belowM m x) (belowM m y))),(u64 (b2u (add4c (belowM m x) (belowM m y))))])) (fun _=>[])),.g,.g,(.call [(0,true)] 0 0 (fun _=>(nat4 (lessM m (add4 (belowM m x) (belowM m y)) (b2u (add4c (belowM m x) (belowM m y)))))) (fun _=>[none])),(.st 3 (.lit 0))]) .done)))))) [(3,0)] [] rfl
    (Eq.mp (by kernel_rfl) (fun(n1 n2 n3:Nat)=>aI kV3 (aI (sK2 (aI (aT (ad n1 0)) (aI (aT (Runs.dark [true] (below_runs b m s hm x))) (sk (aI (aT (ad n2 0)) (aI (aT (Runs.dark [true] (below_runs b m s hm y))) (aI (aT (add_pure (belowM m x) (belowM m y))) (sK2 (aI (aT (Runs.dark [true] (less_runs b m s hm (add4 (belowM m x) (belowM m y)) (b2u (add4c (belowM m x) (belowM m y)))))) (aI (aT (ad n3 0)) tV)))))))))) (aI (aI (@rfl Value (ptr n3 0)) tV) (eX (fun(ns:List Nat)=>ns.length=0∧((nat4 (lessM m (add4 (belowM m x) (belowM m y)) (b2u (add4c (belowM m x) (belowM m y))))):Value)=(fun _=>nat4 (plusM m x y)) ns∧([some ⟨b,false,0,(.lit [(u64 m.a),(u64 m.b),(u64 m.c),(u64 m.d),(u32 (doneS s)),(Value.int .i32 0),(u32 0),(u64 ((lackS m s).a)),(u64 ((lackS m s).b)),(u64 ((lackS m s).c)),(u64 ((lackS m s).d)),(u64 ((oneS m s).a)),(u64 ((oneS m s).b)),(u64 ((oneS m s).c)),(u64 ((oneS m s).d)),(u64 ((twoS m s).a)),(u64 ((twoS m s).b)),(u64 ((twoS m s).c)),(u64 ((twoS m s).d))])⟩]:List (Option Blk))=(fun _=>[some ⟨b,false,0,(.lit [(u64 m.a),(u64 m.b),(u64 m.c),(u64 m.d),(u32 (doneS s)),(Value.int .i32 0),(u32 0),(u64 ((lackS m s).a)),(u64 ((lackS m s).b)),(u64 ((lackS m s).c)),(u64 ((lackS m s).d)),(u64 ((oneS m s).a)),(u64 ((oneS m s).b)),(u64 ((oneS m s).c)),(u64 ((oneS m s).d)),(u64 ((twoS m s).a)),(u64 ((twoS m s).b)),(u64 ((twoS m s).c)),(u64 ((twoS m s).d))])⟩]) ns) [] (aI (@rfl Nat 0) (aI ((show(nat4 (lessM m (add4 (belowM m x) (belowM m y)) (b2u (add4c (belowM m x) (belowM m y)))))=nat4 (plusM m x y) from by rw [← plus_less hm x y] <;> rfl)) (@rfl (List (Option Blk)) [some ⟨b,false,0,(.lit [(u64 m.a),(u64 m.b),(u64 m.c),(u64 m.d),(u32 (doneS s)),(Value.int .i32 0),(u32 0),(u64 ((lackS m s).a)),(u64 ((lackS m s).b)),(u64 ((lackS m s).c)),(u64 ((lackS m s).d)),(u64 ((oneS m s).a)),(u64 ((oneS m s).b)),(u64 ((oneS m s).c)),(u64 ((oneS m s).d)),(u64 ((twoS m s).a)),(u64 ((twoS m s).b)),(u64 ((twoS m s).c)),(u64 ((twoS m s).d))])⟩]))))))))
theorem minus_runs (b:Nat) (m:N4) (s:Bool) (hm:OddM m) (x y:N4):Runs Tryz.prog 108 [(ptr b 0),(nat4 x),(nat4 y)] [⟨b,false,0,(.lit [(u64 m.a),(u64 m.b),(u64 m.c),(u64 m.d),(u32 (doneS s)),(Value.int .i32 0),(u32 0),(u64 ((lackS m s).a)),(u64 ((lackS m s).b)),(u64 ((lackS m s).c)),(u64 ((lackS m s).d)),(u64 ((oneS m s).a)),(u64 ((oneS m s).b)),(u64 ((oneS m s).c)),(u64 ((oneS m s).d)),(u64 ((twoS m s).a)),(u64 ((twoS m s).b)),(u64 ((twoS m s).c)),(u64 ((twoS m s).d))])⟩] 0 (fun _=>nat4 (minusM m x y)) (fun _=>[some ⟨b,false,0,(.lit [(u64 m.a),(u64 m.b),(u64 m.c),(u64 m.d),(u32 (doneS s)),(Value.int .i32 0),(u32 0),(u64 ((lackS m s).a)),(u64 ((lackS m s).b)),(u64 ((lackS m s).c)),(u64 ((lackS m s).d)),(u64 ((oneS m s).a)),(u64 ((oneS m s).b)),(u64 ((oneS m s).c)),(u64 ((oneS m s).d)),(u64 ((twoS m s).a)),(u64 ((twoS m s).b)),(u64 ((twoS m s).c)),(u64 ((twoS m s).d))])⟩]) :=
  runs_of_ev mix Tryz.func108 rfl rfl 400 (.regn (rg [.new,.new,.new]) (more (fun n1=>more (fun n2=>more (fun n3=>fun _=>(.regn (rg [.g,(.ld 1 (.lit 0)),(.call [(0,true)] 0 0 (fun _=>(nat4 (belowM m x))) (fun _=>[none])),.g,(.ld 2 (.lit 0)),(.call [(0,true)] 0 0 (fun _=>(nat4 (belowM m y))) (fun _=>[none])),(.call [] 0 0 (fun _=>(Value.tuple #[(nat4 (sub4 (belowM m x) (belowM m y))),(u64 (b2u (sub4c (belowM m x) (belowM m y))))])) (fun _=>[])),.g,.g,.g,.new,(.st 4 (.lit 0)),.g]) (more (fun n4=>fun _=>(.reg (rg [.g,(.as (Value.bool ((b2u (sub4c (belowM m x) (belowM m y))) == 1)))]) (.br (.reg (rg [(.ld 4 (.lit 0)),.g,.g,.g,(.ld 0 (.lit 0)),(.call [] 0 0 (fun _=>(Value.tuple #[(nat4 (add4 (sub4 (belowM m x) (belowM m y)) m)),(u64 (b2u (add4c (sub4 (belowM m x) (belowM m y)) m)))])) (fun _=>[])),.g,.g,.g,(.st 4 (.lit 0))]) (.reg (rg [(.ld 4 (.lit 0)),(.st 3 (.lit 0))]) .done)) (.reg (rg [(.ld 4 (.lit 0)),(.st 3 (.lit 0))]) .done))))))))))) [(3,0)] [] rfl
    (Eq.mp (by kernel_rfl) (fun(n1 n2 n3:Nat)=>aI kV3 (fun(n4:Nat)=>aI (sk (aI (aT (ad n1 0)) (aI (aT (Runs.dark [true] (below_runs b m s hm x))) (sk (aI (aT (ad n2 0)) (aI (aT (Runs.dark [true] (below_runs b m s hm y))) (aI (aT (sub_pure (belowM m x) (belowM m y))) (sK4 (aI (aT (ad n4 0)) kV1))))))))) (aI (sk (aI (aT (@is_eql64 Tryz.prog 24 24 (.tmp 19) (.const (.int .u64 1)) (b2u (sub4c (belowM m x) (belowM m y))) 1)) tV)) (aT (aI (fun(h1:((b2u (sub4c (belowM m x) (belowM m y))) == 1)=true)=>aI (aI (aT (ad n4 0)) (sK3 (aI (aT (ad b 0)) (aI (aT (add_pure (sub4 (belowM m x) (belowM m y)) m)) (sK3 (aI (aT (ad n4 0)) tV)))))) (aI (aI (aT (ad n4 0)) (aI (aT (ad n3 0)) tV)) (aI (aI (@rfl Value (ptr n3 0)) tV) (eX (fun(ns:List Nat)=>ns.length=0∧((nat4 (add4 (sub4 (belowM m x) (belowM m y)) m)):Value)=(fun _=>nat4 (minusM m x y)) ns∧([some ⟨b,false,0,(.lit [(u64 m.a),(u64 m.b),(u64 m.c),(u64 m.d),(u32 (doneS s)),(Value.int .i32 0),(u32 0),(u64 ((lackS m s).a)),(u64 ((lackS m s).b)),(u64 ((lackS m s).c)),(u64 ((lackS m s).d)),(u64 ((oneS m s).a)),(u64 ((oneS m s).b)),(u64 ((oneS m s).c)),(u64 ((oneS m s).d)),(u64 ((twoS m s).a)),(u64 ((twoS m s).b)),(u64 ((twoS m s).c)),(u64 ((twoS m s).d))])⟩]:List (Option Blk))=(fun _=>[some ⟨b,false,0,(.lit [(u64 m.a),(u64 m.b),(u64 m.c),(u64 m.d),(u32 (doneS s)),(Value.int .i32 0),(u32 0),(u64 ((lackS m s).a)),(u64 ((lackS m s).b)),(u64 ((lackS m s).c)),(u64 ((lackS m s).d)),(u64 ((oneS m s).a)),(u64 ((oneS m s).b)),(u64 ((oneS m s).c)),(u64 ((oneS m s).d)),(u64 ((twoS m s).a)),(u64 ((twoS m s).b)),(u64 ((twoS m s).c)),(u64 ((twoS m s).d))])⟩]) ns) [] (aI (@rfl Nat 0) (aI ((show(nat4 (add4 (sub4 (belowM m x) (belowM m y)) m))=nat4 (minusM m x y) from by rw [minus_yes hm x y h1] <;> rfl)) (@rfl (List (Option Blk)) [some ⟨b,false,0,(.lit [(u64 m.a),(u64 m.b),(u64 m.c),(u64 m.d),(u32 (doneS s)),(Value.int .i32 0),(u32 0),(u64 ((lackS m s).a)),(u64 ((lackS m s).b)),(u64 ((lackS m s).c)),(u64 ((lackS m s).d)),(u64 ((oneS m s).a)),(u64 ((oneS m s).b)),(u64 ((oneS m s).c)),(u64 ((oneS m s).d)),(u64 ((twoS m s).a)),(u64 ((twoS m s).b)),(u64 ((twoS m s).c)),(u64 ((twoS m s).d))])⟩]))))))) (fun(h1:((b2u (sub4c (belowM m x) (belowM m y))) == 1)=false)=>aI (aI (aT (ad n4 0)) (aI (aT (ad n3 0)) tV)) (aI (aI (@rfl Value (ptr n3 0)) tV) (eX (fun(ns:List Nat)=>ns.length=0∧((nat4 (sub4 (belowM m x) (belowM m y))):Value)=(fun _=>nat4 (minusM m x y)) ns∧([some ⟨b,false,0,(.lit [(u64 m.a),(u64 m.b),(u64 m.c),(u64 m.d),(u32 (doneS s)),(Value.int .i32 0),(u32 0),(u64 ((lackS m s).a)),(u64 ((lackS m s).b)),(u64 ((lackS m s).c)),(u64 ((lackS m s).d)),(u64 ((oneS m s).a)),(u64 ((oneS m s).b)),(u64 ((oneS m s).c)),(u64 ((oneS m s).d)),(u64 ((twoS m s).a)),(u64 ((twoS m s).b)),(u64 ((twoS m s).c)),(u64 ((twoS m s).d))])⟩]:List (Option Blk))=(fun _=>[some ⟨b,false,0,(.lit [(u64 m.a),(u64 m.b),(u64 m.c),(u64 m.d),(u32 (doneS s)),(Value.int .i32 0),(u32 0),(u64 ((lackS m s).a)),(u64 ((lackS m s).b)),(u64 ((lackS m s).c)),(u64 ((lackS m s).d)),(u64 ((oneS m s).a)),(u64 ((oneS m s).b)),(u64 ((oneS m s).c)),(u64 ((oneS m s).d)),(u64 ((twoS m s).a)),(u64 ((twoS m s).b)),(u64 ((twoS m s).c)),(u64 ((twoS m s).d))])⟩]) ns) [] (aI (@rfl Nat 0) (aI ((show(nat4 (sub4 (belowM m x) (belowM m y)))=nat4 (minusM m x y) from by rw [minus_no hm x y h1] <;> rfl)) (@rfl (List (Option Blk)) [some ⟨b,false,0,(.lit [(u64 m.a),(u64 m.b),(u64 m.c),(u64 m.d),(u32 (doneS s)),(Value.int .i32 0),(u32 0),(u64 ((lackS m s).a)),(u64 ((lackS m s).b)),(u64 ((lackS m s).c)),(u64 ((lackS m s).d)),(u64 ((oneS m s).a)),(u64 ((oneS m s).b)),(u64 ((oneS m s).c)),(u64 ((oneS m s).d)),(u64 ((twoS m s).a)),(u64 ((twoS m s).b)),(u64 ((twoS m s).c)),(u64 ((twoS m s).d))])⟩]))))))))))))
theorem reduce_runs (b:Nat) (m:N4) (hm:OddM m) (w:N8):Runs Tryz.prog 100 [(ptr b 0),(wide8 w)] [⟨b,false,0,(.lit [(u64 m.a),(u64 m.b),(u64 m.c),(u64 m.d),(u32 (doneS true)),(Value.int .i32 0),(u32 0),(u64 ((lackS m true).a)),(u64 ((lackS m true).b)),(u64 ((lackS m true).c)),(u64 ((lackS m true).d)),(u64 ((oneS m true).a)),(u64 ((oneS m true).b)),(u64 ((oneS m true).c)),(u64 ((oneS m true).d)),(u64 ((twoS m true).a)),(u64 ((twoS m true).b)),(u64 ((twoS m true).c)),(u64 ((twoS m true).d))])⟩] 0 (fun _=>nat4 (redM m (lackW m) w)) (fun _=>[some ⟨b,false,0,(.lit [(u64 m.a),(u64 m.b),(u64 m.c),(u64 m.d),(u32 (doneS true)),(Value.int .i32 0),(u32 0),(u64 ((lackS m true).a)),(u64 ((lackS m true).b)),(u64 ((lackS m true).c)),(u64 ((lackS m true).d)),(u64 ((oneS m true).a)),(u64 ((oneS m true).b)),(u64 ((oneS m true).c)),(u64 ((oneS m true).d)),(u64 ((twoS m true).a)),(u64 ((twoS m true).b)),(u64 ((twoS m true).c)),(u64 ((twoS m true).d))])⟩]) :=
  runs_of_ev mix Tryz.func100 rfl rfl 400 (.regn (rg [.new,.new]) (more (fun n1=>more (fun n2=>fun _=>(.regn (rg [(.ld 1 (.lit 0)),(.call [] 0 0 (fun _=>(Value.tuple #[(nat4 w.lo),(nat4 w.hi)])) (fun _=>[])),.g,.g,.g,.new,.new,(.st 3 (.lit 0)),(.st 4 (.lit 0))]) (more (fun n3=>more (fun n4=>fun _=>(.regn (rg [(.ld 3 (.lit 0)),.g,.g,.g,(.ld 0 (.lit 7)),(.call [] 0 0 (fun _=>(wide8 (mul8 w.lo (lackS m true)))) (fun _=>[])),(.call [] 0 0 (fun _=>(Value.tuple #[(nat4 (mul8 w.lo (lackS m true)).lo),(nat4 (mul8 w.lo (lackS m true)).hi)])) (fun _=>[])),.g,.g,.g,.new,.new,(.st 5 (.lit 0)),(.st 6 (.lit 0))]) (more (fun n5=>more (fun n6=>fun _=>(.regn (rg [(.ld 5 (.lit 0)),.g,.g,.g,(.ld 0 (.lit 0)),(.call [] 0 0 (fun _=>(wide8 (mul8 (mul8 w.lo (lackS m true)).lo m))) (fun _=>[])),(.call [] 0 0 (fun _=>(Value.tuple #[(nat4 (mul8 (mul8 w.lo (lackS m true)).lo m).lo),(nat4 (mul8 (mul8 w.lo (lackS m true)).lo m).hi)])) (fun _=>[])),.g,.g,.g,.new,.new,(.st 7 (.lit 0)),(.st 8 (.lit 0))]) (more (fun n7=>more (fun n8=>fun _=>(.regn (rg [(.ld 3 (.lit 0)),(.ld 7 (.lit 0)),(.call [] 0 0 (fun _=>(Value.tuple #[(nat4 (add4 w.lo (mul8 (mul8 w.lo (lackS m true)).lo m).lo)),(u64 (b2u (add4c w.lo (mul8 (mul8 w.lo (lackS m true)).lo m).lo)))])) (fun _=>[])),.g,.g,.g,.new,(.st 9 (.lit 0)),.g]) (more (fun n9=>fun _=>(.regn (rg [(.ld 4 (.lit 0)),(.ld 8 (.lit 0)),(.call [] 0 0 (fun _=>(Value.tuple #[(nat4 (add4 w.hi (mul8 (mul8 w.lo (lackS m true)).lo m).hi)),(u64 (b2u (add4c w.hi (mul8 (mul8 w.lo (lackS m true)).lo m).hi)))])) (fun _=>[])),.g,.g,.g,.new,(.st 10 (.lit 0)),.g]) (more (fun n10=>fun _=>(.reg (rg [(.ld 10 (.lit 0)),.g,(.call [] 0 0 (fun _=>(Value.agg #[(u64 (b2u (add4c w.lo (mul8 (mul8 w.lo (lackS m true)).lo m).lo))),(u64 0),(u64 0),(u64 0)])) (fun _=>[])),(.call [] 0 0 (fun _=>(Value.tuple #[(nat4 (add4 (add4 w.hi (mul8 (mul8 w.lo (lackS m true)).lo m).hi) (N4.mk (b2u (add4c w.lo (mul8 (mul8 w.lo (lackS m true)).lo m).lo)) 0 0 0))),(u64 (b2u (add4c (add4 w.hi (mul8 (mul8 w.lo (lackS m true)).lo m).hi) (N4.mk (b2u (add4c w.lo (mul8 (mul8 w.lo (lackS m true)).lo m).lo)) 0 0 0))))])) (fun _=>[])),.g,.g,.g,(.st 10 (.lit 0)),.g]) (.reg (rg [.g,(.ld 10 (.lit 0)),.g,.g,(.as (u64 ((b2u (add4c w.hi (mul8 (mul8 w.lo (lackS m true)).lo m).hi))+(b2u (add4c (add4 w.hi (mul8 (mul8 w.lo (lackS m true)).lo m).hi) (N4.mk (b2u (add4c w.lo (mul8 (mul8 w.lo (lackS m true)).lo m).lo)) 0 0 0)))))),(.call [(0,true)] 0 0 (fun _=>(nat4 (lessM m (add4 (add4 w.hi (mul8 (mul8 w.lo (lackS m true)).lo m).hi) (N4.mk (b2u (add4c w.lo (mul8 (mul8 w.lo (lackS m true)).lo m).lo)) 0 0 0)) ((b2u (add4c w.hi (mul8 (mul8 w.lo (lackS m true)).lo m).hi))+(b2u (add4c (add4 w.hi (mul8 (mul8 w.lo (lackS m true)).lo m).hi) (N4.mk (b2u (add4c w.lo (mul8 (mul8 w.lo (lackS m true)).lo m).lo)) 0 0 0))))))) (fun _=>[none])),(.st 2 (.lit 0))]) .done)))))))))))))))))))))))) [(2,0)] [] rfl
    (Eq.mp (by kernel_rfl) (fun(n1 n2:Nat)=>aI kV2 (fun(n3 n4:Nat)=>aI (aI (aT (ad n1 0)) (aI (aT (halves_pure w)) (sK4 (sk (aI (aT (ad n3 0)) (aI (aT (ad n4 0)) tV)))))) (fun(n5 n6:Nat)=>aI (aI (aT (ad n3 0)) (sK3 (aI (aT (ad b 7)) (aI (aT (mul_pure w.lo (lackS m true))) (aI (aT (halves_pure (mul8 w.lo (lackS m true)))) (sK4 (sk (aI (aT (ad n5 0)) (aI (aT (ad n6 0)) tV))))))))) (fun(n7 n8:Nat)=>aI (aI (aT (ad n5 0)) (sK3 (aI (aT (ad b 0)) (aI (aT (mul_pure (mul8 w.lo (lackS m true)).lo m)) (aI (aT (halves_pure (mul8 (mul8 w.lo (lackS m true)).lo m))) (sK4 (sk (aI (aT (ad n7 0)) (aI (aT (ad n8 0)) tV))))))))) (fun(n9:Nat)=>aI (aI (aT (ad n3 0)) (aI (aT (ad n7 0)) (aI (aT (add_pure w.lo (mul8 (mul8 w.lo (lackS m true)).lo m).lo)) (sK4 (aI (aT (ad n9 0)) kV1))))) (fun(n10:Nat)=>aI (aI (aT (ad n4 0)) (aI (aT (ad n8 0)) (aI (aT (add_pure w.hi (mul8 (mul8 w.lo (lackS m true)).lo m).hi)) (sK4 (aI (aT (ad n10 0)) kV1))))) (aI (aI (aT (ad n10 0)) (sk (aI (aT (small_pure (b2u (add4c w.lo (mul8 (mul8 w.lo (lackS m true)).lo m).lo)))) (aI (aT (add_pure (add4 w.hi (mul8 (mul8 w.lo (lackS m true)).lo m).hi) (N4.mk (b2u (add4c w.lo (mul8 (mul8 w.lo (lackS m true)).lo m).lo)) 0 0 0))) (sK3 (aI (aT (ad n10 0)) kV1)))))) (aI (sk (aI (aT (ad n10 0)) (sK2 (aI (aT (@is_add64 Tryz.prog 24 24 (.tmp 62) (.tmp 63) (b2u (add4c w.hi (mul8 (mul8 w.lo (lackS m true)).lo m).hi)) (b2u (add4c (add4 w.hi (mul8 (mul8 w.lo (lackS m true)).lo m).hi) (N4.mk (b2u (add4c w.lo (mul8 (mul8 w.lo (lackS m true)).lo m).lo)) 0 0 0))))) (aI (aT (Runs.dark [true] (less_runs b m true hm (add4 (add4 w.hi (mul8 (mul8 w.lo (lackS m true)).lo m).hi) (N4.mk (b2u (add4c w.lo (mul8 (mul8 w.lo (lackS m true)).lo m).lo)) 0 0 0)) ((b2u (add4c w.hi (mul8 (mul8 w.lo (lackS m true)).lo m).hi))+(b2u (add4c (add4 w.hi (mul8 (mul8 w.lo (lackS m true)).lo m).hi) (N4.mk (b2u (add4c w.lo (mul8 (mul8 w.lo (lackS m true)).lo m).lo)) 0 0 0))))))) (aI (aT (ad n2 0)) tV)))))) (aI (aI (@rfl Value (ptr n2 0)) tV) (eX (fun(ns:List Nat)=>ns.length=0∧((nat4 (lessM m (add4 (add4 w.hi (mul8 (mul8 w.lo (lackS m true)).lo m).hi) (N4.mk (b2u (add4c w.lo (mul8 (mul8 w.lo (lackS m true)).lo m).lo)) 0 0 0)) ((b2u (add4c w.hi (mul8 (mul8 w.lo (lackS m true)).lo m).hi))+(b2u (add4c (add4 w.hi (mul8 (mul8 w.lo (lackS m true)).lo m).hi) (N4.mk (b2u (add4c w.lo (mul8 (mul8 w.lo (lackS m true)).lo m).lo)) 0 0 0)))))):Value)=(fun _=>nat4 (redM m (lackW m) w)) ns∧([some ⟨b,false,0,(.lit [(u64 m.a),(u64 m.b),(u64 m.c),(u64 m.d),(u32 (doneS true)),(Value.int .i32 0),(u32 0),(u64 ((lackS m true).a)),(u64 ((lackS m true).b)),(u64 ((lackS m true).c)),(u64 ((lackS m true).d)),(u64 ((oneS m true).a)),(u64 ((oneS m true).b)),(u64 ((oneS m true).c)),(u64 ((oneS m true).d)),(u64 ((twoS m true).a)),(u64 ((twoS m true).b)),(u64 ((twoS m true).c)),(u64 ((twoS m true).d))])⟩]:List (Option Blk))=(fun _=>[some ⟨b,false,0,(.lit [(u64 m.a),(u64 m.b),(u64 m.c),(u64 m.d),(u32 (doneS true)),(Value.int .i32 0),(u32 0),(u64 ((lackS m true).a)),(u64 ((lackS m true).b)),(u64 ((lackS m true).c)),(u64 ((lackS m true).d)),(u64 ((oneS m true).a)),(u64 ((oneS m true).b)),(u64 ((oneS m true).c)),(u64 ((oneS m true).d)),(u64 ((twoS m true).a)),(u64 ((twoS m true).b)),(u64 ((twoS m true).c)),(u64 ((twoS m true).d))])⟩]) ns) [] (aI (@rfl Nat 0) (aI (@rfl Value (nat4 (redM m (lackW m) w))) (@rfl (List (Option Blk)) [some ⟨b,false,0,(.lit [(u64 m.a),(u64 m.b),(u64 m.c),(u64 m.d),(u32 (doneS true)),(Value.int .i32 0),(u32 0),(u64 ((lackS m true).a)),(u64 ((lackS m true).b)),(u64 ((lackS m true).c)),(u64 ((lackS m true).d)),(u64 ((oneS m true).a)),(u64 ((oneS m true).b)),(u64 ((oneS m true).c)),(u64 ((oneS m true).d)),(u64 ((twoS m true).a)),(u64 ((twoS m true).b)),(u64 ((twoS m true).c)),(u64 ((twoS m true).d))])⟩]))))))))))))))
def closure_runs_S1 (b:Nat) (n:Nat) (m:N4) (hm:OddM m) (n1:Nat) (x1:Nat × N4):St:=⟨[(0,.v (ptr n 0)),(1,.v (ptr n1 0)),(10,.v (nat x1.1))],[(0,some ⟨b,true,0,(.lit [(u64 m.a),(u64 m.b),(u64 m.c),(u64 m.d),(u32 0),(Value.int .i32 1),(u32 0),(u64 0),(u64 0),(u64 0),(u64 0),(u64 0),(u64 0),(u64 0),(u64 0),(u64 0),(u64 0),(u64 0),(u64 0)])⟩),(1,some ⟨n,false,0,(.lit [(ptr b 0)])⟩),(2,some ⟨n1,true,0,(.lit [(u64 x1.2.a),(u64 x1.2.b),(u64 x1.2.c),(u64 x1.2.d)])⟩)],3⟩
def closure_runs_R1 (b:Nat) (n:Nat) (m:N4) (hm:OddM m) (n1:Nat) (x1:Nat × N4):Prop:=(x1.1≤7)∧(x1.2=vN m x1.1)
def closure_runs_mu1 (b:Nat) (n:Nat) (m:N4) (hm:OddM m) (n1:Nat) (x1:Nat × N4):Nat:=7 - x1.1
theorem closure_runs (b n:Nat) (m:N4) (hm:OddM m):Runs Tryz.prog 103 [(ptr n 0)] [⟨b,true,0,(.lit [(u64 m.a),(u64 m.b),(u64 m.c),(u64 m.d),(u32 0),(Value.int .i32 1),(u32 0),(u64 0),(u64 0),(u64 0),(u64 0),(u64 0),(u64 0),(u64 0),(u64 0),(u64 0),(u64 0),(u64 0),(u64 0)])⟩,⟨n,false,0,(.lit [(ptr b 0)])⟩] 0 (fun _=>Value.tuple #[]) (fun _=>[some ⟨b,true,0,(.lit [(u64 m.a),(u64 m.b),(u64 m.c),(u64 m.d),(u32 0),(Value.int .i32 1),(u32 0),(u64 ((lackW m).a)),(u64 ((lackW m).b)),(u64 ((lackW m).c)),(u64 ((lackW m).d)),(u64 ((oneM m).a)),(u64 ((oneM m).b)),(u64 ((oneM m).c)),(u64 ((oneM m).d)),(u64 ((twoW m).a)),(u64 ((twoW m).b)),(u64 ((twoW m).c)),(u64 ((twoW m).d))])⟩,some ⟨n,false,0,(.lit [(ptr b 0)])⟩]) :=
  runs_of_ev mix Tryz.func103 rfl rfl 400 (.regn (rg [(.ld 1 (.lit 0)),.g,.g,(.ld 0 (.lit 0)),.new,(.st 2 (.lit 0))]) (more (fun n1=>fun _=>(.reg (rg [.g]) (.inv [0,1,10] [0,1,2] 3 (closure_runs_R1 b n m hm n1) (closure_runs_S1 b n m hm n1) (closure_runs_mu1 b n m hm n1) ((0,m):Nat × N4) (fun(x1:Nat × N4)=>(.reg (rg [(.as (Value.bool (decide (x1.1 < 7))))]) (.br (.regn (rg [(.ld 1 (.lit 0)),.g,.g,(.ld 0 (.lit 0)),(.ld 2 (.lit 0)),(.call [] 0 0 (fun _=>(wide8 (mul8 m x1.2))) (fun _=>[])),(.call [] 0 0 (fun _=>(Value.tuple #[(nat4 (mul8 m x1.2).lo),(nat4 (mul8 m x1.2).hi)])) (fun _=>[])),.g,.g,.g,.new,.new,(.st 3 (.lit 0)),(.st 4 (.lit 0))]) (more (fun n2=>more (fun n3=>fun _=>(.regn (rg [(.call [] 0 0 (fun _=>(Value.agg #[(u64 2),(u64 0),(u64 0),(u64 0)])) (fun _=>[])),(.ld 3 (.lit 0)),(.call [] 0 0 (fun _=>(Value.tuple #[(nat4 (sub4 (N4.mk 2 0 0 0) (mul8 m x1.2).lo)),(u64 (b2u (sub4c (N4.mk 2 0 0 0) (mul8 m x1.2).lo)))])) (fun _=>[])),.g,.g,.g,.new,(.st 5 (.lit 0)),.g]) (more (fun n4=>fun _=>(.reg (rg [(.ld 2 (.lit 0)),(.ld 5 (.lit 0)),(.call [] 0 0 (fun _=>(wide8 (mul8 x1.2 (sub4 (N4.mk 2 0 0 0) (mul8 m x1.2).lo)))) (fun _=>[])),(.call [] 0 0 (fun _=>(Value.tuple #[(nat4 (mul8 x1.2 (sub4 (N4.mk 2 0 0 0) (mul8 m x1.2).lo)).lo),(nat4 (mul8 x1.2 (sub4 (N4.mk 2 0 0 0) (mul8 m x1.2).lo)).hi)])) (fun _=>[])),.g,.g,.g,(.st 2 (.lit 0))]) (.reg (rg [(.as (nat (x1.1+1))),.g]) .done))))))))) (.reg (rg [(.ld 1 (.lit 0)),.g,(.ld 2 (.lit 0)),(.call [] 0 0 (fun _=>(Value.tuple #[(nat4 (sub4 (N4.mk 0 0 0 0) x1.2)),(u64 (b2u (sub4c (N4.mk 0 0 0 0) x1.2)))])) (fun _=>[])),.g,.g,.g,.g,.g,(.st 0 (.lit 7))]) (.reg (rg [(.ld 1 (.lit 0)),.g,(.ld 1 (.lit 0)),.g,.g,(.ld 0 (.lit 0)),(.call [] 0 0 (fun _=>(Value.tuple #[(nat4 (N4.ofNat ((N8.mk (N4.mk 0 0 0 0) (N4.mk 1 0 0 0)).val % m.val))),(int 0)])) (fun _=>[])),.g,.g,.g,.g,.g,(.st 0 (.lit 11))]) (.reg (rg [(.ld 1 (.lit 0)),(.ld 1 (.lit 0)),.g,.g,(.ld 0 (.lit 11)),(.ld 1 (.lit 0)),.g,.g,(.ld 0 (.lit 11)),(.call [] 0 0 (fun _=>(wide8 (mul8 (N4.ofNat ((N8.mk (N4.mk 0 0 0 0) (N4.mk 1 0 0 0)).val % m.val)) (N4.ofNat ((N8.mk (N4.mk 0 0 0 0) (N4.mk 1 0 0 0)).val % m.val))))) (fun _=>[])),(.ld 1 (.lit 0)),.g,.g,(.ld 0 (.lit 0)),(.call [] 0 0 (fun _=>(Value.tuple #[(nat4 (N4.ofNat ((mul8 (N4.ofNat ((N8.mk (N4.mk 0 0 0 0) (N4.mk 1 0 0 0)).val % m.val)) (N4.ofNat ((N8.mk (N4.mk 0 0 0 0) (N4.mk 1 0 0 0)).val % m.val))).val % m.val))),(int 0)])) (fun _=>[])),.g,.g,.g,.g,.g,(.st 0 (.lit 15))]) .done))))))))))) [] [] rfl
    (Eq.mp (by kernel_rfl) (fun(n1:Nat)=>aI (aI (aT (ad n 0)) (sK2 (aI (aT (ad b 0)) (sk (aI (aT (ad n1 0)) tV))))) (aI kV1 (aI (show(closure_runs_R1 b n m hm n1) ((0,m):Nat × N4) from(show(0≤7)∧(m=vN m 0) from by exact⟨by omega,rfl⟩)) (aI (@rfl St ((closure_runs_S1 b n m hm n1) ((0,m):Nat × N4))) (fun(x1:Nat × N4) (hx1:(closure_runs_R1 b n m hm n1) x1)=>have B0:x1.1≤7:=hx1.1; have B1:x1.2=vN m x1.1:=hx1.2; aI (aI (aT (@is_lssn Tryz.prog 3 3 (.tmp 10) (.const (.int .i64 7))  x1.1 7)) tV) (aT (aI (fun(h1:(decide (x1.1 < 7))=true)=>have f2:=(oT h1); fun(n2 n3:Nat)=>aI (aI (aT (ad n 0)) (sK2 (aI (aT (ad b 0)) (aI (aT (ad n1 0)) (aI (aT (mul_pure m x1.2)) (aI (aT (halves_pure (mul8 m x1.2))) (sK4 (sk (aI (aT (ad n2 0)) (aI (aT (ad n3 0)) tV)))))))))) (fun(n4:Nat)=>aI (aI (aT (small_pure 2)) (aI (aT (ad n2 0)) (aI (aT (sub_pure (N4.mk 2 0 0 0) (mul8 m x1.2).lo)) (sK4 (aI (aT (ad n4 0)) kV1))))) (aI (aI (aT (ad n1 0)) (aI (aT (ad n4 0)) (aI (aT (mul_pure x1.2 (sub4 (N4.mk 2 0 0 0) (mul8 m x1.2).lo))) (aI (aT (halves_pure (mul8 x1.2 (sub4 (N4.mk 2 0 0 0) (mul8 m x1.2).lo)))) (sK3 (aI (aT (ad n1 0)) tV)))))) (aI (aI (aT (@is_addn Tryz.prog 3 3 (.tmp 10) (.const (.int .i64 1))  x1.1 1 (show x1.1+1≤9223372036854775807 from by omega))) kV1) ((rnd (closure_runs_R1 b n m hm n1) (closure_runs_S1 b n m hm n1) (closure_runs_mu1 b n m hm n1) x1 ((x1.1+1,(mul8 x1.2 (sub4 (N4.mk 2 0 0 0) (mul8 m x1.2).lo)).lo):Nat × N4) (show(closure_runs_R1 b n m hm n1) ((x1.1+1,(mul8 x1.2 (sub4 (N4.mk 2 0 0 0) (mul8 m x1.2).lo)).lo):Nat × N4)∧(closure_runs_mu1 b n m hm n1) ((x1.1+1,(mul8 x1.2 (sub4 (N4.mk 2 0 0 0) (mul8 m x1.2).lo)).lo):Nat × N4) < (closure_runs_mu1 b n m hm n1) x1 from(show(((x1.1+1)≤7)∧(((mul8 x1.2 (sub4 (N4.mk 2 0 0 0) (mul8 m x1.2).lo)).lo)=vN m (x1.1+1)))∧(7 - (x1.1+1)) < (7 - x1.1) from by exact⟨⟨by omega,by rw [B1] <;> rfl⟩,by omega⟩)))))))) (fun(h1:(decide (x1.1 < 7))=false)=>have f2:=(oF h1); aI (aI (aT (ad n 0)) (sk (aI (aT (ad n1 0)) (aI (aT (sub_pure (N4.mk 0 0 0 0) x1.2)) (sK4 (sk (aI (aT (ad b 7)) tV))))))) (aI (aI (aT (ad n 0)) (sk (aI (aT (ad n 0)) (sK2 (aI (aT (ad b 0)) (aI (aT (rem_odd (N8.mk (N4.mk 0 0 0 0) (N4.mk 1 0 0 0)) m hm)) (sK4 (sk (aI (aT (ad b 11)) tV))))))))) (aI (aI (aT (ad n 0)) (aI (aT (ad n 0)) (sK2 (aI (aT (ad b 11)) (aI (aT (ad n 0)) (sK2 (aI (aT (ad b 11)) (aI (aT (mul_pure (N4.ofNat ((N8.mk (N4.mk 0 0 0 0) (N4.mk 1 0 0 0)).val % m.val)) (N4.ofNat ((N8.mk (N4.mk 0 0 0 0) (N4.mk 1 0 0 0)).val % m.val)))) (aI (aT (ad n 0)) (sK2 (aI (aT (ad b 0)) (aI (aT (rem_odd (mul8 (N4.ofNat ((N8.mk (N4.mk 0 0 0 0) (N4.mk 1 0 0 0)).val % m.val)) (N4.ofNat ((N8.mk (N4.mk 0 0 0 0) (N4.mk 1 0 0 0)).val % m.val))) m hm)) (sK4 (sk (aI (aT (ad b 15)) tV))))))))))))))) (aT (eX (fun(ns:List Nat)=>ns.length=0∧((Value.tuple #[]):Value)=(fun _=>Value.tuple #[]) ns∧([some ⟨b,true,0,(.lit [(u64 m.a),(u64 m.b),(u64 m.c),(u64 m.d),(u32 0),(Value.int .i32 1),(u32 0),(u64 ((sub4 (N4.mk 0 0 0 0) x1.2).a)),(u64 ((sub4 (N4.mk 0 0 0 0) x1.2).b)),(u64 ((sub4 (N4.mk 0 0 0 0) x1.2).c)),(u64 ((sub4 (N4.mk 0 0 0 0) x1.2).d)),(u64 ((N4.ofNat ((N8.mk (N4.mk 0 0 0 0) (N4.mk 1 0 0 0)).val % m.val)).a)),(u64 ((N4.ofNat ((N8.mk (N4.mk 0 0 0 0) (N4.mk 1 0 0 0)).val % m.val)).b)),(u64 ((N4.ofNat ((N8.mk (N4.mk 0 0 0 0) (N4.mk 1 0 0 0)).val % m.val)).c)),(u64 ((N4.ofNat ((N8.mk (N4.mk 0 0 0 0) (N4.mk 1 0 0 0)).val % m.val)).d)),(u64 ((N4.ofNat ((mul8 (N4.ofNat ((N8.mk (N4.mk 0 0 0 0) (N4.mk 1 0 0 0)).val % m.val)) (N4.ofNat ((N8.mk (N4.mk 0 0 0 0) (N4.mk 1 0 0 0)).val % m.val))).val % m.val)).a)),(u64 ((N4.ofNat ((mul8 (N4.ofNat ((N8.mk (N4.mk 0 0 0 0) (N4.mk 1 0 0 0)).val % m.val)) (N4.ofNat ((N8.mk (N4.mk 0 0 0 0) (N4.mk 1 0 0 0)).val % m.val))).val % m.val)).b)),(u64 ((N4.ofNat ((mul8 (N4.ofNat ((N8.mk (N4.mk 0 0 0 0) (N4.mk 1 0 0 0)).val % m.val)) (N4.ofNat ((N8.mk (N4.mk 0 0 0 0) (N4.mk 1 0 0 0)).val % m.val))).val % m.val)).c)),(u64 ((N4.ofNat ((mul8 (N4.ofNat ((N8.mk (N4.mk 0 0 0 0) (N4.mk 1 0 0 0)).val % m.val)) (N4.ofNat ((N8.mk (N4.mk 0 0 0 0) (N4.mk 1 0 0 0)).val % m.val))).val % m.val)).d))])⟩,some ⟨n,false,0,(.lit [(ptr b 0)])⟩]:List (Option Blk))=(fun _=>[some ⟨b,true,0,(.lit [(u64 m.a),(u64 m.b),(u64 m.c),(u64 m.d),(u32 0),(Value.int .i32 1),(u32 0),(u64 ((lackW m).a)),(u64 ((lackW m).b)),(u64 ((lackW m).c)),(u64 ((lackW m).d)),(u64 ((oneM m).a)),(u64 ((oneM m).b)),(u64 ((oneM m).c)),(u64 ((oneM m).d)),(u64 ((twoW m).a)),(u64 ((twoW m).b)),(u64 ((twoW m).c)),(u64 ((twoW m).d))])⟩,some ⟨n,false,0,(.lit [(ptr b 0)])⟩]) ns) [] (aI (@rfl Nat 0) (aI (@rfl Value (Value.tuple #[])) ((show([some ⟨b,true,0,(.lit [(u64 m.a),(u64 m.b),(u64 m.c),(u64 m.d),(u32 0),(Value.int .i32 1),(u32 0),(u64 ((sub4 (N4.mk 0 0 0 0) x1.2).a)),(u64 ((sub4 (N4.mk 0 0 0 0) x1.2).b)),(u64 ((sub4 (N4.mk 0 0 0 0) x1.2).c)),(u64 ((sub4 (N4.mk 0 0 0 0) x1.2).d)),(u64 ((N4.ofNat ((N8.mk (N4.mk 0 0 0 0) (N4.mk 1 0 0 0)).val % m.val)).a)),(u64 ((N4.ofNat ((N8.mk (N4.mk 0 0 0 0) (N4.mk 1 0 0 0)).val % m.val)).b)),(u64 ((N4.ofNat ((N8.mk (N4.mk 0 0 0 0) (N4.mk 1 0 0 0)).val % m.val)).c)),(u64 ((N4.ofNat ((N8.mk (N4.mk 0 0 0 0) (N4.mk 1 0 0 0)).val % m.val)).d)),(u64 ((N4.ofNat ((mul8 (N4.ofNat ((N8.mk (N4.mk 0 0 0 0) (N4.mk 1 0 0 0)).val % m.val)) (N4.ofNat ((N8.mk (N4.mk 0 0 0 0) (N4.mk 1 0 0 0)).val % m.val))).val % m.val)).a)),(u64 ((N4.ofNat ((mul8 (N4.ofNat ((N8.mk (N4.mk 0 0 0 0) (N4.mk 1 0 0 0)).val % m.val)) (N4.ofNat ((N8.mk (N4.mk 0 0 0 0) (N4.mk 1 0 0 0)).val % m.val))).val % m.val)).b)),(u64 ((N4.ofNat ((mul8 (N4.ofNat ((N8.mk (N4.mk 0 0 0 0) (N4.mk 1 0 0 0)).val % m.val)) (N4.ofNat ((N8.mk (N4.mk 0 0 0 0) (N4.mk 1 0 0 0)).val % m.val))).val % m.val)).c)),(u64 ((N4.ofNat ((mul8 (N4.ofNat ((N8.mk (N4.mk 0 0 0 0) (N4.mk 1 0 0 0)).val % m.val)) (N4.ofNat ((N8.mk (N4.mk 0 0 0 0) (N4.mk 1 0 0 0)).val % m.val))).val % m.val)).d))])⟩,some ⟨n,false,0,(.lit [(ptr b 0)])⟩]:List (Option Blk))=[some ⟨b,true,0,(.lit [(u64 m.a),(u64 m.b),(u64 m.c),(u64 m.d),(u32 0),(Value.int .i32 1),(u32 0),(u64 ((lackW m).a)),(u64 ((lackW m).b)),(u64 ((lackW m).c)),(u64 ((lackW m).d)),(u64 ((oneM m).a)),(u64 ((oneM m).b)),(u64 ((oneM m).c)),(u64 ((oneM m).d)),(u64 ((twoW m).a)),(u64 ((twoW m).b)),(u64 ((twoW m).c)),(u64 ((twoW m).d))])⟩,some ⟨n,false,0,(.lit [(ptr b 0)])⟩] from by have e:x1.2=vN m 7:=(by rw [B1,show x1.1=7 by omega]); rw [e] <;> rfl)))))))))))))))))
end Go.Proofs.YtmhhdnfidbednaaGreat
end
section
namespace Go.Eng
theorem Runs.retell {P : Program} {f : FuncId} {args : List Value} {bs bs' : List Blk} {k : Nat} {v : List Nat → Value} {out : List Nat → List (Option Blk)} (h : Runs P f args bs k v out)
    (hb:∀ w:World,(∀ b ∈ bs',Holds b w)→∀ b ∈ bs,Holds b w) (hn:bs.map (fun b=>(b.name,b.own))=bs'.map fun b=>(b.name,b.own)) (hro:∀ ns p b,listMem (out ns) p=some b→b.own=true) (hz:(bs ++ bs').all (fun b=>!b.cont.isMap)=true:=by rfl) :
    Runs P f args bs' k v out:=fun w hw ha=>by
  simp only [List.all_eq_true,List.mem_append,Bool.not_eq_true'] at hz
  have hz1:∀ p b,listMem (bs.map some) p=some b→b.cont.isMap=false:=fun p b hp=>hz b (.inl (List.mem_of_getElem? (listMem_some.1 hp)))
  have hz2:∀ p b,listMem (bs'.map some) p=some b→b.cont.isMap=false:=fun p b hp=>hz b (.inr (List.mem_of_getElem? (listMem_some.1 hp)))
  have hlk:∀ p b,listMem (bs.map some) p=some b→∃ b',listMem (bs'.map some) p=some b'∧b'.name=b.name∧b'.own=b.own:=fun p b hp=>by
    have h1:=listMem_some.1 hp
    have h2:(bs.map fun b=>(b.name,b.own))[p]? = some (b.name,b.own):=by rw [List.getElem?_map,h1]; rfl
    rw [hn,List.getElem?_map] at h2
    cases h3:bs'[p]? with
    | none=>rw [h3] at h2; cases h2
    | some b' =>
      rw [h3] at h2
      simp at h2
      exact⟨b',listMem_some.2 h3,h2.1,h2.2⟩
  have hlk':∀ p b,listMem (bs'.map some) p=some b→∃ b',listMem (bs.map some) p=some b'∧b'.name=b.name∧b'.own=b.own:=fun p b hp=>by
    have h1:=listMem_some.1 hp
    have h2:(bs'.map fun b=>(b.name,b.own))[p]? = some (b.name,b.own):=by rw [List.getElem?_map,h1]; rfl
    rw [← hn,List.getElem?_map] at h2
    cases h3:bs[p]? with
    | none=>rw [h3] at h2; cases h2
    | some b' =>
      rw [h3] at h2
      simp at h2
      exact⟨b',listMem_some.2 h3,h2.1,h2.2⟩
  refine Calls.mono (h w (hb w hw) fun p q b c hpq hp hq ho=>?_) fun e w' ⟨ns,h1,h2,h3⟩=>⟨ns,h1,h2,h3.holds,h3.apart,⟨h3.adv.os,h3.adv.output,h3.adv.tape,h3.adv.size,fun j hj hno=>h3.adv.heap j hj fun⟨p,b,hp,ho,he⟩=>?_,fun j hj=>?_,fun p b hp ho=>?_⟩⟩
  · obtain⟨b',hb1,hb2,hb3⟩:=hlk p b hp
    obtain⟨c',hc1,hc2,hc3⟩:=hlk q c hq
    exact fun k k1 k2=>ha p q b' c' hpq hb1 hc1 (hb3.trans ho) k ((has_not (hz2 p b' hb1)).2 (hb2.trans ((has_not (hz1 p b hp)).1 k1))) ((has_not (hz2 q c' hc1)).2 (hc2.trans ((has_not (hz1 q c hq)).1 k2)))
  · obtain⟨b',hb1,hb2,hb3⟩:=hlk p b hp
    exact hno ⟨p,b',hb1,hb3.trans ho,(has_not (hz2 p b' hb1)).2 (hb2.trans ((has_not (hz1 p b hp)).1 he))⟩
  · rcases h3.adv.names j hj with ⟨p,b,hp,ho,he⟩ | h4
    · obtain⟨b',hb1,hb2,hb3⟩:=hlk p b hp
      exact .inl ⟨p,b',hb1,hb3.trans ho,(has_not (hz2 p b' hb1)).2 (hb2.trans ((has_not (hz1 p b hp)).1 he))⟩
    · exact .inr h4
  · rw [hro ns p b hp] at ho; cases ho
abbrev tabN (n:Nat) (f:Nat→N4):Cont:=.tab n 4 fun k=>cellsN (f k)
theorem store_tabN (n:Nat) (f:Nat→N4) (i:Nat) (v:N4):(tabN n f).store (.tab i 0) [u64 v.a,u64 v.b,u64 v.c,u64 v.d]=some (tabN n (upd f i v)):=by
  show some (Cont.tab n 4 fun k=>if k=i then splice (cellsN (f i)) 0 (cellsN v) else cellsN (f k))=_
  congr 1
  unfold tabN
  congr 1
  funext k
  by_cases h:k=i
  · subst h; simp [upd]; rfl
  · simp [upd,h]
def nrow1 (a:N4):Nat→N4:=fun _=>a
def nrow2 (a b:N4):Nat→N4:=fun k=>match k with
  | 0=>a
  | _=>b
def nrow3 (a b c:N4):Nat→N4:=fun k=>match k with
  | 0=>a
  | 1=>b
  | _=>c
theorem to_row1 (a:N4):∀ o v,(tabN 1 (nrow1 a)).get o=some v→(Cont.lit [u64 a.a,u64 a.b,u64 a.c,u64 a.d]).get o=some v:=fun o v h=>by
  rcases o with _ | _ | _ | _ | o <;> first | exact h | (rw [tabE_out (by omega)] at h; cases h)
theorem to_row2 (a b:N4):∀ o v,(tabN 2 (nrow2 a b)).get o=some v→(Cont.lit [u64 a.a,u64 a.b,u64 a.c,u64 a.d,u64 b.a,u64 b.b,u64 b.c,u64 b.d]).get o=some v:=fun o v h=>by
  rcases o with _ | _ | _ | _ | _ | _ | _ | _ | o <;> first | exact h | (rw [tabE_out (by omega)] at h; cases h)
theorem to_row3 (a b c:N4):∀ o v,(tabN 3 (nrow3 a b c)).get o=some v→(Cont.lit [u64 a.a,u64 a.b,u64 a.c,u64 a.d,u64 b.a,u64 b.b,u64 b.c,u64 b.d,u64 c.a,u64 c.b,u64 c.c,u64 c.d]).get o=some v:=fun o v h=>by
  rcases o with _ | _ | _ | _ | _ | _ | _ | _ | _ | _ | _ | _ | o <;> first | exact h | (rw [tabE_out (by omega)] at h; cases h)
theorem holds_two {x y y':Blk} (hn:y'.name=y.name∧y'.own=y.own∧y'.base=y.base) (hnm:y.cont.isMap=false) (hc:∀ o v,y.cont.get o=some v→y'.cont.get o=some v) (w:World) (h:∀ b ∈ [x,y'],Holds b w):∀ b ∈ [x,y],Holds b w:=fun b hb=>by
  rcases List.mem_cons.1 hb with rfl | hb
  · exact h _ (by simp)
  · rcases List.mem_cons.1 hb with rfl | hb
    · have:=h y' (by simp)
      obtain⟨n1,o1,b1,c1⟩:=b
      obtain⟨n2,o2,b2,c2⟩:=y'
      obtain⟨rfl,rfl,rfl⟩:=hn
      exact this.recont hnm hc
    · cases hb
end Go.Eng
end
section
namespace Go.Eng
def sumM (m:N4) (f:Nat→N4):Nat→N4
  | 0=>⟨0,0,0,0⟩
  | k+1=>plusM m (sumM m f k) (f k)
def halfO (m a:N4):N4:=sumM m (nrow3 (N4.ofNat (a.val / 2 ^ 1)) (N4.ofNat (m.val / 2 ^ 1)) (N4.mk 1 0 0 0)) 3
def halfE (a:N4):N4:=N4.ofNat (a.val / 2 ^ 1)
def hlfM (m a:N4):N4:=match bitI a 0 == 0 with
  | true=>halfE a
  | false=>halfO m a
theorem bitI0_val {a:N4}:(bitI a 0 == 0)=decide (a.val % 2=0):=by
  have h:=bitI_nat a 0 (by omega)
  rw [Nat.pow_zero,Nat.div_one] at h
  have h':(bitI a 0).toNat=a.val % 2:=h
  by_cases h0:a.val % 2=0
  · rw [decide_eq_true h0,beq_iff_eq]
    exact UInt64.toNat_inj.1 (by rw [h',h0]; rfl)
  · rw [decide_eq_false h0]
    apply Bool.eq_false_iff.2
    intro e
    rw [beq_iff_eq] at e
    rw [e] at h'
    exact h0 h'.symm
theorem half_val {a:N4} (n:Nat) (h:n=a.val / 2 ^ 1):(N4.ofNat n).val=a.val / 2:=by
  subst h
  have:=a.val_lt
  rw [N4.val_ofNat,Nat.mod_eq_of_lt (by omega)]
theorem one_val:(N4.mk 1 0 0 0).val=1:=rfl
theorem halfO_val {m:N4} (hm:OddM m) (a:N4):(halfO m a).val=(a.val / 2+m.val / 2+1) % m.val:=by
  show(plusM m (plusM m (plusM m ⟨0,0,0,0⟩ (N4.ofNat (a.val / 2 ^ 1))) (N4.ofNat (m.val / 2 ^ 1))) (N4.mk 1 0 0 0)).val=_
  rw [plusM_val hm,plusM_val hm,plusM_val hm,half_val _ rfl,half_val _ rfl,val_zero,Nat.zero_add,one_val,add_mod_l,Nat.add_assoc,add_mod_l,← Nat.add_assoc]
theorem cancel2 {m x y:Nat} (hm:m % 2=1) (h:2*x % m=2*y % m):x % m=y % m:=by
  have key:∀ z,z % m=(m+1) / 2*(2*z % m) % m:=fun z=>by
    rw [Nat.mul_mod_mod,← Nat.mul_assoc,show(m+1) / 2*2=m+1 by omega,Nat.add_mul,Nat.one_mul,Nat.mul_comm m z,Nat.mul_add_mod_self_right]
  rw [key x,key y,h]
theorem hlfM_lt {m a:N4} (hm:OddM m) (ha:a.val < m.val):(hlfM m a).val < m.val:=by
  unfold hlfM
  split
  · rw [halfE,half_val _ rfl]; omega
  · rw [halfO_val hm]; exact Nat.mod_lt _ hm.pos
theorem hlfM_two {m a:N4} (hm:OddM m):2*(hlfM m a).val % m.val=a.val % m.val:=by
  unfold hlfM
  have hb:=bitI0_val (a:=a)
  split
  · rename_i h
    rw [h] at hb
    have h0:=of_decide_eq_true hb.symm
    rw [halfE,half_val _ rfl]
    congr 1; omega
  · rename_i h
    rw [h] at hb
    have h0:=of_decide_eq_false hb.symm
    have ho:=hm.odd
    rw [halfO_val hm,Nat.mul_mod_mod,show 2*(a.val / 2+m.val / 2+1)=a.val+m.val by omega,Nat.add_mod_right]
structure InvI (m a u v s t:N4):Prop where
  odd:v.val % 2=1
  sl:s.val < m.val
  tl:t.val < m.val
  us:a.val*s.val % m.val=u.val % m.val
  vt:a.val*t.val % m.val=v.val % m.val
  gcd:Nat.gcd u.val v.val=Nat.gcd a.val m.val
theorem inv_begin {m a:N4} (hm:OddM m):InvI m a (sumM m (nrow1 a) 1) m (N4.mk 1 0 0 0) ⟨0,0,0,0⟩:=by
  have hv:(sumM m (nrow1 a) 1).val=a.val % m.val:=by
    show(plusM m ⟨0,0,0,0⟩ a).val=_
    rw [plusM_val hm,val_zero,Nat.zero_add]
  have hb:=hm.big
  refine⟨hm.odd,by rw [one_val]; omega,by rw [val_zero]; omega,?_,?_,?_⟩
  · rw [hv,one_val,Nat.mul_one,Nat.mod_mod]
  · rw [val_zero,Nat.mul_zero,Nat.zero_mod,Nat.mod_self]
  · rw [hv,← Nat.gcd_rec,Nat.gcd_comm]
theorem inv_half {m a u v s t:N4} (hm:OddM m) (h:InvI m a u v s t) (hu:(bitI u 0 == 0)=true):InvI m a (N4.ofNat (u.val / 2 ^ 1)) v (hlfM m s) t:=by
  have hu0:=of_decide_eq_true (bitI0_val.symm.trans hu)
  have ho:=h.odd
  have e:(N4.ofNat (u.val / 2 ^ 1)).val=u.val / 2:=half_val _ rfl
  refine⟨h.odd,hlfM_lt hm h.sl,h.tl,?_,h.vt,?_⟩
  · rw [e]
    refine cancel2 hm.odd ?_
    rw [← Nat.mul_assoc,Nat.mul_comm 2,Nat.mul_assoc,← Nat.mul_mod_mod,hlfM_two hm,Nat.mul_mod_mod,h.us]
    congr 1; omega
  · rw [e,← h.gcd]
    have h2:Nat.gcd 2 v.val=1:=by
      have h1:Nat.gcd 2 v.val∣2:=Nat.gcd_dvd_left _ _
      have h3:Nat.gcd 2 v.val∣v.val:=Nat.gcd_dvd_right _ _
      have h4:Nat.gcd 2 v.val≤2:=Nat.le_of_dvd (by omega) h1
      have h5:0 < Nat.gcd 2 v.val:=Nat.gcd_pos_of_pos_left _ (by omega)
      rcases Nat.lt_or_ge (Nat.gcd 2 v.val) 2 with h6 | h6
      · omega
      · have h7:Nat.gcd 2 v.val=2:=by omega
        rw [h7] at h3
        omega
    have:=Nat.Coprime.gcd_mul_left_cancel (u.val / 2) (show Nat.Coprime 2 v.val from h2)
    rw [show 2*(u.val / 2)=u.val by omega] at this
    exact this.symm
theorem inv_swap {m a u v s t:N4} (h:InvI m a u v s t) (hu:u.val % 2=1):InvI m a v u t s :=
  ⟨hu,h.tl,h.sl,h.vt,h.us,by rw [Nat.gcd_comm]; exact h.gcd⟩
theorem sub_val {u v:N4} (h:v.val≤u.val):(sub4 u v).val=u.val - v.val:=by
  have h1:=sub4_val u v
  rw [sub4c_eq,decide_eq_false (by omega)] at h1
  simp at h1
  omega
theorem inv_sub {m a u v s t:N4} (hm:OddM m) (h:InvI m a u v s t) (hvu:v.val≤u.val):InvI m a (sub4 u v) v (minusM m s t) t:=by
  have e:=sub_val hvu
  refine⟨h.odd,by rw [minusM_val hm]; exact Nat.mod_lt _ hm.pos,h.tl,?_,h.vt,?_⟩
  · rw [e,minusM_val hm,Nat.mul_mod_mod,Nat.mod_eq_of_lt h.tl,Nat.mul_add,Nat.mul_sub]
    have h1:a.val*t.val≤a.val*m.val:=Nat.mul_le_mul_left _ (Nat.le_of_lt h.tl)
    have key:(a.val*s.val+(a.val*m.val - a.val*t.val)+v.val) % m.val=(u.val - v.val+v.val) % m.val:=by
      rw [← Nat.add_mod_mod,← h.vt,Nat.add_mod_mod,show a.val*s.val+(a.val*m.val - a.val*t.val)+a.val*t.val=a.val*s.val+a.val*m.val by omega,Nat.add_mul_mod_self_right,h.us]
      congr 1; omega
    have cancel:∀ x y z:Nat,(x+z) % m.val=(y+z) % m.val→x % m.val=y % m.val:=fun x y z hxy=>by
      have hz:z % m.val < m.val:=Nat.mod_lt _ hm.pos
      have step:∀ w,w % m.val=((w+z) % m.val+(m.val - z % m.val)) % m.val:=fun w=>by
        have hz2:=Nat.div_add_mod z m.val
        have e1:w+z+(m.val - z % m.val)=w+m.val*(z / m.val+1):=by
          rw [Nat.mul_add,Nat.mul_one]
          generalize m.val*(z / m.val)=q at *
          generalize z % m.val=r at *
          omega
        rw [Nat.mod_add_mod,e1,Nat.add_mul_mod_self_left]
      rw [step x,step y,hxy]
    exact cancel _ _ _ key
  · rw [e,Nat.gcd_sub_self_left hvu]; exact h.gcd
end Go.Eng
namespace Go.Eng
theorem cmp4_lt {x y:N4}:cmp4 x y < 0 ↔ x.val < y.val:=by
  rw [cmp4_eq]
  unfold ord
  split <;> (try split) <;> omega
def InvP (m a:N4) (t:N4):Prop:=t.val < m.val∧a.val*t.val % m.val=1
open Classical in
noncomputable def invT (m a:N4):N4:=if h:∃ t,InvP m a t then Classical.choose h else ⟨0,0,0,0⟩
def invE (m a:N4):Int:=match decide (Nat.gcd a.val m.val=1) with
  | true=>0
  | false=>11
theorem inv_one {m a t t':N4} (h:InvP m a t) (h':InvP m a t'):t=t':=by
  suffices hs:t.val=t'.val from(N4.eq_ofNat hs).trans (N4.eq_ofNat rfl).symm
  have e1:t.val*(a.val*t'.val) % m.val=t.val:=by rw [← Nat.mul_mod_mod,h'.2,Nat.mul_one,Nat.mod_eq_of_lt h.1]
  have e2:t'.val*(a.val*t.val) % m.val=t'.val:=by rw [← Nat.mul_mod_mod,h.2,Nat.mul_one,Nat.mod_eq_of_lt h'.1]
  have e3:t.val*(a.val*t'.val)=t'.val*(a.val*t.val):=by rw [Nat.mul_left_comm,Nat.mul_left_comm t'.val,Nat.mul_comm t.val]
  rw [e3,e2] at e1
  exact e1.symm
theorem invT_of {m a t:N4} (h:InvP m a t):invT m a=t:=by
  unfold invT
  rw [dif_pos ⟨t,h⟩]
  exact inv_one (Classical.choose_spec (p:=fun t=>InvP m a t) ⟨t,h⟩) h
theorem inv_gcd {m a t:N4} (_hm:OddM m) (h:InvP m a t):Nat.gcd a.val m.val=1:=by
  have h1:Nat.gcd a.val m.val∣a.val*t.val:=Nat.dvd_trans (Nat.gcd_dvd_left _ _) (Nat.dvd_mul_right _ _)
  have h2:Nat.gcd a.val m.val∣m.val:=Nat.gcd_dvd_right _ _
  have h3:Nat.gcd a.val m.val∣a.val*t.val % m.val:=(Nat.dvd_mod_iff h2).2 h1
  rw [h.2] at h3
  exact Nat.dvd_one.1 h3
theorem val_of_eq4 {x y:N4} (h:eq4 x y=true):x.val=y.val:=by rw [eq4_val] at h; exact of_decide_eq_true h
theorem val_of_ne4 {x y:N4} (h:eq4 x y=false):x.val≠y.val:=by rw [eq4_val] at h; exact of_decide_eq_false h
theorem inv_v {m a u v s t:N4} (h:InvI m a u v s t) (hu:eq4 u (N4.mk 0 0 0 0)=true):v.val=Nat.gcd a.val m.val:=by
  have h0:u.val=0:=val_of_eq4 hu
  have:=h.gcd
  rw [h0,Nat.gcd_zero_left] at this
  exact this
theorem inv_yes {m a u v s t:N4} (hm:OddM m) (h:InvI m a u v s t) (hu:eq4 u (N4.mk 0 0 0 0)=true) (hv:eq4 v (N4.mk 1 0 0 0)=true):Value.tuple #[nat4 t,int 0]=Value.tuple #[nat4 (invT m a),int (invE m a)]:=by
  have hv1:v.val=1:=val_of_eq4 hv
  have hb:=hm.big
  have hg:=inv_v h hu
  have hp:InvP m a t:=⟨h.tl,by rw [h.vt,hv1,Nat.mod_eq_of_lt (by omega)]⟩
  rw [invT_of hp,invE,decide_eq_true (show Nat.gcd a.val m.val=1 by omega)]
theorem inv_no {m a u v s t:N4} (hm:OddM m) (h:InvI m a u v s t) (hu:eq4 u (N4.mk 0 0 0 0)=true) (hv:eq4 v (N4.mk 1 0 0 0)=false):Value.tuple #[nat4 (N4.mk 0 0 0 0),int 11]=Value.tuple #[nat4 (invT m a),int (invE m a)]:=by
  have hv1:v.val≠1:=val_of_ne4 hv
  have hg:=inv_v h hu
  have hn:¬ ∃ t,InvP m a t:=fun⟨t,ht⟩=>hv1 (hg.trans (inv_gcd hm ht))
  rw [invT,dif_neg hn,invE,decide_eq_false (show ¬ Nat.gcd a.val m.val=1 by omega)]
theorem in_begin {m a u v s t:N4} (h:InvI m a u v s t) (hu:eq4 u (N4.mk 0 0 0 0)=false):InvI m a u v s t∧0 < u.val∧u.val≤u.val :=
  ⟨h,Nat.pos_of_ne_zero (val_of_ne4 hu),Nat.le_refl _⟩
theorem in_step {m a u v s t : N4} {B : Nat} (hm : OddM m) (h : InvI m a u v s t) (h0 : 0 < u.val) (hB : u.val ≤ B) (hu : (bitI u 0 == 0) = true) :
    (InvI m a (N4.ofNat (u.val / 2 ^ 1)) v (hlfM m s) t∧0 < (N4.ofNat (u.val / 2 ^ 1)).val∧(N4.ofNat (u.val / 2 ^ 1)).val≤B)∧(N4.ofNat (u.val / 2 ^ 1)).val < u.val:=by
  have hu0:=of_decide_eq_true (bitI0_val.symm.trans hu)
  refine⟨⟨inv_half hm h hu,?_,?_⟩,?_⟩ <;> rw [half_val _ rfl] <;> omega
theorem out_lt {m a u v s t : N4} {B : Nat} (hm : OddM m) (h : InvI m a u v s t) (h0 : 0 < u.val) (hB : u.val ≤ B) (hu : (bitI u 0 == 0) = false) (hc : cmp4 u v < 0) :
    InvI m a (sub4 v u) u (minusM m t s) s∧(sub4 v u).val+u.val < B+v.val:=by
  have hu0:=of_decide_eq_false (bitI0_val.symm.trans hu)
  have hlt:=cmp4_lt.1 hc
  refine⟨inv_sub hm (inv_swap h (by omega)) (by omega),?_⟩
  rw [sub_val (by omega)]; omega
theorem out_ge {m a u v s t : N4} {B : Nat} (hm : OddM m) (h : InvI m a u v s t) (hB : u.val ≤ B) (hc : ¬ cmp4 u v < 0) :
    InvI m a (sub4 u v) v (minusM m s t) t∧(sub4 u v).val+v.val < B+v.val:=by
  have hge:¬ u.val < v.val:=fun e=>hc (cmp4_lt.2 e)
  have ho:=h.odd
  refine⟨inv_sub hm h (by omega),?_⟩
  rw [sub_val (by omega)]; omega
end Go.Eng
end
section
namespace Go.Eng
end Go.Eng
namespace Go.Eng
def powR (m at':N4):Nat→N4
  | 0=>N4.mk 1 0 0 0
  | k+1=>timesM m (powR m at' k) at'
def sameN (f:Nat→N4) (n:Nat) (g:Nat→N4) (m:Nat):Bool:=decide (n=m∧∀ k,k < n→(f k).val=(g k).val)
theorem samen_len {f g:Nat→N4} {n m:Nat} (h:n≠m):false=sameN f n g m:=(decide_eq_false fun e=>h e.1).symm
theorem samen_not {f g:Nat→N4} {n m i:Nat} (hi:i < n) (h:eq4 (f i) (g i)=false):false=sameN f n g m:=(decide_eq_false fun e=>val_of_ne4 h (e.2 i hi)).symm
theorem samen_yes {f g:Nat→N4} {n m i:Nat} (hnm:n=m) (hi:i=n) (h:∀ k,k < i→(f k).val=(g k).val):true=sameN f n g m:=(decide_eq_true ⟨hnm,fun k hk=>h k (by omega)⟩).symm
theorem samen_next {f g:Nat→N4} {i:Nat} (h:∀ k,k < i→(f k).val=(g k).val) (he:eq4 (f i) (g i)=true):∀ k,k < i+1→(f k).val=(g k).val:=fun k hk=>by
  by_cases hki:k=i
  · subst hki; exact val_of_eq4 he
  · exact h k (by omega)
end Go.Eng
namespace Go.Eng
def idxI (f:Nat→N4) (x:N4):Nat→Int
  | 0=>-1
  | n+1=>if 0≤idxI f x n then idxI f x n else if x.val=(f n).val then (n:Int) else -1
theorem idx_none {f:Nat→N4} {x:N4}:∀ {n:Nat},(∀ k,k < n→x.val≠(f k).val)→idxI f x n = -1
  | 0,_=>rfl
  | n+1,h=>by
    have ih:=idx_none (f:=f) (x:=x) (n:=n) fun k hk=>h k (by omega)
    simp only [idxI,ih]
    rw [if_neg (by omega),if_neg (h n (by omega))]
theorem idx_at {f:Nat→N4} {x:N4} {i:Nat} (h:∀ k,k < i→x.val≠(f k).val) (he:eq4 x (f i)=true):∀ {n:Nat},i < n→idxI f x n=(i:Int)
  | 0,hi=>by omega
  | n+1,hi=>by
    by_cases hn:i < n
    · have ih:=idx_at h he hn
      simp only [idxI,ih]
      rw [if_pos (by omega)]
    · have:i=n:=by omega
      subst this
      simp only [idxI,idx_none h]
      rw [if_neg (by omega),if_pos (val_of_eq4 he)]
theorem idx_next {f:Nat→N4} {x:N4} {i:Nat} (h:∀ k,k < i→x.val≠(f k).val) (he:eq4 x (f i)=false):∀ k,k < i+1→x.val≠(f k).val:=fun k hk=>by
  by_cases hki:k=i
  · subst hki; exact val_of_ne4 he
  · exact h k (by omega)
theorem idx_ge {f:Nat→N4} {x:N4} {n:Nat}:0≤idxI f x n ↔ ∃ k,k < n∧x.val=(f k).val:=by
  induction n with
  | zero=>exact⟨fun h=>by simp [idxI] at h,fun⟨k,hk,_⟩=>by omega⟩
  | succ n ih =>
    simp only [idxI]
    by_cases h0:0≤idxI f x n
    · rw [if_pos h0]
      obtain⟨k,hk,he⟩:=ih.1 h0
      exact⟨fun _=>⟨k,by omega,he⟩,fun _=>h0⟩
    · rw [if_neg h0]
      by_cases h1:x.val=(f n).val
      · rw [if_pos h1]; exact⟨fun _=>⟨n,by omega,h1⟩,fun _=>by omega⟩
      · rw [if_neg h1]
        refine⟨fun h=>by omega,fun⟨k,hk,he⟩=>?_⟩
        by_cases hkn:k=n
        · subst hkn; exact absurd he h1
        · exact absurd (ih.2 ⟨k,by omega,he⟩) h0
end Go.Eng
namespace Go.Eng
def nB (d:Bool):Nat:=match d with
  | true=>1
  | false=>0
def bN (n:Nat):Bool:=Nat.beq n 1
theorem bN_nB (d:Bool):bN (nB d)=d:=by cases d <;> rfl
def overM (m:N4) (f:Nat→N4) (i:Nat):Nat→N4
  | 0=>N4.mk 1 0 0 0
  | k+1=>if k=i then overM m f i k else timesM m (overM m f i k) (f k)
def underM (m:N4) (f:Nat→N4) (i:Nat):Nat→N4
  | 0=>N4.mk 1 0 0 0
  | k+1=>if k=i then underM m f i k else timesM m (underM m f i k) (minusM m (f k) (f i))
theorem weigh_same {m:N4} {f:Nat→N4} {i k:Nat} {a b:N4} (h:k=i) (h1:a=overM m f i k) (h2:b=underM m f i k):a=overM m f i (k+1)∧b=underM m f i (k+1):=by
  simp only [overM,underM]; rw [if_pos h,if_pos h]; exact⟨h1,h2⟩
theorem weigh_next {m:N4} {f:Nat→N4} {i k:Nat} {a b:N4} (h:¬ k=i) (h1:a=overM m f i k) (h2:b=underM m f i k):timesM m a (f k)=overM m f i (k+1)∧timesM m b (minusM m (f k) (f i))=underM m f i (k+1):=by
  simp only [overM,underM]; rw [if_neg h,if_neg h,h1,h2]; exact⟨rfl,rfl⟩
noncomputable def weighV (m:N4) (f:Nat→N4) (n i:Nat):Value:=match invE m (underM m f i n) != 0 with
  | true=>.tuple #[nat4 (N4.mk 0 0 0 0),int (invE m (underM m f i n))]
  | false=>.tuple #[nat4 (timesM m (overM m f i n) (invT m (underM m f i n))),int 0]
end Go.Eng
end
section
namespace Go.Eng
section
variable {P:Program} {t e:TypeId} {x y:Operand}
theorem is_slTo {sz:Nat} (ht:P.underlying t=some (.slice e)) (hs:sizeB P e=some sz) (n o len cap i:Nat) (hi:i≤cap):IsOp P (.slice t x none (some y) none) [.slice (some ⟨n,o,none⟩) len cap,nat i] (.slice (some ⟨n,o,none⟩) i cap):=by
  intro ρ o' ho hv
  rw [ho] at hv
  have hv':[ρ x,ρ y]=[Value.slice (some ⟨n,o,none⟩) len cap,nat i]:=hv
  injection hv' with h1 hv'
  injection hv' with h2 _
  unfold execOp
  rw [ho]
  simp only [Option.map]
  show pureRun P (Sem.bind (Instr.sliceAt t (ρ x) none (some (ρ y)) none) fun v=>Sem.pure (Next.value v))=_
  rw [pureRun_bind,h1,h2]
  have hi':0≤(i:Int)∧(i:Int)≤(cap:Int):=by omega
  have e:pureRun P (Instr.sliceAt t (.slice (some ⟨n,o,none⟩) len cap) none (some (nat i)) none)=some (.slice (some ⟨n,o,none⟩) i cap):=by
    simp only [Instr.sliceAt,Instr.slice,Instr.sliceBounds,Instr.sliceBound,nat,pureRun_bind',asIntOf,pureRun,pure,pureRun_underlying ht,hi',and_self,if_true,pureRun_sizeOf hs,Int.toNat_natCast]
    simp [add_none]
  rw [e]
  rfl
end
end Go.Eng
end
section
namespace Go.Eng
open Go.RowKit
end Go.Eng
end
section
namespace Go.Eng
def Cg (m:Nat) (x y:Int):Prop:=(m:Int)∣x - y
namespace Cg
variable {m:Nat} {x y z u v:Int}
theorem rfl':Cg m x x:=⟨0,by rw [Int.mul_zero,Int.sub_self]⟩
theorem of_eq (h:x=y):Cg m x y:=h ▸ rfl'
theorem symm (h:Cg m x y):Cg m y x:=by
  obtain⟨c,hc⟩:=h; exact⟨-c,by rw [Int.mul_neg,← hc]; omega⟩
theorem trans (h:Cg m x y) (k:Cg m y z):Cg m x z:=by
  obtain⟨c,hc⟩:=h; obtain⟨d,hd⟩:=k; exact⟨c+d,by rw [Int.mul_add,← hc,← hd]; omega⟩
theorem add (h:Cg m x y) (k:Cg m u v):Cg m (x+u) (y+v):=by
  obtain⟨c,hc⟩:=h; obtain⟨d,hd⟩:=k; exact⟨c+d,by rw [Int.mul_add,← hc,← hd]; omega⟩
theorem neg (h:Cg m x y):Cg m (-x) (-y):=by
  obtain⟨c,hc⟩:=h; exact⟨-c,by rw [Int.mul_neg,← hc]; omega⟩
theorem sub (h:Cg m x y) (k:Cg m u v):Cg m (x - u) (y - v):=by rw [Int.sub_eq_add_neg,Int.sub_eq_add_neg]; exact h.add k.neg
theorem mul (h:Cg m x y) (k:Cg m u v):Cg m (x*u) (y*v):=by
  obtain⟨c,hc⟩:=h; obtain⟨d,hd⟩:=k
  refine⟨c*u+y*d,?_⟩
  have e:x*u - y*v=(x - y)*u+y*(u - v):=by rw [Int.sub_mul,Int.mul_sub]; omega
  rw [e,hc,hd,Int.mul_add,Int.mul_assoc,Int.mul_left_comm y]
theorem mul_l (c:Int) (h:Cg m x y):Cg m (c*x) (c*y):=rfl'.mul h
theorem mul_r (c:Int) (h:Cg m x y):Cg m (x*c) (y*c):=h.mul rfl'
theorem of_mod {a b:Nat} (h:a % m=b % m):Cg m a b:=by
  have h1:=Nat.div_add_mod a m
  have h2:=Nat.div_add_mod b m
  refine⟨(a / m:Nat) - (b / m:Nat),?_⟩
  rw [Int.mul_sub,← Int.natCast_mul,← Int.natCast_mul]
  generalize m*(a / m)=p at *
  generalize m*(b / m)=q at *
  omega
theorem to_mod {a b:Nat} (h:Cg m a b):a % m=b % m:=by
  have h1:((a:Int) - b) % m=0:=Int.emod_eq_zero_of_dvd h
  have h2:=Int.emod_eq_emod_iff_emod_sub_eq_zero.2 h1
  have e1:((a % m:Nat):Int)=((b % m:Nat):Int):=by rw [Int.natCast_emod,Int.natCast_emod,h2]
  exact Int.ofNat.inj e1
theorem mod_l {a:Nat}:Cg m ((a % m:Nat):Int) (a:Int):=of_mod (Nat.mod_mod _ _)
end Cg
def PF (m:Nat):Nat→(Int→Int)→Prop
  | 0,f=>∀ x,Cg m (f x) 0
  | n+1,f=>∃ (c:Int) (g:Int→Int),PF m n g∧∀ x,Cg m (f x) (c+x*g x)
theorem PF.congr {m:Nat}:∀ {n:Nat} {f g:Int→Int},PF m n f→(∀ x,Cg m (g x) (f x))→PF m n g
  | 0,_,_,h,hg=>fun x=>(hg x).trans (h x)
  | _+1,_,_,⟨c,k,hk,h⟩,hg=>⟨c,k,hk,fun x=>(hg x).trans (h x)⟩
theorem PF.zero {m:Nat}:∀ n,PF m n fun _=>0
  | 0=>fun _=>Cg.rfl'
  | n+1=>⟨0,fun _=>0,PF.zero n,fun x=>Cg.of_eq (by rw [Int.mul_zero]; rfl)⟩
theorem PF.succ {m:Nat}:∀ {n:Nat} {f:Int→Int},PF m n f→PF m (n+1) f
  | 0,f,h=>⟨0,fun _=>0,fun _=>Cg.rfl',fun x=>(h x).trans (Cg.of_eq (by rw [Int.mul_zero]; rfl))⟩
  | _+1,_,⟨c,g,hg,h⟩=>⟨c,g,hg.succ,h⟩
theorem PF.le {m:Nat} {n k:Nat} {f:Int→Int} (h:PF m n f) (hk:n≤k):PF m k f:=by
  induction k with
  | zero => have : n = 0 := by omega
            subst this; exact h
  | succ k ih =>
    by_cases e:n=k+1
    · subst e; exact h
    · exact(ih (by omega)).succ
theorem PF.add {m:Nat}:∀ {n:Nat} {f g:Int→Int},PF m n f→PF m n g→PF m n fun x=>f x+g x
  | 0,_,_,h,k=>fun x=>(h x).add (k x)
  | _+1,_,_,⟨c,f',hf,h⟩,⟨d,g',hg,k⟩=>⟨c+d,fun x=>f' x+g' x,hf.add hg,fun x=>((h x).add (k x)).trans (Cg.of_eq (by rw [Int.mul_add]; omega))⟩
theorem PF.smul {m:Nat} (a:Int):∀ {n:Nat} {f:Int→Int},PF m n f→PF m n fun x=>a*f x
  | 0,_,h=>fun x=>((h x).mul_l a).trans (Cg.of_eq (Int.mul_zero a))
  | _+1,_,⟨c,f',hf,h⟩=>⟨a*c,fun x=>a*f' x,hf.smul a,fun x=>((h x).mul_l a).trans (Cg.of_eq (by rw [Int.mul_add,Int.mul_left_comm]))⟩
theorem PF.lin {m n:Nat} {f:Int→Int} (a:Int) (h:PF m n f):PF m (n+1) fun x=>(a - x)*f x:=by
  have h1:PF m (n+1) fun x=>a*f x:=(h.smul a).succ
  have h2:PF m (n+1) fun x=>x*(-1*f x):=⟨0,fun x=>-1*f x,h.smul (-1),fun x=>Cg.of_eq (Int.zero_add _).symm⟩
  exact(h1.add h2).congr fun x=>Cg.of_eq (by rw [Int.sub_mul,Int.neg_mul,Int.one_mul,Int.mul_neg]; omega)
theorem PF.factor {m:Nat}:∀ {n:Nat} {f:Int→Int} (a:Int),PF m (n+1) f→∃ g,PF m n g∧∀ x,Cg m (f x) (f a+(x - a)*g x)
  | 0, f, a, ⟨c, g, hg, h⟩ => ⟨fun _ => 0, fun _ => Cg.rfl', fun x => by
      have h1:∀ y,Cg m (f y) c:=fun y=>(h y).trans (((Cg.rfl' (x:=c)).add ((hg y).mul_l y)).trans (Cg.of_eq (by rw [Int.mul_zero,Int.add_zero])))
      rw [Int.mul_zero,Int.add_zero]
      exact(h1 x).trans (h1 a).symm⟩
  | n+1,f,a,⟨c,k,hk,h⟩=>by
    obtain⟨g,hg,hgx⟩:=PF.factor a hk
    refine⟨fun x=>k a+x*g x,⟨k a,g,hg,fun x=>Cg.rfl'⟩,fun x=>?_⟩
    have e1:=(h x).trans (Cg.rfl'.add ((hgx x).mul_l x))
    have e2:=(h a).symm
    have e3:=e1.sub e2.symm
    have e4:Cg m (f x) (f a+(c+x*(k a+(x - a)*g x) - (c+a*k a))):=by
      have:=(Cg.rfl' (x:=f a)).add e3
      exact(Cg.of_eq (by omega)).trans this
    refine e4.trans (Cg.of_eq ?_)
    congr 1
    rw [Int.mul_add,Int.mul_add,Int.sub_mul x a (k a),Int.mul_left_comm x]
    omega
theorem PF.vanish {m : Nat} : ∀ {n : Nat} {f : Int → Int} {a : Nat → Int}, PF m n f → (∀ i, i < n → Cg m (f (a i)) 0) →
    (∀ i k,i < k→k < n→∃ v,Cg m (v*(a k - a i)) 1)→∀ x,Cg m (f x) 0
  | 0,_,_,h,_,_=>h
  | n+1,f,a,h,h0,hv=>by
    obtain⟨g,hg,hgx⟩:=PF.factor (a 0) h
    have hf:∀ x,Cg m (f x) ((x - a 0)*g x):=fun x=>(hgx x).trans (((h0 0 (by omega)).add Cg.rfl').trans (Cg.of_eq (Int.zero_add _)))
    have hz:∀ x,Cg m (g x) 0:=PF.vanish (a:=fun i=>a (i+1)) hg (fun i hi=>by
      obtain⟨v,hv⟩:=hv 0 (i+1) (by omega) (by omega)
      have e1:=(hf (a (i+1))).symm.trans (h0 (i+1) (by omega))
      have e2:=e1.mul_l v
      rw [Int.mul_zero,← Int.mul_assoc] at e2
      have e3:=hv.mul_r (g (a (i+1)))
      rw [Int.one_mul] at e3
      exact e3.symm.trans e2) (fun i k hik hk=>hv (i+1) (k+1) (by omega) (by omega))
    exact fun x=>(hf x).trans (((hz x).mul_l _).trans (Cg.of_eq (Int.mul_zero _)))
def prodX (a:Nat→Int) (i:Nat) (x:Int):Nat→Int
  | 0=>1
  | k+1=>if k=i then prodX a i x k else prodX a i x k*(a k - x)
def sumI (f:Nat→Int):Nat→Int
  | 0=>0
  | k+1=>sumI f k+f k
theorem prodX_pf {m:Nat} {a:Nat→Int} {i:Nat}:∀ n,PF m (n+1) (fun x=>prodX a i x n)∧(i < n→PF m n fun x=>prodX a i x n)
  | 0=>⟨⟨1,fun _=>0,fun _=>Cg.rfl',fun x=>Cg.of_eq (by rw [Int.mul_zero]; rfl)⟩,fun h=>by omega⟩
  | n+1=>by
    obtain⟨h1,h2⟩:=prodX_pf (m:=m) (a:=a) (i:=i) n
    by_cases e:n=i
    · have:∀ x,prodX a i x (n+1)=prodX a i x n:=fun x=>by simp only [prodX]; rw [if_pos e]
      simp only [this]
      exact⟨h1.succ,fun _=>h1⟩
    · have:∀ x,prodX a i x (n+1)=(a n - x)*prodX a i x n:=fun x=>by simp only [prodX]; rw [if_neg e,Int.mul_comm]
      simp only [this]
      exact⟨h1.lin _,fun hi=>(h2 (by omega)).lin _⟩
theorem prodX_zero {a:Nat→Int} {i j:Nat} (hij:j≠i):∀ {n:Nat},j < n→prodX a i (a j) n=0
  | 0,h=>by omega
  | n+1,h=>by
    simp only [prodX]
    by_cases e:n=j
    · subst e; rw [if_neg hij,Int.sub_self,Int.mul_zero]
    · have ih:=prodX_zero (a:=a) hij (show j < n by omega)
      rw [ih]; split <;> simp
theorem prodX_dvd {a:Nat→Int} {i j:Nat} {x:Int} (hij:j≠i):∀ {n:Nat},j < n→∃ q,prodX a i x n=q*(a j - x)
  | 0,h=>by omega
  | n+1,h=>by
    simp only [prodX]
    by_cases e:n=j
    · subst e; rw [if_neg hij]; exact⟨_,rfl⟩
    · obtain⟨q,hq⟩:=prodX_dvd (a:=a) (x:=x) hij (show j < n by omega)
      rw [hq]
      split
      · exact⟨q,rfl⟩
      · exact⟨q*(a n - x),by rw [Int.mul_assoc,Int.mul_assoc,Int.mul_comm (a j - x)]⟩
theorem sumI_pf {m n:Nat} {F:Nat→Int→Int}:∀ k,(∀ i,i < k→PF m n (F i))→PF m n fun x=>sumI (fun i=>F i x) k
  | 0,_=>PF.zero n
  | k+1,h=>(sumI_pf k fun i hi=>h i (by omega)).add (h k (by omega))
theorem sumI_one {m:Nat} {f:Nat→Int} {j:Nat}:∀ k,(∀ i,i < k→i≠j→Cg m (f i) 0)→Cg m (sumI f k) (if j < k then f j else 0)
  | 0,_=>Cg.rfl'
  | k+1,h=>by
    have ih:=sumI_one k fun i hi hij=>h i (by omega) hij
    simp only [sumI]
    by_cases e:k=j
    · subst e
      rw [if_neg (by omega)] at ih
      rw [if_pos (by omega)]
      exact(ih.add Cg.rfl').trans (Cg.of_eq (Int.zero_add _))
    · have h1:=ih.add (h k (by omega) e)
      rw [Int.add_zero] at h1
      by_cases hj:j < k
      · rw [if_pos hj] at h1; rw [if_pos (by omega)]; exact h1
      · rw [if_neg hj] at h1; rw [if_neg (by omega)]; exact h1
theorem sumI_congr {m:Nat} {f g:Nat→Int}:∀ k,(∀ i,i < k→Cg m (f i) (g i))→Cg m (sumI f k) (sumI g k)
  | 0,_=>Cg.rfl'
  | k+1,h=>(sumI_congr k fun i hi=>h i (by omega)).add (h k (by omega))
theorem lagrange {m n : Nat} {p : Int → Int} {a v : Nat → Int} (hp : PF m n p) (hv : ∀ i, i < n → Cg m (v i * prodX a i (a i) n) 1) (x : Int) :
    Cg m (sumI (fun i=>p (a i)*(v i*prodX a i x n)) n) (p x):=by
  have hL:PF m n fun x=>sumI (fun i=>p (a i)*(v i*prodX a i x n)) n :=
    sumI_pf (F:=fun i x=>p (a i)*(v i*prodX a i x n)) n fun i hi=>(((prodX_pf n).2 hi).smul (v i)).smul (p (a i))
  have hD:PF m n fun x=>sumI (fun i=>p (a i)*(v i*prodX a i x n)) n+-1*p x:=hL.add (hp.smul (-1))
  have h0:=PF.vanish (a:=a) hD (fun j hj=>by
    have e1:Cg m (sumI (fun i=>p (a i)*(v i*prodX a i (a j) n)) n) (p (a j)):=by
      have h1:=sumI_one (m:=m) (f:=fun i=>p (a i)*(v i*prodX a i (a j) n)) (j:=j) n fun i _ hij=>by
        rw [prodX_zero (Ne.symm hij) hj,Int.mul_zero,Int.mul_zero]; exact Cg.rfl'
      rw [if_pos hj] at h1
      refine h1.trans ((hv j hj).mul_l _ |>.trans (Cg.of_eq (Int.mul_one _)))
    refine(e1.add Cg.rfl').trans (Cg.of_eq ?_)
    omega) (fun i k hik hk=>by
    obtain⟨q,hq⟩:=prodX_dvd (a:=a) (x:=a i) (i:=i) (j:=k) (by omega) hk
    refine⟨v i*q,?_⟩
    have:=hv i (by omega)
    rw [hq,← Int.mul_assoc] at this
    exact this)
  have hx:=h0 x
  have:=hx.add (Cg.rfl' (x:=p x))
  exact(Cg.of_eq (by omega)).trans (this.trans (Cg.of_eq (by omega)))
end Go.Eng
end
