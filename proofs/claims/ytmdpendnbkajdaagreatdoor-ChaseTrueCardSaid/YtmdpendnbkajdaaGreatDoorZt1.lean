/- What the law's proof needs, part 1. -/
import Derived.Test.YtmdpendnbkajdaaGreatDoorZt0
import Derived.Test.YtmdpendnbkajdaaGreatDoorRows
import Derived.ArgAppend
import Derived.Laws.AppendOwn
import Derived.Deep.Slices
import Derived.ChangeSame
set_option linter.defProp false
set_option linter.unusedVariables false
set_option linter.unusedSimpArgs false
set_option maxRecDepth 100000
set_option maxHeartbeats 1000000
noncomputable section
section
namespace Go.Proofs.YtmdpendnbkajdaaGreatDoor
open Go Go.Eng
noncomputable abbrev TP:=Tryz.prog
def mix:Tryz.prog.follows .mixedOrders=true:=by kernel_rfl
def jES:Tryz.prog.underlying 4=some .bool:=by kernel_rfl
def qFU (x y:UInt64) (c:Bool):qAb TP (callFunc 77 #[u64 x,u64 y,u64 (b2u c)])=some (.value (.tuple #[u64 (qHg x y c),u64 (b2u (qDT x y c))])):=by
 rw[←qXZ];cases c<;>kernel_rfl
abbrev qTG (a b:UInt64):=qAa ((a&&&4294967295)*(b&&&4294967295)) 32
abbrev qQ2 (a b:N4):=qDT a.b b.b (qDT a.a b.a false)
abbrev qKf (a:UInt64):=a&&&4294967295
abbrev jFI (a b:UInt64):=qAa (((((qAa a 32)*(qKf b))+(qTG a b))&&&4294967295)+((qKf a)*(qAa b 32))) 32
abbrev jDz (a b:UInt64):=qAa (((qAa a 32)*(qKf b))+(qTG a b)) 32
def v0z(n1:Nat):=aI (@rfl Value (ptr n1 0)) tV
def v0I(n1:Nat):=aT (ad n1 0)
def v19:OpH:=.st 0 (.lit 0)
def v1f:=rg [.new]
def v6d(n1:Nat):=aI (v0I n1) tV
def qFQ (n:UInt64):qDt TP 53 [(u64 n)] (Value.agg #[u64 n,u64 0,u64 0,u64 0]):=
 qAg mix Tryz.func53 rfl rfl 400 (.regn v1f (more (fun n1=>fun _=>(.reg (rg [.g,.g,v19]) .done)))) [(0,0)]
  (Eq.mp (by kernel_rfl) (fun(n1:Nat)=>aI kV1 (aI (sK2 (v6d n1)) (aI (v0z n1) (@rfl Value (Value.agg #[u64 n,u64 0,u64 0,u64 0]))))))
def v00:=rg [.g,.g]
def v01:=@rfl Bool true
def v05:=@rfl Bool false
def v0j:OpH:=.ld 0 (.lit 0)
def v0o:OpH:=.ld 0 (.lit 1)
def v0H:OpH:=.ld 1 (.lit 0)
def v1j(n1:Nat):=aT (ad n1 2)
def v1p:OpH:=.ld 0 (.lit 2)
def v1t(n2:Nat):=aT (ad n2 0)
def v1y(n1:Nat):=aT (ad n1 3)
def v1U(n1:Nat):=aT (ad n1 1)
def v1V:OpH:=.st 2 (.lit 0)
def v1W:OpH:=.ld 0 (.lit 3)
def v1X:OpH:=.ld 2 (.lit 0)
def v29(x y:N4):=qDT x.c y.c (qQ2 x y)
def v2C:OpH:=.ld 1 (.lit 1)
def v2D:OpH:=.ld 1 (.lit 2)
def v2E:OpH:=.ld 1 (.lit 3)
def v3q(x y:N4):=vT #[(u64 (qHg x.b y.b (qDT x.a y.a false))),(u64 (b2u (qQ2 x y)))]
def v3B(x y:N4):=vT #[(u64 (qHg x.a y.a false)),(u64 (b2u (qDT x.a y.a false)))]
def v4p(n3:Nat):=aI (@rfl Value (ptr n3 0)) tV
def v58(n3:Nat):=aT (ad n3 0)
def v5L(n2:Nat):=aT (ad n2 1)
def v5M(n2:Nat):=aT (ad n2 2)
def v5N(n2:Nat):=aT (ad n2 3)
def v6l(x y:N4):=vT #[(u64 (qHg x.d y.d (v29 x y))),(u64 (b2u (qDT x.d y.d (v29 x y))))]
def v6r(x y:N4):=vT #[(u64 (qHg x.c y.c (qQ2 x y))),(u64 (b2u (v29 x y)))]
def qWW (x y:N4):qDt TP 52 [(qIb x),(qIb y)] (Value.tuple #[qIb (qVh x y),u64 (b2u (qR1 x y))]):=
 qAg mix Tryz.func52 rfl rfl 400 (.regn (rg [.new,.new,.new,.g]) (m3 fun n1 n2 n3=>(.reg (rg [.g]) (.unroll (.reg (rg [.g]) (.yes (.reg v00 (.reg (rg [.g,.g,.g,v0j,.g,.g,v0H,.g,(.as (v3B x y)),.g,.g,.g,.g,v1V,.g]) (.reg v00 (.unroll (.reg (rg [.g]) (.yes (.reg v00 (.reg (rg [.g,.g,.g,v0o,.g,.g,v2C,.g,(.as (v3q x y)),.g,.g,.g,.g,(.st 2 (.lit 1)),.g]) (.reg v00 (.unroll (.reg (rg [.g]) (.yes (.reg v00 (.reg (rg [.g,.g,.g,v1p,.g,.g,v2D,.g,(.as (v6r x y)),.g,.g,.g,.g,(.st 2 (.lit 2)),.g]) (.reg v00 (.unroll (.reg (rg [.g]) (.yes (.reg v00 (.reg (rg [.g,.g,.g,v1W,.g,.g,v2E,.g,(.as (v6l x y)),.g,.g,.g,.g,(.st 2 (.lit 3)),.g]) (.reg v00 (.unroll (.reg (rg [.g]) (.no (.reg (rg [v1X,.g,v1V,.g]) .done))))))))))))))))))))))))))))))) [(2,0)]
  (Eq.mp (by kernel_rfl) (fun(n1 n2 n3:Nat)=>aI kV4 (aI kV1 (aI kV1 (aT (aI v01 (aI kV2 (aI (sK3 (aI (v0I n1) (sK2 (aI (v1t n2) (sk (aI (aT (@qMz TP 77 #[(.tmp 14),(.tmp 17),(.tmp 18)] #[23,23,23] [(u64 x.a),(u64 y.a),(u64 0)] (v3B x y) (qFU x.a y.a false))) (sK4 (aI (v58 n3) kV1)))))))) (aI kV2 (aI kV1 (aT (aI v01 (aI kV2 (aI (sK3 (aI (v1U n1) (sK2 (aI (v5L n2) (sk (aI (aT (@qMz TP 77 #[(.tmp 14),(.tmp 17),(.tmp 18)] #[23,23,23] [(u64 x.b),(u64 y.b),(u64 (b2u (qDT x.a y.a false)))] (v3q x y) (qFU x.b y.b (qDT x.a y.a false)))) (sK4 (aI (aT (ad n3 1)) kV1)))))))) (aI kV2 (aI kV1 (aT (aI v01 (aI kV2 (aI (sK3 (aI (v1j n1) (sK2 (aI (v5M n2) (sk (aI (aT (@qMz TP 77 #[(.tmp 14),(.tmp 17),(.tmp 18)] #[23,23,23] [(u64 x.c),(u64 y.c),(u64 (b2u (qQ2 x y)))] (v6r x y) (qFU x.c y.c (qQ2 x y)))) (sK4 (aI (aT (ad n3 2)) kV1)))))))) (aI kV2 (aI kV1 (aT (aI v01 (aI kV2 (aI (sK3 (aI (v1y n1) (sK2 (aI (v5N n2) (sk (aI (aT (@qMz TP 77 #[(.tmp 14),(.tmp 17),(.tmp 18)] #[23,23,23] [(u64 x.d),(u64 y.d),(u64 (b2u (v29 x y)))] (v6l x y) (qFU x.d y.d (v29 x y)))) (sK4 (aI (aT (ad n3 3)) kV1)))))))) (aI kV2 (aI kV1 (aT (aI v05 (aI (aI (v58 n3) (sk (aI (v58 n3) kV1))) (aI (v4p n3) (@rfl Value (vT #[qIb (qVh x y),u64 (b2u (qR1 x y))]))))))))))))))))))))))))))))))))))
def w00(a:Nat):=@qKr TP 23 23 (.tmp a) (.const (.int .u64 4294967295))
def w10(a:Nat):=@qBa TP 23 121 (.tmp a) (.const (.int .u64 32))
def w20(a b:Nat):=@qCh TP 23 23 (.tmp a) (.tmp b)
def w30(a b:Nat):=@qBW TP 23 23 (.tmp a) (.tmp b)
def aN(a:Nat):OpH:=.as (nat a)
def aB(a:Bool):OpH:=.as (vB a)
def aQ(a:UInt64):OpH:=.as (u64 a)
def aU(a:UInt32):OpH:=.as (u32 a)
def aJ(a:Int):OpH:=.as (int a)
def v3G(x:UInt64):=qAa x 32
def v5u(y:UInt64):=qAa y 32
def qSf (x y:UInt64):qDt TP 108 [(u64 x),(u64 y)] (Value.tuple #[u64 (qJO x y),u64 (x*y)]):=
 qAg mix Tryz.func108 rfl rfl 400 (.reg v00 (.reg (rg [.g,(aQ (qKf x)),.g]) (.reg (rg [.g,(aQ (v3G x)),.g]) (.reg (rg [.g,(aQ (qKf y)),.g]) (.reg (rg [.g,(aQ (v5u y)),.g]) (.reg (rg [.g,.g,(aQ ((qKf x)*(qKf y))),.g]) (.reg (rg [.g,.g,(aQ ((v3G x)*(qKf y))),.g,(aQ (qTG x y)),(aQ (((v3G x)*(qKf y))+(qTG x y))),.g]) (.reg (rg [.g,(aQ ((((v3G x)*(qKf y))+(qTG x y))&&&4294967295)),.g]) (.reg (rg [.g,(aQ (jDz x y)),.g]) (.reg (rg [.g,.g,.g,(aQ ((qKf x)*(v5u y))),(aQ (((((v3G x)*(qKf y))+(qTG x y))&&&4294967295)+((qKf x)*(v5u y)))),.g]) (.reg (rg [.g,.g,(aQ ((v3G x)*(v5u y))),.g,(aQ (((v3G x)*(v5u y))+(jDz x y))),.g,(aQ (jFI x y)),(aQ ((((v3G x)*(v5u y))+(jDz x y))+(jFI x y))),.g]) (.reg (rg [.g,.g,(aQ (x*y)),.g]) .done)))))))))))) []
  (Eq.mp (by kernel_rfl) (aI kV2 (aI (sk (aI (aT (@w00 14 x 4294967295)) kV1)) (aI (sk (aI (aT (@w10 16 x .u64 32)) kV1)) (aI (sk (aI (aT (@w00 18 y 4294967295)) kV1)) (aI (sk (aI (aT (@w10 20 y .u64 32)) kV1)) (aI (sK2 (aI (aT (@w20 22 23 (qKf x) (qKf y))) kV1)) (aI (sK2 (aI (aT (@w20 25 26 (v3G x) (qKf y))) (sk (aI (aT (@w10 28 ((qKf x)*(qKf y)) .u64 32)) (aI (aT (@w30 27 29 ((v3G x)*(qKf y)) (qTG x y))) kV1))))) (aI (sk (aI (aT (@w00 31 (((v3G x)*(qKf y))+(qTG x y)) 4294967295)) kV1)) (aI (sk (aI (aT (@w10 33 (((v3G x)*(qKf y))+(qTG x y)) .u64 32)) kV1)) (aI (sK3 (aI (aT (@w20 36 37 (qKf x) (v5u y))) (aI (aT (@w30 35 38 ((((v3G x)*(qKf y))+(qTG x y))&&&4294967295) ((qKf x)*(v5u y)))) kV1))) (aI (sK2 (aI (aT (@w20 40 41 (v3G x) (v5u y))) (sk (aI (aT (@w30 42 43 ((v3G x)*(v5u y)) (jDz x y))) (sk (aI (aT (@w10 45 (((((v3G x)*(qKf y))+(qTG x y))&&&4294967295)+((qKf x)*(v5u y))) .u64 32)) (aI (aT (@w30 44 46 (((v3G x)*(v5u y))+(jDz x y)) (jFI x y))) kV1))))))) (aI (sK2 (aI (aT (@w20 48 49 x y)) kV1)) (aT ((show(vT #[(u64 ((((qAa x 32)*(qAa y 32))+(qAa (((qAa x 32)*(y&&&4294967295))+(qAa ((x&&&4294967295)*(y&&&4294967295)) 32)) 32))+(qAa (((((qAa x 32)*(y&&&4294967295))+(qAa ((x&&&4294967295)*(y&&&4294967295)) 32))&&&4294967295)+((x&&&4294967295)*(qAa y 32))) 32))),(u64 (x*y))])=vT #[u64 (qJO x y),u64 (x*y)] by rw[←qYy]))))))))))))))))
def v35(a b c d:UInt64):=vT #[(u64 (qHg (qHg (a*b) c false) d false)),(u64 (b2u (qDT (qHg (a*b) c false) d false)))]
def v3f(a b c:UInt64):=qHg (a*b) c false
def v3m(a b c:UInt64):=b2u (qDT (a*b) c false)
def qBd (a b c d:UInt64):qDt TP 105 [(u64 a),(u64 b),(u64 c),(u64 d)] (Value.tuple #[u64 (gtL a b c d),u64 (gtH a b c d)]):=
 qAg mix Tryz.func105 rfl rfl 400 (.reg v00 (.reg (rg [.g,.g,(.call [] 0 0 (fun _=>(vT #[(u64 (qJO a b)),(u64 (a*b))])) (fun _=>[])),.g,.g,.g,.g,.g]) (.reg (rg [.g,.g,(.as (vT #[(u64 (v3f a b c)),(u64 (v3m a b c))])),.g,.g,.g,.g,.g]) (.reg (rg [.g,.g,(aQ ((qJO a b)+(v3m a b c))),.g]) (.reg (rg [.g,.g,(.as (v35 a b c d)),.g,.g,.g,.g,.g]) (.reg (rg [.g,.g,.g,(aQ (((qJO a b)+(v3m a b c))+(b2u (qDT (v3f a b c) d false)))),.g,.g]) .done)))))) []
  (Eq.mp (by kernel_rfl) (aI kV2 (aI (sK2 (aI (aT (qSf a b)) (sk kV4))) (aI (sK2 (aI (aT (@qMz TP 77 #[(.tmp 18),(.tmp 19),(.const (.int .u64 0))] #[23,23,23] [(u64 (a*b)),(u64 c),(u64 0)] (vT #[(u64 (v3f a b c)),(u64 (v3m a b c))]) (qFU (a*b) c false))) (sk kV4))) (aI (sK2 (aI (aT (@w30 23 24 (qJO a b) (v3m a b c))) kV1)) (aI (sK2 (aI (aT (@qMz TP 77 #[(.tmp 27),(.tmp 28),(.const (.int .u64 0))] #[23,23,23] [(u64 (v3f a b c)),(u64 d),(u64 0)] (v35 a b c d) (qFU (v3f a b c) d false))) (sk kV4))) (aI (sK3 (aI (aT (@w30 33 34 ((qJO a b)+(v3m a b c)) (b2u (qDT (v3f a b c) d false)))) kV2)) (aT (@rfl Value (vT #[u64 (gtL a b c d),u64 (gtH a b c d)]))))))))))
abbrev mz0 (x y:N4):UInt64:=gtL x.a y.a 0 0
abbrev mz1 (x y:N4):UInt64:=gtH x.a y.a 0 0
abbrev mz2 (x y:N4):UInt64:=gtL x.a y.b 0 (mz1 x y)
abbrev mz3 (x y:N4):UInt64:=gtH x.a y.b 0 (mz1 x y)
abbrev mz4 (x y:N4):UInt64:=gtL x.a y.c 0 (mz3 x y)
abbrev mz5 (x y:N4):UInt64:=gtH x.a y.c 0 (mz3 x y)
abbrev mz6 (x y:N4):UInt64:=gtL x.a y.d 0 (mz5 x y)
abbrev mz7 (x y:N4):UInt64:=gtH x.a y.d 0 (mz5 x y)
abbrev mz8 (x y:N4):UInt64:=gtL x.b y.a (mz2 x y) 0
abbrev mz9 (x y:N4):UInt64:=gtH x.b y.a (mz2 x y) 0
abbrev jEL (x y:N4):UInt64:=gtL x.b y.b (mz4 x y) (mz9 x y)
abbrev jEq (x y:N4):UInt64:=gtH x.b y.b (mz4 x y) (mz9 x y)
abbrev jEo (x y:N4):UInt64:=gtL x.b y.c (mz6 x y) (jEq x y)
abbrev jEz (x y:N4):UInt64:=gtH x.b y.c (mz6 x y) (jEq x y)
abbrev jEy (x y:N4):UInt64:=gtL x.b y.d (mz7 x y) (jEz x y)
abbrev jEN (x y:N4):UInt64:=gtH x.b y.d (mz7 x y) (jEz x y)
abbrev jGs (x y:N4):UInt64:=gtL x.c y.a (jEL x y) 0
abbrev jEM (x y:N4):UInt64:=gtH x.c y.a (jEL x y) 0
abbrev jEB (x y:N4):UInt64:=gtL x.c y.b (jEo x y) (jEM x y)
abbrev jEp (x y:N4):UInt64:=gtH x.c y.b (jEo x y) (jEM x y)
abbrev jEJ (x y:N4):UInt64:=gtL x.c y.c (jEy x y) (jEp x y)
abbrev jEF (x y:N4):UInt64:=gtH x.c y.c (jEy x y) (jEp x y)
abbrev jEQ (x y:N4):UInt64:=gtL x.c y.d (jEN x y) (jEF x y)
abbrev jED (x y:N4):UInt64:=gtH x.c y.d (jEN x y) (jEF x y)
abbrev jGo (x y:N4):UInt64:=gtL x.d y.a (jEB x y) 0
abbrev jEH (x y:N4):UInt64:=gtH x.d y.a (jEB x y) 0
abbrev jGA (x y:N4):UInt64:=gtL x.d y.b (jEJ x y) (jEH x y)
abbrev jEu (x y:N4):UInt64:=gtH x.d y.b (jEJ x y) (jEH x y)
abbrev jGx (x y:N4):UInt64:=gtL x.d y.c (jEQ x y) (jEu x y)
abbrev jEC (x y:N4):UInt64:=gtH x.d y.c (jEQ x y) (jEu x y)
abbrev jGy (x y:N4):UInt64:=gtL x.d y.d (jED x y) (jEC x y)
abbrev jGu (x y:N4):UInt64:=gtH x.d y.d (jED x y) (jEC x y)
def v1Y:OpH:=.ld 3 (.lit 2)
def v2f:OpH:=.ld 3 (.lit 0)
def v3g(n4:Nat):=sK4 (aI (aT (ad n4 3)) kV1)
def v3H:OpH:=.ld 3 (.lit 3)
def v3I:OpH:=.st 3 (.lit 3)
def v3J:OpH:=.st 3 (.lit 4)
def v4E(n4:Nat):=sK4 (aI (aT (ad n4 2)) kV1)
def v4F(n4:Nat):=sK4 (aI (aT (ad n4 4)) kV1)
def v4M:OpH:=.st 3 (.lit 0)
def v4N:OpH:=.st 3 (.lit 2)
def v4O:OpH:=.ld 3 (.lit 4)
def v4P:OpH:=.st 3 (.lit 5)
def v5v:=rg [.new,.new,.new]
def v5O(n4:Nat):=aT (ad n4 0)
def qXT (x y:N4):qDt TP 95 [(qIb x),(qIb y)] (jBJ (qMi x y)):=
 qAg mix Tryz.func95 rfl rfl 400 (.regn v5v (m3 fun n1 n2 n3=>(.regn v1f (more (fun n4=>fun _=>(.reg (rg [.g]) (.unroll (.reg (rg [.g]) (.yes (.reg v00 (.reg (rg [.g]) (.reg (rg [.g]) (.unroll (.reg (rg [.g]) (.yes (.reg v00 (.reg (rg [.g,.g,.g,.g,.g,v0j,.g,.g,v0H,.g,.g,.g,.g,v2f,.g,(.call [] 0 0 (fun _=>(vT #[(u64 (mz0 x y)),(u64 (mz1 x y))])) (fun _=>[])),.g,.g,.g,.g,v4M,.g]) (.reg v00 (.unroll (.reg (rg [.g]) (.yes (.reg v00 (.reg (rg [.g,.g,.g,.g,.g,v0j,.g,.g,v2C,.g,.g,.g,.g,(.ld 3 (.lit 1)),.g,(.call [] 0 0 (fun _=>(vT #[(u64 (mz2 x y)),(u64 (mz3 x y))])) (fun _=>[])),.g,.g,.g,.g,(.st 3 (.lit 1)),.g]) (.reg v00 (.unroll (.reg (rg [.g]) (.yes (.reg v00 (.reg (rg [.g,.g,.g,.g,.g,v0j,.g,.g,v2D,.g,.g,.g,.g,v1Y,.g,(.call [] 0 0 (fun _=>(vT #[(u64 (mz4 x y)),(u64 (mz5 x y))])) (fun _=>[])),.g,.g,.g,.g,v4N,.g]) (.reg v00 (.unroll (.reg (rg [.g]) (.yes (.reg v00 (.reg (rg [.g,.g,.g,.g,.g,v0j,.g,.g,v2E,.g,.g,.g,.g,v3H,.g,(.call [] 0 0 (fun _=>(vT #[(u64 (mz6 x y)),(u64 (mz7 x y))])) (fun _=>[])),.g,.g,.g,.g,v3I,.g]) (.reg v00 (.unroll (.reg (rg [.g]) (.no (.reg (rg [.g,.g,.g,.g,v3J]) (.reg v00 (.unroll (.reg (rg [.g]) (.yes (.reg v00 (.reg (rg [.g]) (.reg (rg [.g]) (.unroll (.reg (rg [.g]) (.yes (.reg v00 (.reg (rg [.g,.g,.g,.g,.g,v0o,.g,.g,v0H,.g,.g,.g,.g,(.ld 3 (.lit 1)),.g,(.call [] 0 0 (fun _=>(vT #[(u64 (mz8 x y)),(u64 (mz9 x y))])) (fun _=>[])),.g,.g,.g,.g,(.st 3 (.lit 1)),.g]) (.reg v00 (.unroll (.reg (rg [.g]) (.yes (.reg v00 (.reg (rg [.g,.g,.g,.g,.g,v0o,.g,.g,v2C,.g,.g,.g,.g,v1Y,.g,(.call [] 0 0 (fun _=>(vT #[(u64 (jEL x y)),(u64 (jEq x y))])) (fun _=>[])),.g,.g,.g,.g,v4N,.g]) (.reg v00 (.unroll (.reg (rg [.g]) (.yes (.reg v00 (.reg (rg [.g,.g,.g,.g,.g,v0o,.g,.g,v2D,.g,.g,.g,.g,v3H,.g,(.call [] 0 0 (fun _=>(vT #[(u64 (jEo x y)),(u64 (jEz x y))])) (fun _=>[])),.g,.g,.g,.g,v3I,.g]) (.reg v00 (.unroll (.reg (rg [.g]) (.yes (.reg v00 (.reg (rg [.g,.g,.g,.g,.g,v0o,.g,.g,v2E,.g,.g,.g,.g,v4O,.g,(.call [] 0 0 (fun _=>(vT #[(u64 (jEy x y)),(u64 (jEN x y))])) (fun _=>[])),.g,.g,.g,.g,v3J,.g]) (.reg v00 (.unroll (.reg (rg [.g]) (.no (.reg (rg [.g,.g,.g,.g,v4P]) (.reg v00 (.unroll (.reg (rg [.g]) (.yes (.reg v00 (.reg (rg [.g]) (.reg (rg [.g]) (.unroll (.reg (rg [.g]) (.yes (.reg v00 (.reg (rg [.g,.g,.g,.g,.g,v1p,.g,.g,v0H,.g,.g,.g,.g,v1Y,.g,(.call [] 0 0 (fun _=>(vT #[(u64 (jGs x y)),(u64 (jEM x y))])) (fun _=>[])),.g,.g,.g,.g,v4N,.g]) (.reg v00 (.unroll (.reg (rg [.g]) (.yes (.reg v00 (.reg (rg [.g,.g,.g,.g,.g,v1p,.g,.g,v2C,.g,.g,.g,.g,v3H,.g,(.call [] 0 0 (fun _=>(vT #[(u64 (jEB x y)),(u64 (jEp x y))])) (fun _=>[])),.g,.g,.g,.g,v3I,.g]) (.reg v00 (.unroll (.reg (rg [.g]) (.yes (.reg v00 (.reg (rg [.g,.g,.g,.g,.g,v1p,.g,.g,v2D,.g,.g,.g,.g,v4O,.g,(.call [] 0 0 (fun _=>(vT #[(u64 (jEJ x y)),(u64 (jEF x y))])) (fun _=>[])),.g,.g,.g,.g,v3J,.g]) (.reg v00 (.unroll (.reg (rg [.g]) (.yes (.reg v00 (.reg (rg [.g,.g,.g,.g,.g,v1p,.g,.g,v2E,.g,.g,.g,.g,(.ld 3 (.lit 5)),.g,(.call [] 0 0 (fun _=>(vT #[(u64 (jEQ x y)),(u64 (jED x y))])) (fun _=>[])),.g,.g,.g,.g,v4P,.g]) (.reg v00 (.unroll (.reg (rg [.g]) (.no (.reg (rg [.g,.g,.g,.g,(.st 3 (.lit 6))]) (.reg v00 (.unroll (.reg (rg [.g]) (.yes (.reg v00 (.reg (rg [.g]) (.reg (rg [.g]) (.unroll (.reg (rg [.g]) (.yes (.reg v00 (.reg (rg [.g,.g,.g,.g,.g,v1W,.g,.g,v0H,.g,.g,.g,.g,v3H,.g,(.call [] 0 0 (fun _=>(vT #[(u64 (jGo x y)),(u64 (jEH x y))])) (fun _=>[])),.g,.g,.g,.g,v3I,.g]) (.reg v00 (.unroll (.reg (rg [.g]) (.yes (.reg v00 (.reg (rg [.g,.g,.g,.g,.g,v1W,.g,.g,v2C,.g,.g,.g,.g,v4O,.g,(.call [] 0 0 (fun _=>(vT #[(u64 (jGA x y)),(u64 (jEu x y))])) (fun _=>[])),.g,.g,.g,.g,v3J,.g]) (.reg v00 (.unroll (.reg (rg [.g]) (.yes (.reg v00 (.reg (rg [.g,.g,.g,.g,.g,v1W,.g,.g,v2D,.g,.g,.g,.g,(.ld 3 (.lit 5)),.g,(.call [] 0 0 (fun _=>(vT #[(u64 (jGx x y)),(u64 (jEC x y))])) (fun _=>[])),.g,.g,.g,.g,v4P,.g]) (.reg v00 (.unroll (.reg (rg [.g]) (.yes (.reg v00 (.reg (rg [.g,.g,.g,.g,.g,v1W,.g,.g,v2E,.g,.g,.g,.g,(.ld 3 (.lit 6)),.g,(.call [] 0 0 (fun _=>(vT #[(u64 (jGy x y)),(u64 (jGu x y))])) (fun _=>[])),.g,.g,.g,.g,(.st 3 (.lit 6)),.g]) (.reg v00 (.unroll (.reg (rg [.g]) (.no (.reg (rg [.g,.g,.g,.g,(.st 3 (.lit 7))]) (.reg v00 (.unroll (.reg (rg [.g]) (.no (.reg (rg [v2f,v1V]) .done)))))))))))))))))))))))))))))))))))))))))))))))))))))))))))))))))))))))))))))))))))))))))))))))))))))))))))))))))))))))))))))))))))))))))))))))))))))) [(2,0)]
  (Eq.mp (by kernel_rfl) (fun(n1 n2 n3:Nat)=>aI kV3 (fun(n4:Nat)=>aI kV1 (aI kV1 (aI kV1 (aT (aI v01 (aI kV2 (aI kV1 (aI kV1 (aI kV1 (aT (aI v01 (aI kV2 (aI (sK4 (sk (aI (v0I n1) (sK2 (aI (v1t n2) (sK4 (aI (v5O n4) (sk (aI (aT (qBd x.a y.a 0 0)) (sK4 (aI (v5O n4) kV1))))))))))) (aI kV2 (aI kV1 (aT (aI v01 (aI kV2 (aI (sK4 (sk (aI (v0I n1) (sK2 (aI (v5L n2) (sK4 (aI (aT (ad n4 1)) (sk (aI (aT (qBd x.a y.b 0 (mz1 x y))) (sK4 (aI (aT (ad n4 1)) kV1))))))))))) (aI kV2 (aI kV1 (aT (aI v01 (aI kV2 (aI (sK4 (sk (aI (v0I n1) (sK2 (aI (v5M n2) (sK4 (aI (aT (ad n4 2)) (sk (aI (aT (qBd x.a y.c 0 (mz3 x y))) (v4E n4)))))))))) (aI kV2 (aI kV1 (aT (aI v01 (aI kV2 (aI (sK4 (sk (aI (v0I n1) (sK2 (aI (v5N n2) (sK4 (aI (aT (ad n4 3)) (sk (aI (aT (qBd x.a y.d 0 (mz5 x y))) (v3g n4)))))))))) (aI kV2 (aI kV1 (aT (aI v05 (aI (sK4 (aI (aT (ad n4 4)) tV)) (aI kV2 (aI kV1 (aT (aI v01 (aI kV2 (aI kV1 (aI kV1 (aI kV1 (aT (aI v01 (aI kV2 (aI (sK4 (sk (aI (v1U n1) (sK2 (aI (v1t n2) (sK4 (aI (aT (ad n4 1)) (sk (aI (aT (qBd x.b y.a (mz2 x y) 0)) (sK4 (aI (aT (ad n4 1)) kV1))))))))))) (aI kV2 (aI kV1 (aT (aI v01 (aI kV2 (aI (sK4 (sk (aI (v1U n1) (sK2 (aI (v5L n2) (sK4 (aI (aT (ad n4 2)) (sk (aI (aT (qBd x.b y.b (mz4 x y) (mz9 x y))) (v4E n4)))))))))) (aI kV2 (aI kV1 (aT (aI v01 (aI kV2 (aI (sK4 (sk (aI (v1U n1) (sK2 (aI (v5M n2) (sK4 (aI (aT (ad n4 3)) (sk (aI (aT (qBd x.b y.c (mz6 x y) (jEq x y))) (v3g n4)))))))))) (aI kV2 (aI kV1 (aT (aI v01 (aI kV2 (aI (sK4 (sk (aI (v1U n1) (sK2 (aI (v5N n2) (sK4 (aI (aT (ad n4 4)) (sk (aI (aT (qBd x.b y.d (mz7 x y) (jEz x y))) (v4F n4)))))))))) (aI kV2 (aI kV1 (aT (aI v05 (aI (sK4 (aI (aT (ad n4 5)) tV)) (aI kV2 (aI kV1 (aT (aI v01 (aI kV2 (aI kV1 (aI kV1 (aI kV1 (aT (aI v01 (aI kV2 (aI (sK4 (sk (aI (v1j n1) (sK2 (aI (v1t n2) (sK4 (aI (aT (ad n4 2)) (sk (aI (aT (qBd x.c y.a (jEL x y) 0)) (v4E n4)))))))))) (aI kV2 (aI kV1 (aT (aI v01 (aI kV2 (aI (sK4 (sk (aI (v1j n1) (sK2 (aI (v5L n2) (sK4 (aI (aT (ad n4 3)) (sk (aI (aT (qBd x.c y.b (jEo x y) (jEM x y))) (v3g n4)))))))))) (aI kV2 (aI kV1 (aT (aI v01 (aI kV2 (aI (sK4 (sk (aI (v1j n1) (sK2 (aI (v5M n2) (sK4 (aI (aT (ad n4 4)) (sk (aI (aT (qBd x.c y.c (jEy x y) (jEp x y))) (v4F n4)))))))))) (aI kV2 (aI kV1 (aT (aI v01 (aI kV2 (aI (sK4 (sk (aI (v1j n1) (sK2 (aI (v5N n2) (sK4 (aI (aT (ad n4 5)) (sk (aI (aT (qBd x.c y.d (jEN x y) (jEF x y))) (sK4 (aI (aT (ad n4 5)) kV1))))))))))) (aI kV2 (aI kV1 (aT (aI v05 (aI (sK4 (aI (aT (ad n4 6)) tV)) (aI kV2 (aI kV1 (aT (aI v01 (aI kV2 (aI kV1 (aI kV1 (aI kV1 (aT (aI v01 (aI kV2 (aI (sK4 (sk (aI (v1y n1) (sK2 (aI (v1t n2) (sK4 (aI (aT (ad n4 3)) (sk (aI (aT (qBd x.d y.a (jEB x y) 0)) (v3g n4)))))))))) (aI kV2 (aI kV1 (aT (aI v01 (aI kV2 (aI (sK4 (sk (aI (v1y n1) (sK2 (aI (v5L n2) (sK4 (aI (aT (ad n4 4)) (sk (aI (aT (qBd x.d y.b (jEJ x y) (jEH x y))) (v4F n4)))))))))) (aI kV2 (aI kV1 (aT (aI v01 (aI kV2 (aI (sK4 (sk (aI (v1y n1) (sK2 (aI (v5M n2) (sK4 (aI (aT (ad n4 5)) (sk (aI (aT (qBd x.d y.c (jEQ x y) (jEu x y))) (sK4 (aI (aT (ad n4 5)) kV1))))))))))) (aI kV2 (aI kV1 (aT (aI v01 (aI kV2 (aI (sK4 (sk (aI (v1y n1) (sK2 (aI (v5N n2) (sK4 (aI (aT (ad n4 6)) (sk (aI (aT (qBd x.d y.d (jED x y) (jEC x y))) (sK4 (aI (aT (ad n4 6)) kV1))))))))))) (aI kV2 (aI kV1 (aT (aI v05 (aI (sK4 (aI (aT (ad n4 7)) tV)) (aI kV2 (aI kV1 (aT (aI v05 (aI (aI (v5O n4) (aI (v58 n3) tV)) (aI (v4p n3) (@rfl Value (jBJ (qMi x y))))))))))))))))))))))))))))))))))))))))))))))))))))))))))))))))))))))))))))))))))))))))))))))))))))))))))))))))))))))))))))))))))))))))))))))))))))))))
def v3P(x:UInt64):H:=.reg (rg [.g]) (.reg (rg [.g,.g,(aB (!(x==x))),.g]) .done)
def qMC (x:UInt64):qDt TP 104 [(u64 x)] (Value.bool false):=
 qAg mix Tryz.func104 rfl rfl 400 (v3P x) []
  (Eq.mp (by kernel_rfl) (aI kV1 (aI (sK2 (aI (aT (@qBl TP 23 23 (.tmp 3) (.tmp 4) x x)) kV1)) (aT ((show(vB (!(x==x)))=vB false by simp))))))
def v0c:H:=.reg (rg [.g]) .done
def v1E:=vB false
def v6i:OpH:=.call [] 0 0 (fun _=>v1E) (fun _=>[])
def qE6 (x y:UInt64):qDt TP 94 [(u64 x),(u64 y)] (int (qGy x y)):=
 qAg mix Tryz.func94 rfl rfl 400 (.reg (rg [.g]) (.reg (rg [.g,v6i,.g]) (.reg (rg [.g,v6i,.g]) (.reg (rg [.g]) (.no (.reg (rg [.g]) (.no (.reg (rg [.g,.g,(aB (decide (x<y)))]) (.br v0c (.reg (rg [.g,.g,(aB (decide (y<x)))]) (.br v0c v0c))))))))))) []
  (Eq.mp (by kernel_rfl) (aI kV1 (aI (sk (aI (aT (qMC x)) kV1)) (aI (sk (aI (aT (qMC y)) kV1)) (aI kV1 (aT (aI v05 (aI kV1 (aT (aI v05 (aI (sK2 (aI (aT (@qKz TP 23 23 (.tmp 14) (.tmp 15) x y)) tV)) (aT (aI (fun(h1:(decide (x<y))=true)=>have f0:=(oT h1);aI kV1 (aT ((show(int (-1))=int (qGy x y) by first|(rw[qGy,h1];done)|(rw[qGy,h1,h2];done))))) (fun(h1:(decide (x<y))=false)=>have f0:=(oF h1);aI (sK2 (aI (aT (@qNx TP 23 23 (.tmp 17) (.tmp 18) x y)) tV)) (aT (aI (fun(h2:(decide (y<x))=true)=>have f1:=(oT h2);aI kV1 (aT ((show(int 1)=int (qGy x y) by first|(rw[qGy,h1];done)|(rw[qGy,h1,h2];done))))) (fun(h2:(decide (y<x))=false)=>have f1:=(oF h2);aI kV1 (aT ((show(int 0)=int (qGy x y) by first|(rw[qGy,h1];done)|(rw[qGy,h1,h2];done)))))))))))))))))))))
def v5T:H:=.reg v00 .done
def v6X:H:=.reg v00 (.unroll (.reg (rg [.g]) (.no v5T)))
def qWK (x y:N4):qDt TP 71 [(qIb x),(qIb y)] (int (qPu x y)):=
 qAg mix Tryz.func71 rfl rfl 400 (.regn (rg [.new,.new,.g]) (m2 fun n1 n2=>(.reg (rg [.g]) (.reg (rg [.g]) (.unroll (.reg (rg [.g]) (.yes (.reg v00 (.reg (rg [.g,.g,.g,v1W,.g,.g,.g,v2E,(.call [] 0 0 (fun _=>(int (qGy x.d y.d))) (fun _=>[])),.g]) (.reg v00 (.br v5T (.reg v00 (.unroll (.reg (rg [.g]) (.yes (.reg v00 (.reg (rg [.g,.g,.g,v1p,.g,.g,.g,v2D,(.call [] 0 0 (fun _=>(int (qGy x.c y.c))) (fun _=>[])),.g]) (.reg v00 (.br v5T (.reg v00 (.unroll (.reg (rg [.g]) (.yes (.reg v00 (.reg (rg [.g,.g,.g,v0o,.g,.g,.g,v2C,(.call [] 0 0 (fun _=>(int (qGy x.b y.b))) (fun _=>[])),.g]) (.reg v00 (.br v5T (.reg v00 (.unroll (.reg (rg [.g]) (.yes (.reg v00 (.reg (rg [.g,.g,.g,v0j,.g,.g,.g,v0H,(.call [] 0 0 (fun _=>(int (qGy x.a y.a))) (fun _=>[])),.g]) (.reg v00 (.br v5T v6X))))))))))))))))))))))))))))))))))) []
  (Eq.mp (by kernel_rfl) (fun(n1 n2:Nat)=>aI kV3 (aI kV1 (aI kV1 (aI kV1 (aT (aI v01 (aI kV2 (aI (sK3 (aI (v1y n1) (sK3 (aI (v5N n2) (aI (aT (qE6 x.d y.d)) kV1))))) (aI kV2 (aT (aI (fun(h1:(((qGy x.d y.d):Int)!=0)=true)=>aI kV2 (aT ((show(int (qGy x.d y.d))=int (qPu x y) by simp_all [qPu])))) (fun(h1:(((qGy x.d y.d):Int)!=0)=false)=>aI kV2 (aI kV1 (aT (aI v01 (aI kV2 (aI (sK3 (aI (v1j n1) (sK3 (aI (v5M n2) (aI (aT (qE6 x.c y.c)) kV1))))) (aI kV2 (aT (aI (fun(h2:(((qGy x.c y.c):Int)!=0)=true)=>aI kV2 (aT ((show(int (qGy x.c y.c))=int (qPu x y) by simp_all [qPu])))) (fun(h2:(((qGy x.c y.c):Int)!=0)=false)=>aI kV2 (aI kV1 (aT (aI v01 (aI kV2 (aI (sK3 (aI (v1U n1) (sK3 (aI (v5L n2) (aI (aT (qE6 x.b y.b)) kV1))))) (aI kV2 (aT (aI (fun(h3:(((qGy x.b y.b):Int)!=0)=true)=>aI kV2 (aT ((show(int (qGy x.b y.b))=int (qPu x y) by simp_all [qPu])))) (fun(h3:(((qGy x.b y.b):Int)!=0)=false)=>aI kV2 (aI kV1 (aT (aI v01 (aI kV2 (aI (sK3 (aI (v0I n1) (sK3 (aI (v1t n2) (aI (aT (qE6 x.a y.a)) kV1))))) (aI kV2 (aT (aI (fun(h4:(((qGy x.a y.a):Int)!=0)=true)=>aI kV2 (aT ((show(int (qGy x.a y.a))=int (qPu x y) by simp_all [qPu])))) (fun(h4:(((qGy x.a y.a):Int)!=0)=false)=>aI kV2 (aI kV1 (aT (aI v05 (aI kV2 (aT ((show(int (qGy x.a y.a))=int (qPu x y) by simp_all [qPu])))))))))))))))))))))))))))))))))))))))))))))))
def qFY (x:UInt64) (x1:UInt64×Nat):St:=⟨[(0,.v (u64 x1.1)),(2,.v (nat x1.2))],[],0⟩
def qCF (x:UInt64) (x1:UInt64×Nat):Prop:=(qBb x=x1.2+qBb x1.1)∧((x1.1:UInt64).toNat<4294967296)∧(x1.2≤32)
def qGa (x:UInt64) (x1:UInt64×Nat) (x2:UInt64×Nat):St:=⟨[(0,.v (u64 x2.1)),(2,.v (nat x2.2))],[],0⟩
def qCG (x:UInt64) (x1:UInt64×Nat) (x2:UInt64×Nat):Prop:=(qBb x=x2.2+qBb x2.1)∧((x2.1:UInt64).toNat<65536)∧(x2.2≤48)
def qGi (x:UInt64) (x1:UInt64×Nat) (x2:UInt64×Nat) (x3:UInt64×Nat):St:=⟨[(0,.v (u64 x3.1)),(2,.v (nat x3.2))],[],0⟩
def qCE (x:UInt64) (x1:UInt64×Nat) (x2:UInt64×Nat) (x3:UInt64×Nat):Prop:=(qBb x=x3.2+qBb x3.1)∧((x3.1:UInt64).toNat<256)∧(x3.2≤56)
def w40(a b:Nat):=@qAe TP 3 3 (.tmp a) (.tmp b)
def v5w(x3:UInt64×Nat):=qQK x3.1.toUInt8
def qBm (x:UInt64):qDt TP 54 [(u64 x)] (nat (qBb x)):=
 qAg mix Tryz.func54 rfl rfl 400 (.reg (rg [.g]) (.reg (rg [.g,(aB (decide (4294967296≤x)))]) (.cut [0,2] [] 0 (qCF x) (qFY x) (.br (.reg (rg [.g,(aQ (v3G x)),.g]) v0c) .done) (fun(x1:UInt64×Nat)=>(.reg (rg [.g,(aB (decide (65536≤x1.1)))]) (.cut [0,2] [] 0 (qCG x x1) (qGa x x1) (.br (.reg (rg [.g,(aQ (qAa x1.1 16)),.g]) (.reg (rg [.g,(aN (x1.2+16)),.g]) .done)) .done) (fun(x2:UInt64×Nat)=>(.reg (rg [.g,(aB (decide (256≤x2.1)))]) (.cut [0,2] [] 0 (qCE x x1 x2) (qGi x x1 x2) (.br (.reg (rg [.g,(aQ (qAa x2.1 8)),.g]) (.reg (rg [.g,(aN (x2.2+8)),.g]) .done)) .done) (fun(x3:UInt64×Nat)=>(.reg (rg [.g,.g,(.as (u8 x3.1.toUInt8)),(.as (u8 (v5w x3))),(aN (v5w x3).toNat),(aN (x3.2+((v5w x3).toNat))),.g]) .done))))))))))) []
  (Eq.mp (by kernel_rfl) (aI kV1 (aI (sk (aI (aT (@qEq TP 23 23 (.tmp 3) (.const (.int .u64 4294967296)) x 4294967296)) tV)) (aI (aT (aI (fun(h1:(decide (4294967296≤x))=true)=>have f0:=(oT h1);aI (sk (aI (aT (@w10 5 x .u64 32)) kV1)) (aI kV1 ((met (qCF x) (qFY x) (((v3G x),32):UInt64×Nat) (show(qBb x=32+qBb (qAa x 32))∧(((qAa x 32):UInt64).toNat<4294967296)∧(32≤32) from by have e:=qQu (x:=x) (k:=32) (qL7 h1);have e2:(qAa x 32).toNat<4294967296:=qWd 32 32 x.toNat_lt;exact⟨by omega,by omega,by omega⟩))))) (fun(h1:(decide (4294967296≤x))=false)=>have f0:=(oF h1);(met (qCF x) (qFY x) ((x,0):UInt64×Nat) (show(qBb x=0+qBb x)∧((x:UInt64).toNat<4294967296)∧(0≤32) from by have e2:(x:UInt64).toNat<4294967296:=qLa h1;exact⟨by omega,by omega,by omega⟩))))) (fun(x1:UInt64×Nat) (hx1:(qCF x) x1)=>have P0:qBb x=x1.2+qBb x1.1:=hx1.1;have P1:(x1.1:UInt64).toNat<4294967296:=hx1.2.1;have P2:x1.2≤32:=hx1.2.2;aI (sk (aI (aT (@qEq TP 23 23 (.tmp 7) (.const (.int .u64 65536)) x1.1 65536)) tV)) (aI (aT (aI (fun(h2:(decide (65536≤x1.1))=true)=>have f3:=(oT h2);aI (sk (aI (aT (@qBa TP 23 121 (.tmp 9) (.const (.int .u64 16)) x1.1 .u64 16)) kV1)) (aI (sk (aI (aT (@qAe TP 3 3 (.tmp 11) (.const (.int .i64 16))  x1.2 16 (show x1.2+16≤9223372036854775807 from by omega))) kV1)) ((met (qCG x x1) (qGa x x1) (((qAa x1.1 16),x1.2+16):UInt64×Nat) (show(qBb x=(x1.2+16)+qBb (qAa x1.1 16))∧(((qAa x1.1 16):UInt64).toNat<65536)∧((x1.2+16)≤48) from by have e:=qQu (x:=x1.1) (k:=16) (qL7 h2);have e2:(qAa x1.1 16).toNat<65536:=qWd 16 16 P1;exact⟨by omega,by omega,by omega⟩))))) (fun(h2:(decide (65536≤x1.1))=false)=>have f3:=(oF h2);(met (qCG x x1) (qGa x x1) ((x1.1,x1.2):UInt64×Nat) (show(qBb x=x1.2+qBb x1.1)∧((x1.1:UInt64).toNat<65536)∧(x1.2≤48) from by have e2:(x1.1:UInt64).toNat<65536:=qLa h2;exact⟨by omega,by omega,by omega⟩))))) (fun(x2:UInt64×Nat) (hx2:(qCG x x1) x2)=>have Q0:qBb x=x2.2+qBb x2.1:=hx2.1;have Q1:(x2.1:UInt64).toNat<65536:=hx2.2.1;have Q2:x2.2≤48:=hx2.2.2;aI (sk (aI (aT (@qEq TP 23 23 (.tmp 13) (.const (.int .u64 256)) x2.1 256)) tV)) (aI (aT (aI (fun(h3:(decide (256≤x2.1))=true)=>have f6:=(oT h3);aI (sk (aI (aT (@qBa TP 23 121 (.tmp 15) (.const (.int .u64 8)) x2.1 .u64 8)) kV1)) (aI (sk (aI (aT (@qAe TP 3 3 (.tmp 17) (.const (.int .i64 8))  x2.2 8 (show x2.2+8≤9223372036854775807 from by omega))) kV1)) ((met (qCE x x1 x2) (qGi x x1 x2) (((qAa x2.1 8),x2.2+8):UInt64×Nat) (show(qBb x=(x2.2+8)+qBb (qAa x2.1 8))∧(((qAa x2.1 8):UInt64).toNat<256)∧((x2.2+8)≤56) from by have e:=qQu (x:=x2.1) (k:=8) (qL7 h3);have e2:(qAa x2.1 8).toNat<256:=qWd 8 8 Q1;exact⟨by omega,by omega,by omega⟩))))) (fun(h3:(decide (256≤x2.1))=false)=>have f6:=(oF h3);(met (qCE x x1 x2) (qGi x x1 x2) ((x2.1,x2.2):UInt64×Nat) (show(qBb x=x2.2+qBb x2.1)∧((x2.1:UInt64).toNat<256)∧(x2.2≤56) from by have e2:(x2.1:UInt64).toNat<256:=qLa h3;exact⟨by omega,by omega,by omega⟩))))) (fun(x3:UInt64×Nat) (hx3:(qCE x x1 x2) x3)=>have S0:qBb x=x3.2+qBb x3.1:=hx3.1;have S1:(x3.1:UInt64).toNat<256:=hx3.2.1;have S2:x3.2≤56:=hx3.2.2;aI (sK2 (aI (aT (@qAN TP 23 5 (.tmp 20) (by kernel_rfl) (by kernel_rfl) x3.1)) (aI (aT (@qXr TP 9 (.const (.string qNH)) (.tmp 21) (by kernel_rfl) qNH qQK qQr x3.1.toUInt8)) (aI (aT (@qLl TP 5 3 (.tmp 22) (by kernel_rfl) (by kernel_rfl) (v5w x3))) (aI (aT (@w40 19 23  x3.2 (v5w x3).toNat (show x3.2+((qQK x3.1.toUInt8).toNat)≤9223372036854775807 from by have:=jAl x3.1.toUInt8;omega))) kV1))))) (aT ((congrArg nat (show x3.2+((qQK x3.1.toUInt8).toNat)=qBb x from by have h0:=qSK S1;omega)))))))))))))
def lzh (a:N4):H:=.reg (rg [.g,.g]) (.unroll (.reg (rg [.g]) (.yes (.reg (rg [.g,.g]) (.reg (rg [.g,.g,(.ld 0 (.lit 2)),(.as (Value.bool (!(a.c==0))))]) (.br (.reg (rg [.g,.g,.g,.g,(.ld 0 (.lit 2)),(.call [] 0 0 (fun _=>(nat (qBb a.c))) (fun _=>[])),(aN (128+(qBb a.c))),.g]) (.reg (rg [.g,.g]) (.unroll (.reg (rg [.g]) (.yes (.reg (rg [.g,.g]) (.reg (rg [.g,.g,(.ld 0 (.lit 3)),(.as (Value.bool (!(a.d==0))))]) (.br (.reg (rg [.g,.g,.g,.g,(.ld 0 (.lit 3)),(.call [] 0 0 (fun _=>(nat (qBb a.d))) (fun _=>[])),(aN (192+(qBb a.d))),.g]) (.reg (rg [.g,.g]) (.unroll (.reg (rg [.g]) (.no (.reg (rg [.g,.g]) .done)))))) (.reg (rg [.g,.g]) (.unroll (.reg (rg [.g]) (.no (.reg (rg [.g,.g]) .done))))))))))))) (.reg (rg [.g,.g]) (.unroll (.reg (rg [.g]) (.yes (.reg (rg [.g,.g]) (.reg (rg [.g,.g,(.ld 0 (.lit 3)),(.as (Value.bool (!(a.d==0))))]) (.br (.reg (rg [.g,.g,.g,.g,(.ld 0 (.lit 3)),(.call [] 0 0 (fun _=>(nat (qBb a.d))) (fun _=>[])),(aN (192+(qBb a.d))),.g]) (.reg (rg [.g,.g]) (.unroll (.reg (rg [.g]) (.no (.reg (rg [.g,.g]) .done)))))) (.reg (rg [.g,.g]) (.unroll (.reg (rg [.g]) (.no (.reg (rg [.g,.g]) .done))))))))))))))))))
def w50(a:Nat):=@qBl TP 23 23 (.tmp a) (.const (.int .u64 0))
def v0w(n1:Nat)(a:N4):=sK2 (aI (aT (ad n1 3)) (aI (aT (@w50 10 a.d 0)) tV))
def v0T:=rg [.new,.g]
def v36(a:N4):=aI (aT (@w50 10 a.c 0)) tV
def v3Q(a:N4):=aT (qBm a.d)
def v4i(a:N4):OpH:=.call [] 0 0 (fun _=>(nat (qBb a.b))) (fun _=>[])
def v63(a:N4):H:=.reg v00 (.unroll (.reg (rg [.g]) (.yes (.reg v00 (.reg (rg [.g,.g,v0o,(aB (!(a.b==0)))]) (.br (.reg (rg [.g,.g,.g,.g,v0o,(v4i a),(aN (64+(qBb a.b))),.g]) (lzh a)) (lzh a)))))))
def v6z(n1:Nat)(a:N4):=sK2 (aI (v1j n1) (v36 a))
def qXi (a:N4):qDt TP 32 [(qIb a)] (nat (qFw a)):=
 qAg mix Tryz.func32 rfl rfl 400 (.regn v0T (more (fun n1=>fun _=>(.reg (rg [.g]) (.reg (rg [.g]) (.unroll (.reg (rg [.g]) (.yes (.reg v00 (.reg (rg [.g,.g,v0j,(aB (!(a.a==0)))]) (.br (.reg (rg [.g,.g,.g,.g,v0j,(.call [] 0 0 (fun _=>(nat (qBb a.a))) (fun _=>[])),(aN (0+(qBb a.a))),.g]) (v63 a)) (v63 a)))))))))))) []
  (Eq.mp (by kernel_rfl) (fun(n1:Nat)=>aI kV2 (aI kV1 (aI kV1 (aI kV1 (aT (aI v01 (aI kV2 (aI (sK2 (aI (v0I n1) (aI (aT (@w50 10 a.a 0)) tV))) (aT (aI (fun(h1:(!(a.a==0))=true)=>have f0:(a.a==0)=false:=(qBr h1);aI (sK4 (aI (v0I n1) (aI (aT (qBm a.a)) (aI (aT (@w40 13 17  0 (qBb a.a) (show 0+(qBb a.a)≤9223372036854775807 from by have:=qB0 a.a;omega))) kV1)))) (aI kV2 (aI kV1 (aT (aI v01 (aI kV2 (aI (sK2 (aI (v1U n1) (aI (aT (@w50 10 a.b 0)) tV))) (aT (aI (fun(h2:(!(a.b==0))=true)=>have f1:(a.b==0)=false:=(qBr h2);aI (sK4 (aI (v1U n1) (aI (aT (qBm a.b)) (aI (aT (@w40 13 17  64 (qBb a.b) (show 64+(qBb a.b)≤9223372036854775807 from by have:=qB0 a.b;omega))) kV1)))) (aI kV2 (aI kV1 (aT (aI v01 (aI kV2 (aI (v6z n1 a) (aT (aI (fun(h3:(!(a.c==0))=true)=>have f2:(a.c==0)=false:=(qBr h3);aI (sK4 (aI (v1j n1) (aI (aT (qBm a.c)) (aI (aT (@w40 13 17  128 (qBb a.c) (show 128+(qBb a.c)≤9223372036854775807 from by have:=qB0 a.c;omega))) kV1)))) (aI kV2 (aI kV1 (aT (aI v01 (aI kV2 (aI (v0w n1 a) (aT (aI (fun(h4:(!(a.d==0))=true)=>have f3:(a.d==0)=false:=(qBr h4);aI (sK4 (aI (v1y n1) (aI (v3Q a) (aI (aT (@w40 13 17  192 (qBb a.d) (show 192+(qBb a.d)≤9223372036854775807 from by have:=qB0 a.d;omega))) kV1)))) (aI kV2 (aI kV1 (aT (aI v05 (aI kV2 (aT ((show(nat (192+(qBb a.d)))=nat (qFw a) by simp only[qFw,h1,h2,h3,h4]<;>rfl))))))))) (fun(h4:(!(a.d==0))=false)=>have f3:(a.d==0)=true:=(qAQ h4);aI kV2 (aI kV1 (aT (aI v05 (aI kV2 (aT ((show(nat (128+(qBb a.c)))=nat (qFw a) by simp only[qFw,h1,h2,h3,h4]<;>rfl))))))))))))))))) (fun(h3:(!(a.c==0))=false)=>have f2:(a.c==0)=true:=(qAQ h3);aI kV2 (aI kV1 (aT (aI v01 (aI kV2 (aI (v0w n1 a) (aT (aI (fun(h5:(!(a.d==0))=true)=>have f3:(a.d==0)=false:=(qBr h5);aI (sK4 (aI (v1y n1) (aI (v3Q a) (aI (aT (@w40 13 17  192 (qBb a.d) (show 192+(qBb a.d)≤9223372036854775807 from by have:=qB0 a.d;omega))) kV1)))) (aI kV2 (aI kV1 (aT (aI v05 (aI kV2 (aT ((show(nat (192+(qBb a.d)))=nat (qFw a) by simp only[qFw,h1,h2,h3,h5]<;>rfl))))))))) (fun(h5:(!(a.d==0))=false)=>have f3:(a.d==0)=true:=(qAQ h5);aI kV2 (aI kV1 (aT (aI v05 (aI kV2 (aT ((show(nat (64+(qBb a.b)))=nat (qFw a) by simp only[qFw,h1,h2,h3,h5]<;>rfl))))))))))))))))))))))))) (fun(h2:(!(a.b==0))=false)=>have f1:(a.b==0)=true:=(qAQ h2);aI kV2 (aI kV1 (aT (aI v01 (aI kV2 (aI (v6z n1 a) (aT (aI (fun(h6:(!(a.c==0))=true)=>have f2:(a.c==0)=false:=(qBr h6);aI (sK4 (aI (v1j n1) (aI (aT (qBm a.c)) (aI (aT (@w40 13 17  128 (qBb a.c) (show 128+(qBb a.c)≤9223372036854775807 from by have:=qB0 a.c;omega))) kV1)))) (aI kV2 (aI kV1 (aT (aI v01 (aI kV2 (aI (v0w n1 a) (aT (aI (fun(h7:(!(a.d==0))=true)=>have f3:(a.d==0)=false:=(qBr h7);aI (sK4 (aI (v1y n1) (aI (v3Q a) (aI (aT (@w40 13 17  192 (qBb a.d) (show 192+(qBb a.d)≤9223372036854775807 from by have:=qB0 a.d;omega))) kV1)))) (aI kV2 (aI kV1 (aT (aI v05 (aI kV2 (aT ((show(nat (192+(qBb a.d)))=nat (qFw a) by simp only[qFw,h1,h2,h6,h7]<;>rfl))))))))) (fun(h7:(!(a.d==0))=false)=>have f3:(a.d==0)=true:=(qAQ h7);aI kV2 (aI kV1 (aT (aI v05 (aI kV2 (aT ((show(nat (128+(qBb a.c)))=nat (qFw a) by simp only[qFw,h1,h2,h6,h7]<;>rfl))))))))))))))))) (fun(h6:(!(a.c==0))=false)=>have f2:(a.c==0)=true:=(qAQ h6);aI kV2 (aI kV1 (aT (aI v01 (aI kV2 (aI (v0w n1 a) (aT (aI (fun(h8:(!(a.d==0))=true)=>have f3:(a.d==0)=false:=(qBr h8);aI (sK4 (aI (v1y n1) (aI (v3Q a) (aI (aT (@w40 13 17  192 (qBb a.d) (show 192+(qBb a.d)≤9223372036854775807 from by have:=qB0 a.d;omega))) kV1)))) (aI kV2 (aI kV1 (aT (aI v05 (aI kV2 (aT ((show(nat (192+(qBb a.d)))=nat (qFw a) by simp only[qFw,h1,h2,h6,h8]<;>rfl))))))))) (fun(h8:(!(a.d==0))=false)=>have f3:(a.d==0)=true:=(qAQ h8);aI kV2 (aI kV1 (aT (aI v05 (aI kV2 (aT ((show(nat (0+(qBb a.a)))=nat (qFw a) by simp only[qFw,h1,h2,h6,h8]<;>rfl))))))))))))))))))))))))))))))))) (fun(h1:(!(a.a==0))=false)=>have f0:(a.a==0)=true:=(qAQ h1);aI kV2 (aI kV1 (aT (aI v01 (aI kV2 (aI (sK2 (aI (v1U n1) (aI (aT (@w50 10 a.b 0)) tV))) (aT (aI (fun(h9:(!(a.b==0))=true)=>have f1:(a.b==0)=false:=(qBr h9);aI (sK4 (aI (v1U n1) (aI (aT (qBm a.b)) (aI (aT (@w40 13 17  64 (qBb a.b) (show 64+(qBb a.b)≤9223372036854775807 from by have:=qB0 a.b;omega))) kV1)))) (aI kV2 (aI kV1 (aT (aI v01 (aI kV2 (aI (v6z n1 a) (aT (aI (fun(h10:(!(a.c==0))=true)=>have f2:(a.c==0)=false:=(qBr h10);aI (sK4 (aI (v1j n1) (aI (aT (qBm a.c)) (aI (aT (@w40 13 17  128 (qBb a.c) (show 128+(qBb a.c)≤9223372036854775807 from by have:=qB0 a.c;omega))) kV1)))) (aI kV2 (aI kV1 (aT (aI v01 (aI kV2 (aI (v0w n1 a) (aT (aI (fun(h11:(!(a.d==0))=true)=>have f3:(a.d==0)=false:=(qBr h11);aI (sK4 (aI (v1y n1) (aI (v3Q a) (aI (aT (@w40 13 17  192 (qBb a.d) (show 192+(qBb a.d)≤9223372036854775807 from by have:=qB0 a.d;omega))) kV1)))) (aI kV2 (aI kV1 (aT (aI v05 (aI kV2 (aT ((show(nat (192+(qBb a.d)))=nat (qFw a) by simp only[qFw,h1,h9,h10,h11]<;>rfl))))))))) (fun(h11:(!(a.d==0))=false)=>have f3:(a.d==0)=true:=(qAQ h11);aI kV2 (aI kV1 (aT (aI v05 (aI kV2 (aT ((show(nat (128+(qBb a.c)))=nat (qFw a) by simp only[qFw,h1,h9,h10,h11]<;>rfl))))))))))))))))) (fun(h10:(!(a.c==0))=false)=>have f2:(a.c==0)=true:=(qAQ h10);aI kV2 (aI kV1 (aT (aI v01 (aI kV2 (aI (v0w n1 a) (aT (aI (fun(h12:(!(a.d==0))=true)=>have f3:(a.d==0)=false:=(qBr h12);aI (sK4 (aI (v1y n1) (aI (v3Q a) (aI (aT (@w40 13 17  192 (qBb a.d) (show 192+(qBb a.d)≤9223372036854775807 from by have:=qB0 a.d;omega))) kV1)))) (aI kV2 (aI kV1 (aT (aI v05 (aI kV2 (aT ((show(nat (192+(qBb a.d)))=nat (qFw a) by simp only[qFw,h1,h9,h10,h12]<;>rfl))))))))) (fun(h12:(!(a.d==0))=false)=>have f3:(a.d==0)=true:=(qAQ h12);aI kV2 (aI kV1 (aT (aI v05 (aI kV2 (aT ((show(nat (64+(qBb a.b)))=nat (qFw a) by simp only[qFw,h1,h9,h10,h12]<;>rfl))))))))))))))))))))))))) (fun(h9:(!(a.b==0))=false)=>have f1:(a.b==0)=true:=(qAQ h9);aI kV2 (aI kV1 (aT (aI v01 (aI kV2 (aI (v6z n1 a) (aT (aI (fun(h13:(!(a.c==0))=true)=>have f2:(a.c==0)=false:=(qBr h13);aI (sK4 (aI (v1j n1) (aI (aT (qBm a.c)) (aI (aT (@w40 13 17  128 (qBb a.c) (show 128+(qBb a.c)≤9223372036854775807 from by have:=qB0 a.c;omega))) kV1)))) (aI kV2 (aI kV1 (aT (aI v01 (aI kV2 (aI (v0w n1 a) (aT (aI (fun(h14:(!(a.d==0))=true)=>have f3:(a.d==0)=false:=(qBr h14);aI (sK4 (aI (v1y n1) (aI (v3Q a) (aI (aT (@w40 13 17  192 (qBb a.d) (show 192+(qBb a.d)≤9223372036854775807 from by have:=qB0 a.d;omega))) kV1)))) (aI kV2 (aI kV1 (aT (aI v05 (aI kV2 (aT ((show(nat (192+(qBb a.d)))=nat (qFw a) by simp only[qFw,h1,h9,h13,h14]<;>rfl))))))))) (fun(h14:(!(a.d==0))=false)=>have f3:(a.d==0)=true:=(qAQ h14);aI kV2 (aI kV1 (aT (aI v05 (aI kV2 (aT ((show(nat (128+(qBb a.c)))=nat (qFw a) by simp only[qFw,h1,h9,h13,h14]<;>rfl))))))))))))))))) (fun(h13:(!(a.c==0))=false)=>have f2:(a.c==0)=true:=(qAQ h13);aI kV2 (aI kV1 (aT (aI v01 (aI kV2 (aI (v0w n1 a) (aT (aI (fun(h15:(!(a.d==0))=true)=>have f3:(a.d==0)=false:=(qBr h15);aI (sK4 (aI (v1y n1) (aI (v3Q a) (aI (aT (@w40 13 17  192 (qBb a.d) (show 192+(qBb a.d)≤9223372036854775807 from by have:=qB0 a.d;omega))) kV1)))) (aI kV2 (aI kV1 (aT (aI v05 (aI kV2 (aT ((show(nat (192+(qBb a.d)))=nat (qFw a) by simp only[qFw,h1,h9,h13,h15]<;>rfl))))))))) (fun(h15:(!(a.d==0))=false)=>have f3:(a.d==0)=true:=(qAQ h15);aI kV2 (aI kV1 (aT (aI v05 (aI kV2 (aT ((show(int 0)=nat (qFw a) by simp only[qFw,h1,h9,h13,h15]<;>rfl)))))))))))))))))))))))))))))))))))))))))))
end Go.Proofs.YtmdpendnbkajdaaGreatDoor
end
section
namespace Go.Eng
def qJt {m:Nat→Option Blk} {w:World} (hm:∀p b,m p=some b→qAn b w) (ha:qCJ m) {p:Nat} {b:Blk} (hp:m p=some b) (ho:b.own=true)
  {o0:Nat} {cs:List Value} {c:qAL} (hnm:c.isMap=false) (hbm:b.cont.isMap=false) (g1:∀k,k<cs.length→∃v,b.cont.get (o0+k)=some v) (g2:∀k,c.get k=if o0≤k∧k<o0+cs.length then cs[k-o0]?else b.cont.get k):
  qC4 m w (qAG m [(p,some {b with cont:=c})]) (w.setCells b.name (b.base+o0) cs):=by
 obtain⟨r1,r2,r3⟩:=qGr b.name cs (b.base+o0) w;have hcm:=hnm;have hk:∀k,Blk.has {b with cont:=c} k↔b.has k:=fun k=>(qBB hcm).trans (qBB hbm).symm
 have hb:=hm p b hp;have happ:∀q,qAG m [(p,some {b with cont:=c})] q=if p=q then some {b with cont:=c} else m q:=fun q=>by
  simp only[qAG,qAx,qKH];split<;>rename_i h<;>split at h<;>simp_all
 have hcell:∀o v,c.get o=some v→(w.setCells b.name (b.base+o0) cs).cell? ⟨b.name,b.base+o,none⟩=some v:=fun o v hv=>by
  rw[g2] at hv;by_cases hin:o0≤o∧o<o0+cs.length
  ·rw[if_pos hin] at hv
   have h1:=World.cell?_setCells_in b.name cs (b.base+o0) w (fun j hj=>by
    obtain⟨u,hu⟩:=g1 j hj;rw[Nat.add_assoc,hb.cell _ u hu];rfl) (o-o0) (by omega)
   rw[show b.base+o=b.base+o0+(o-o0) by omega,h1,←List.getElem?_eq_getElem]
   exact hv
  ·rw[if_neg hin] at hv
   rw[qDC _ _ _ _ _ (by omega)]
   exact hb.cell o v hv
 have hfree:∀o v,c.get o=some v→(w.setCells b.name (b.base+o0) cs).frozen? ⟨b.name,b.base+o,none⟩=false:=fun o v hv=>by
  rw[World.frozen?_setCells];rw[g2] at hv;by_cases hin:o0≤o∧o<o0+cs.length
  ·obtain⟨u,hu⟩:=g1 (o-o0) (by omega)
   rw[show o0+(o-o0)=o by omega] at hu
   exact hb.free ho o u hu
  ·rw[if_neg hin] at hv
   exact hb.free ho o v hv
 refine⟨fun q d hq=>?_,fun q r d e hqr hd he hown=>?_,⟨r1,r2,r3,Nat.le_of_eq (qCb _ _ _ _).symm,fun k _ hn=>qDp _ _ _ _ _ (fun e=>hn ⟨p,b,hp,ho,(qBB hbm).2 e.symm⟩),fun k hdk=>?_,fun q d hq hown=>?_⟩⟩
 ·rw[happ] at hq
  split at hq
  ·injection hq with hq;subst hq
   exact⟨by rw[qCb];exact hb.lt,hcell,fun _=>hfree,qC8 hnm⟩
  ·rename_i hpq
   exact(hm q d hq).of_heap (by rw[qCb];exact Nat.le_refl _) fun k hdk=>qDp _ _ _ _ _ (fun e=>ha p q b d hpq hp hq ho k ((qBB hbm).2 e.symm) hdk)
 ·rw[happ] at hd he
  split at hd<;>split at he
  ·rename_i h1 h2;exact absurd (h1.symm.trans h2) hqr
  ·rename_i h1 h2
   injection hd with hd;subst hd;subst h1;exact fun k k1 k2=>ha p r b e h2 hp he ho k ((hk k).1 k1) k2
  ·rename_i h1 h2
   injection he with he;subst he;subst h2;exact fun k k1 k2=>ha q p d b (Ne.symm h1) hd hp hown k k1 ((hk k).1 k2)
  ·exact ha q r d e hqr hd he hown
 ·obtain⟨q,d,hq,hown,hdk⟩:=hdk
  rw[happ] at hq;split at hq
  ·injection hq with hq;subst hq
   exact .inl ⟨p,b,hp,ho,(hk k).1 hdk⟩
  ·exact .inl ⟨q,d,hq,hown,hdk⟩
 ·rw[happ] at hq
  split at hq
  ·injection hq with hq;subst hq
   rw[ho] at hown;cases hown
  ·exact hq
def qAn.recont {b:Blk} {w:World} (h:qAn b w) {c:qAL} (hnm:c.isMap=false) (hc:∀o v,c.get o=some v→b.cont.get o=some v):qAn {b with cont:=c} w:=
 ⟨h.lt,fun o v ho=>h.cell o v (hc o v ho),fun hb o v ho=>h.free hb o v (hc o v ho),qC8 hnm⟩
def spr (c len:Nat) (g:Nat→Value) (z:Value):qAL:=qAd c fun k=>if k<len then g k else z
def qNV (g:Nat→Value) (len:Nat) (h:Nat→Value):Nat→Value:=fun j=>if j<len then g j else h (j-len)
def qAH {n:Nat} {g:Nat→Value} {o:Nat} (ho:o<n):(qAd n g).get o=some (g o):=by
 simp[qAd,qAL.get,Nat.mod_one,ho]
def qBf {n:Nat} {g:Nat→Value} {o:Nat} (ho:¬o<n):(qAd n g).get o=none:=by
 simp[qAd,qAL.get,ho]
def qBH (t ty:TypeId) (x y:Value):Sem Next:=do pure (.value (←Builtin.append_ #[t,t] ty #[x,y]))
def qAA {P:Program} {s:Sem Value} {v:Value} {w w':World} (h:s.run P w=.ok v w'):(s >>= fun v=>(pure (Next.value v):Sem Next)).run P w=.ok (Next.value v) w':=by
 rw[Sem.run_bind,h];rfl
def qF7 (z:Value) (m:Nat):(Builtin.zeroCells #[z] m).toList=List.replicate m z:=by
 apply List.ext_getElem?;intro k;by_cases hk:k<m
 ·simp[Builtin.zeroCells,hk,Nat.mod_one]
 ·simp[Builtin.zeroCells,hk]
def qBQ {n:Nat} {h:Nat→Value} {j:Nat} {v:Value} (hj:((List.range n).map h)[j]?=some v):j<n∧v=h j:=by
 rw[List.getElem?_map] at hj;by_cases hn:j<n
 ·rw[List.getElem?_range hn] at hj
  simp at hj;exact⟨hn,hj.symm⟩
 ·rw[List.getElem?_eq_none (by simp;omega)] at hj
  simp at hj
section
variable {P:Program} {t ty e:TypeId} {i:TypeInfo} {z:Value}
theorem qLq (ht:P.underlying t=some (.slice e)) (hi:P.info? e=some i) (hz:i.zero=some z) (hsz:i.size=1) (hzc:z.cells=#[z])
  {b len r k bo os n cc:Nat} {g h:Nat→Value} {S:qAL} (hS:∀j,j<n→S.get (os+j)=some (h j)) (h1:∀j,j<n→(h j).oneCell'=true)
  (hb:(len+n)*i.bytes≤140737488355328) (hb2:len+n≤9223372036854775807):
  qAu P (qBH t ty (.slice (some ⟨b,0,none⟩) len (len+r)) (.slice (some ⟨k,bo+os,none⟩) n cc)) [⟨b,true,0,spr (len+r) len g z⟩,⟨k,false,bo,S⟩] 2
   (fun ns=>.slice (some ⟨ns.getD 0 0,0,none⟩) (len+n) (len+n+ns.getD 1 0))
   (fun ns=>[some ⟨ns.getD 0 0,true,0,spr (len+n+ns.getD 1 0) (len+n) (qNV g len h) z⟩,some ⟨k,false,bo,S⟩]):=by
 intro w hall ha;have hA:qAn ⟨b,true,0,spr (len+r) len g z⟩ w:=hall _ (by simp)
 have hK:qAn ⟨k,false,bo,S⟩ w:=hall _ (by simp)
 have hnews:∀j u,((List.range n).map h)[j]?=some u→w.cell? ((⟨k,bo+os,none⟩:Addr).add j)=some u:=fun j u hj=>by
  obtain⟨hjn,rfl⟩:=qBQ hj;rw[qBu,Nat.add_assoc];exact hK.cell _ _ (hS j hjn)
 have hone:∀u∈(List.range n).map h,u.oneCell'=true:=fun u hu=>by
  obtain⟨j,hj,rfl⟩:=List.mem_map.1 hu;exact h1 j (List.mem_range.1 hj)
 have hm:∀p c,lM [some ⟨b,true,0,spr (len+r) len g z⟩,some ⟨k,false,bo,S⟩] p=some c→qAn c w:=fun p c hc=>hall c (List.mem_of_getElem? (qAV (l:=[⟨b,true,0,spr (len+r) len g z⟩,⟨k,false,bo,S⟩]).1 hc))
 by_cases hr:n≤r
 ·
  have hget:∀j,j<n→(spr (len+r) len g z).get (len+j)=some z:=fun j hj=>by
   rw[spr,qAH (by omega),if_neg (by omega)]
  have hrun:=run_append_room_cells (P:=P) w t ty e i ht hi b 0 len (len+r) ⟨k,bo+os,none⟩ n cc ((List.range n).map h) (by simp[hsz]) hnews hone (by omega)
   (fun j hj=>by
    have hj':j<n:=by simpa using hj
    have:=hA.cell _ _ (hget j hj');rw[show 0+len*i.size+j=0+(len+j) by rw[hsz];omega,this];rfl)
   (fun j hj=>by
    have hj':j<n:=by simpa using hj
    have:=hA.free rfl _ _ (hget j hj');rw[show 0+len*i.size+j=0+(len+j) by rw[hsz];omega];exact this)
  have hrun2:(Builtin.append_ #[t,t] ty #[.slice (some ⟨b,0,none⟩) len (len+r),.slice (some ⟨k,bo+os,none⟩) n cc]).run P w=.ok (.slice (some ⟨b,0,none⟩) (len+n) (len+n+(r-n))) (w.setCells b (0+len*i.size) ((List.range n).map h)):=by
   rw[show len+n+(r-n)=len+r by omega];exact hrun
  refine⟨[b,r-n],_,rfl,.inl (qAA hrun2),?_⟩;have hp:=qJt (m:=lM [some ⟨b,true,0,spr (len+r) len g z⟩,some ⟨k,false,bo,S⟩]) (w:=w) (p:=0) (b:=⟨b,true,0,spr (len+r) len g z⟩) (o0:=len) (cs:=(List.range n).map h)
   (c:=spr (len+r) (len+n) (qNV g len h) z) hm ha rfl rfl rfl rfl (fun j hj=>⟨z,hget j (by simpa using hj)⟩) (fun j=>by
    have hlen:((List.range n).map h).length=n:=by simp
    rw[hlen];by_cases hj:j<len+r
    ·rw[spr,spr,qAH hj,qAH hj]
     by_cases h2:j<len
     ·rw[if_neg (show¬(len≤j∧j<len+n) by omega),if_pos h2,if_pos (show j<len+n by omega),qNV,if_pos h2]
     ·by_cases h3:j<len+n
      ·rw[if_pos (show len≤j∧j<len+n by omega),if_pos h3,qNV,if_neg h2,List.getElem?_map,List.getElem?_range (by omega)];rfl
      ·rw[if_neg (show¬(len≤j∧j<len+n) by omega),if_neg h3,if_neg h2]
    ·rw[spr,spr,qBf hj,qBf hj,if_neg (show¬(len≤j∧j<len+n) by omega)])
  rw[qD0] at hp;have e1:len+n+(r-n)=len+r:=by omega
  simpa[hsz,e1] using hp
 ·
  have hg:len+r<len+n:=by omega
  have hrun:=run_append_grow (P:=P) w t ty e i z ht hi hz ⟨b,0,none⟩ len (len+r) ((List.range len).map g) (by simp[hsz])
   (fun j v hj=>by
    obtain⟨hjn,rfl⟩:=qBQ hj;rw[qBu,Nat.zero_add];have:=hA.cell j (g j) (by rw[spr,qAH (by omega),if_pos hjn])
    rw[Nat.zero_add] at this;exact this)
   ⟨k,bo+os,none⟩ n cc ((List.range n).map h) (by simp[hsz]) hnews hg (by omega) (growslice_fits hg hb)
  have hge:=grownCap_ge w (len+n) (len+r) e;obtain⟨q,hq⟩:∃q,grownCap w (len+n) (len+r) e=len+n+q:=⟨_,(Nat.add_sub_cancel' hge).symm⟩;rw[hq] at hrun;refine⟨[w.heap.size,q],_,rfl,.inl (qAA hrun),?_⟩;have hp0:=qC4.drew hm ha;have hp:=hp0.trans (qFc hp0.holds hp0.apart 0 (((List.range len).map g).toArray++((List.range n).map h).toArray++Builtin.zeroCells z.cells (len+n+q-(len+n))) e);rw[show w.drew.heap.size=w.heap.size from rfl,qD0] at hp;have hc:∀o v,(spr (len+n+q) (len+n) (qNV g len h) z).get o=some v→
    (qAL.lit (((List.range len).map g).toArray++((List.range n).map h).toArray++Builtin.zeroCells z.cells (len+n+q-(len+n))).toList).get o=some v:=fun o v ho=>by
   rw[hzc,show len+n+q-(len+n)=q by omega]
   simp only[qAL.get,Array.toList_append,List.append_assoc,qF7];by_cases h0:o<len+n+q
   ·rw[spr,qAH h0] at ho
    by_cases h2:o<len
    ·rw[if_pos (by omega),qNV,if_pos h2] at ho
     rw[List.getElem?_append_left (by simp;exact h2),List.getElem?_map,List.getElem?_range h2];exact ho
    ·rw[List.getElem?_append_right (by simp;omega)]
     by_cases h3:o<len+n
     ·rw[if_pos h3,qNV,if_neg h2] at ho
      rw[List.getElem?_append_left (by simp;omega),List.getElem?_map]
      simp only[List.length_map,List.length_range];rw[List.getElem?_range (by omega)];exact ho
     ·rw[if_neg h3] at ho
      rw[List.getElem?_append_right (by simp;omega),List.getElem?_replicate,if_pos (by simp;omega)];exact ho
   ·rw[spr,qBf h0] at ho;cases ho
  have hN:=(hp.holds 0 _ rfl).recont rfl hc;refine⟨fun p c hpc=>?_,fun p p' c d hpp hc1 hd ho=>?_,⟨hp.adv.os,hp.adv.output,hp.adv.tape,hp.adv.size,hp.adv.heap,fun j hj=>?_,fun p c hpc ho=>?_⟩⟩
  ·rcases p with _ | _ |p
   ·injection hpc with hpc;subst hpc;exact hN
   ·injection hpc with hpc;subst hpc;exact hp.holds 1 _ rfl
   ·simp[lM] at hpc
  ·rcases p with _ | _ |p
   ·injection hc1 with hc1;subst hc1
    rcases p' with _ | _ |p'
    ·exact absurd rfl hpp
    ·injection hd with hd;subst hd
     have h01:=hp.apart 0 1 _ _ (by omega) rfl rfl rfl
     exact h01
    ·simp[lM] at hd
   ·injection hc1 with hc1;subst hc1;cases ho
   ·simp[lM] at hc1
  ·obtain⟨p,c,hpc,ho,hjk⟩:=hj
   rcases p with _ | _ |p
   ·injection hpc with hpc;subst hpc
    exact .inr (Nat.le_of_eq hjk)
   ·injection hpc with hpc;subst hpc;cases ho
   ·simp[lM] at hpc
  ·rcases p with _ | _ |p
   ·injection hpc with hpc;subst hpc;cases ho
   ·exact hpc
   ·simp[lM] at hpc
theorem qOP {x:Blk} {w w':World} (hx:qAn x w) (hro:x.own=false) {N:Blk} (hn:N.own=true) (hname:∀k,N.has k→w.heap.size=k) (hN:qAn N w') (hos:w'.os=w.os) (hout:w'.output=w.output) (htape:w'.tape=w.tape)
  (hsz:w.heap.size≤w'.heap.size) (hheap:∀j,j<w.heap.size→w'.heap[j]?=w.heap[j]?):qC4 (lM [some x]) w (lM [some x,some N]) w':=by
 refine⟨fun p c hpc=>?_,fun p p' c d hpp hc1 hd ho=>?_,⟨hos,hout,htape,hsz,fun j hj _=>hheap j hj,fun j hj=>?_,fun p c hpc ho=>?_⟩⟩
 ·rcases p with _ | _ |p
  ·injection hpc with hpc;subst hpc;exact hx.of_heap hsz fun k hk=>hheap _ (hx.has_lt hk)
  ·injection hpc with hpc;subst hpc;exact hN
  ·simp[lM] at hpc
 ·rcases p with _ | _ |p
  ·injection hc1 with hc1;subst hc1;rw[hro] at ho;cases ho
  ·injection hc1 with hc1;subst hc1
   rcases p' with _ | _ |p'
   ·injection hd with hd;subst hd
    intro k k1 k2;have:=hx.has_lt k2;have:=hname k k1;omega
   ·exact absurd rfl hpp
   ·simp[lM] at hd
  ·simp[lM] at hc1
 ·obtain⟨p,c,hpc,ho,hjk⟩:=hj
  rcases p with _ | _ |p
  ·injection hpc with hpc;subst hpc;rw[hro] at ho;cases ho
  ·injection hpc with hpc;subst hpc;have:=hname j hjk;exact .inr (by omega)
  ·simp[lM] at hpc
 ·rcases p with _ | _ |p
  ·exact hpc
  ·injection hpc with hpc;subst hpc;rw[hn] at ho;cases ho
  ·simp[lM] at hpc
theorem qLb (ht:P.underlying t=some (.slice e)) (hi:P.info? e=some i) (hz:i.zero=some z) (hsz:i.size=1) (hzc:z.cells=#[z])
  {k bo os n cc:Nat} {h:Nat→Value} {S:qAL} (hS:∀j,j<n→S.get (os+j)=some (h j)) (hn0:0<n)
  (hb:n*i.bytes≤140737488355328) (hb2:n≤9223372036854775807):
  qAu P (qBH t ty (.slice none 0 0) (.slice (some ⟨k,bo+os,none⟩) n cc)) [⟨k,false,bo,S⟩] 2
   (fun ns=>.slice (some ⟨ns.getD 0 0,0,none⟩) n (n+ns.getD 1 0))
   (fun ns=>[some ⟨k,false,bo,S⟩,some ⟨ns.getD 0 0,true,0,spr (n+ns.getD 1 0) n h z⟩]):=by
 intro w hall ha;have hK:qAn ⟨k,false,bo,S⟩ w:=hall _ (by simp)
 have hnews:∀j u,((List.range n).map h)[j]?=some u→w.cell? ((⟨k,bo+os,none⟩:Addr).add j)=some u:=fun j u hj=>by
  obtain⟨hjn,rfl⟩:=qBQ hj;rw[qBu,Nat.add_assoc];exact hK.cell _ _ (hS j hjn)
 have hrun:=run_append_nil (P:=P) w t ty e i z ht hi hz ⟨k,bo+os,none⟩ n cc ((List.range n).map h) (by simp[hsz]) hnews hn0 (by omega) (by omega)
 have hge:=grownCap_ge w n 0 e;obtain⟨q,hq⟩:∃q,grownCap w n 0 e=n+q:=⟨_,(Nat.add_sub_cancel' hge).symm⟩;rw[hq] at hrun;refine⟨[w.heap.size,q],_,rfl,.inl (qAA hrun),?_⟩;have hp:=qFc (m:=fun _=>none) (w:=w.drew) (fun p b h=>by cases h) (fun p q b c _ h=>by cases h) 0 (((List.range n).map h).toArray++Builtin.zeroCells z.cells (n+q-n)) e
 have hN0:=hp.holds 0 ⟨w.heap.size,true,0,.lit (((List.range n).map h).toArray++Builtin.zeroCells z.cells (n+q-n)).toList⟩ rfl;have hc:∀o v,(spr (n+q) n h z).get o=some v→(qAL.lit (((List.range n).map h).toArray++Builtin.zeroCells z.cells (n+q-n)).toList).get o=some v:=fun o v ho=>by
  rw[hzc,show n+q-n=q by omega]
  simp only[qAL.get,Array.toList_append,qF7];by_cases h0:o<n+q
  ·rw[spr,qAH h0] at ho
   by_cases h2:o<n
   ·rw[if_pos h2] at ho
    rw[List.getElem?_append_left (by simp;exact h2),List.getElem?_map,List.getElem?_range h2];exact ho
   ·rw[if_neg h2] at ho
    rw[List.getElem?_append_right (by simp;omega),List.getElem?_replicate,if_pos (by simp;omega)];exact ho
  ·rw[spr,qBf h0] at ho;cases ho
 exact qOP hK rfl rfl (fun _ h=>h) (hN0.recont rfl hc) rfl rfl rfl (by simp) (fun j hj=>by
  simp only[World.alloc];rw[Array.getElem?_push,if_neg (by show¬j=w.heap.size;omega)];rfl)
theorem qIS {s:Sem Next} {cs:Array Value} {len cap:Nat} (hs:∀w:World,s.run P w=.ok (.value (.slice (some ⟨w.heap.size,0,none⟩) len cap)) (w.alloc (.cells cs e))):
  qAu P s [] 1 (fun ns=>.slice (some ⟨ns.getD 0 0,0,none⟩) len cap) (fun ns=>[some ⟨ns.getD 0 0,true,0,.lit cs.toList⟩]):=by
 intro w hall ha;have hp:=qFc (m:=fun _=>none) (w:=w) (fun p b h=>by cases h) (fun p q b c _ h=>by cases h) 0 cs e
 refine⟨[w.heap.size],_,rfl,.inl (hs w),?_⟩;have e0:qAG (fun _=>none) [(0,some ⟨w.heap.size,true,0,.lit cs.toList⟩)]=lM [some ⟨w.heap.size,true,0,.lit cs.toList⟩]:=by
  funext p;rcases p with _ |p<;>rfl
 have e1:(fun _=>none:Nat→Option Blk)=lM (([]:List Blk).map some):=by funext p;simp[lM]
 rw[e0,e1] at hp;exact hp
def qIJ (t:TypeId) (len:Nat) (parts:Array (Nat×Value)):Sem Next:=do pure (.value (←Instr.buildSlice t len parts))
theorem qMN (ht:P.underlying t=some (.slice e)) (hi:P.info? e=some i) (hz:i.zero=some z) {len:Nat} {parts:Array (Nat×Value)} {cs:Array Value}
  (h0:len*i.size≠0) (hb:len*i.size≤16777216) (hcs:qLR z i.size len parts=some cs):
  qAu P (qIJ t len parts) [] 1 (fun ns=>.slice (some ⟨ns.getD 0 0,0,none⟩) len len) (fun ns=>[some ⟨ns.getD 0 0,true,0,.lit cs.toList⟩]):=qIS (e:=e) fun w=>by
 refine qAA ?_;have hb':¬(16777216<len*i.size):=by omega
 have hcs':=hcs;unfold qLR at hcs';simp[Instr.buildSlice,run_underlying ht,sizeOf,typeInfo,hi,zeroValue,hz,h0,hb',hcs',newRow]
theorem qAu.recont {s:Sem Next} {v:List Nat→Value} {C C':List Nat→qAL} (h:qAu P s [] 1 v (fun ns=>[some ⟨ns.getD 0 0,true,0,C ns⟩])) (hnm:∀ns,(C' ns).isMap=false) (hc:∀ns o v,(C' ns).get o=some v→(C ns).get o=some v) (hbm:∀ns,(C ns).isMap=false:=by intros;rfl):
  qAu P s [] 1 v (fun ns=>[some ⟨ns.getD 0 0,true,0,C' ns⟩]):=by
 intro w hall ha;obtain⟨ns,w',h1,h2,hp⟩:=h w hall ha;refine⟨ns,w',h1,h2,⟨fun p c hpc=>?_,fun p p' c d hpp hc1 hd ho=>?_,⟨hp.adv.os,hp.adv.output,hp.adv.tape,hp.adv.size,hp.adv.heap,fun j hj=>?_,fun p c hpc ho=>?_⟩⟩⟩
 ·rcases p with _ |p
  ·injection hpc with hpc;subst hpc;exact(hp.holds 0 _ rfl).recont (hnm ns) (hc ns)
  ·simp[lM] at hpc
 ·rcases p with _ |p
  ·rcases p' with _ |p'
   ·exact absurd rfl hpp
   ·simp[lM] at hd
  ·simp[lM] at hc1
 ·obtain⟨p,c,hpc,ho,hjk⟩:=hj
  rcases p with _ |p
  ·injection hpc with hpc;subst hpc
   exact hp.adv.names _ ⟨0,_,rfl,rfl,(qBB (hbm ns)).2 ((qBB (b:=⟨ns.getD 0 0,true,0,C' ns⟩) (hnm ns)).1 hjk)⟩
  ·simp[lM] at hpc
 ·rcases p with _ |p
  ·injection hpc with hpc;subst hpc;cases ho
  ·simp[lM] at hpc
def qK9 (t:TypeId) (len cap:Value):Sem Next:=do pure (.value (←Instr.makeSlice t len cap))
theorem qVz (ht:P.underlying t=some (.slice e)) (hi:P.info? e=some i) (hz:i.zero=some z) (hsz:i.size=1) (hzc:z.cells=#[z]) {n:Nat} (hb:(i.bytes:Int)*n≤281474976710656) (hb2:n≤9223372036854775807):
  qAu P (qK9 t (nat n) (nat n)) [] 1 (fun ns=>.slice (some ⟨ns.getD 0 0,0,none⟩) n n) (fun ns=>[some ⟨ns.getD 0 0,true,0,qAd n fun _=>z⟩]):=by
 refine(qIS (P:=P) (e:=e) (s:=qK9 t (nat n) (nat n)) (cs:=madeCells z.cells (n*i.size)) (len:=n) (cap:=n) fun w=>?_).recont (fun _=>rfl) fun ns o v ho=>?_
 ·refine qAA ?_
  have:=run_make (P:=P) w t e i z ht hi hz .i64 .i64 (n:Int) (n:Int) (by omega) (by omega) hb (by omega)
  simpa[nat] using this
 ·by_cases hon:o<n
  ·rw[qAH hon] at ho
   rw[hzc,hsz];simp[qAL.get,madeCells,hon,Nat.mod_one];simpa using ho
  ·rw[qBf hon] at ho;cases ho
theorem qAo {x:Operand} (ht:P.underlying t=some (.slice e)) (a:Option Addr) (n c:Nat):qB2 P (.call {callee:=.builtin .len,args:=#[x],argTypes:=#[t]}) [.slice a n c] (nat n):=by
 intro ρ o ho hv;rw[ho] at hv;have hv':ρ x=.slice a n c:=by simpa[Op.operands,Call.operands] using hv
 unfold execOp;rw[ho];show qAb P ((Builtin.len_ #[t] o.type (#[x].map ρ)) >>= fun v=>(pure (Next.value v):Sem Next))=_
 have e1:(#[x].map ρ:Array Value)=#[.slice a n c]:=by simp[hv']
 have e2:qAb P (Builtin.len_ #[t] o.type #[.slice a n c])=some (nat n):=by
  show qAb P (underlying t >>= fun d=>_)=_
  rw[qAh,qAi ht];rfl
 rw[e1,qAh,e2];rfl
end
end Go.Eng
namespace Go.Eng
def qPQ (P:Program) (e:TypeId) (z:Value) (B:Nat):Prop:=∃i,P.info? e=some i∧i.zero=some z∧i.size=1∧i.bytes=B∧z.cells=#[z]
def jEE (P:Program) (e:TypeId):Option (Value×Nat×Nat):=match P.info? e with
 |some i=>match i.zero with
  |some z=>some (z,i.size,i.bytes)
  |none=>none
 |none=>none
def qPZ {P:Program} {e:TypeId} {z:Value} {B:Nat} (h:jEE P e=some (z,1,B)) (hz:z.cells=#[z]):qPQ P e z B:=by
 unfold jEE at h;split at h
 ·rename_i i hi
  split at h
  ·rename_i z' hz'
   injection h with h;injection h with h1 h2;injection h2 with h2 h3;subst h1;exact⟨i,hi,hz',h2,h3,hz⟩
  ·cases h
 ·cases h
def qAj {α:Type} (g:Nat→α) (len:Nat) (h:Nat→α):Nat→α:=fun j=>if j<len then g j else h (j-len)
def qTA {α:Type} (K:α→Value) (g h:Nat→α) (len:Nat):qNV (fun k=>K (g k)) len (fun k=>K (h k))=fun k=>K (qAj g len h k):=by
 funext k;unfold qNV qAj;split<;>rfl
def qBy (x:Value):∀j,j<1→(qAL.lit [x]).get (0+j)=some x:=fun j hj=>by
 have:j=0:=by omega
 subst this;rfl
def qSI {c len:Nat} {α:Type} {K:α→Value} {g g':Nat→α} {z:Value} (h:len≤c) (hg:∀k,k<len→g k=g' k):∀o v,(qAd len fun k=>K (g k)).get o=some v→(spr c len (fun k=>K (g' k)) z).get o=some v:=fun o v ho=>by
 by_cases hl:o<len
 ·rw[qAH hl,hg o hl] at ho
  rw[spr,qAH (by omega),if_pos hl];exact ho
 ·rw[qBf hl] at ho;cases ho
section
variable {P:Program} {t ty e:TypeId}
theorem qAZ {B:Nat} {z:Value} (ht:P.underlying t=some (.slice e)) (h1:qPQ P e z B) (b len r k bo os n cc:Nat) {α:Type} (K:α→Value) (g h:Nat→α) (S:qAL) (hS:∀j,j<n→S.get (os+j)=some (K (h j)))
  (hK:∀a,(K a).oneCell'=true) (hb:(len+n)*B≤140737488355328∧len+n≤9223372036854775807):
  qAu P (qBH t ty (.slice (some ⟨b,0,none⟩) len (len+r)) (.slice (some ⟨k,bo+os,none⟩) n cc)) [⟨b,true,0,spr (len+r) len (fun k=>K (g k)) z⟩,⟨k,false,bo,S⟩] 2
   (fun ns=>.slice (some ⟨ns.getD 0 0,0,none⟩) (len+n) (len+n+ns.getD 1 0))
   (fun ns=>[some ⟨ns.getD 0 0,true,0,spr (len+n+ns.getD 1 0) (len+n) (fun k=>K (qAj g len h k)) z⟩,some ⟨k,false,bo,S⟩]):=by
 obtain⟨i,hi,hz,hsz,hB,hzc⟩:=h1;subst hB;have:=qLq (P:=P) (t:=t) (ty:=ty) ht hi hz hsz hzc (b:=b) (len:=len) (r:=r) (k:=k) (bo:=bo) (os:=os) (n:=n) (cc:=cc) (g:=fun k=>K (g k)) (h:=fun k=>K (h k)) (S:=S) hS (fun j _=>hK _) hb.1 hb.2
 rw[qTA] at this;exact this
theorem qNF {B:Nat} {z:Value} (ht:P.underlying t=some (.slice e)) (h1:qPQ P e z B) (k bo os n cc:Nat) {α:Type} (K:α→Value) (h:Nat→α) (S:qAL) (hS:∀j,j<n→S.get (os+j)=some (K (h j)))
  (hb:0<n∧n*B≤140737488355328∧n≤9223372036854775807):
  qAu P (qBH t ty (.slice none 0 0) (.slice (some ⟨k,bo+os,none⟩) n cc)) [⟨k,false,bo,S⟩] 2
   (fun ns=>.slice (some ⟨ns.getD 0 0,0,none⟩) n (n+ns.getD 1 0))
   (fun ns=>[some ⟨k,false,bo,S⟩,some ⟨ns.getD 0 0,true,0,spr (n+ns.getD 1 0) n (fun k=>K (h k)) z⟩]):=by
 obtain⟨i,hi,hz,hsz,hB,hzc⟩:=h1;subst hB;exact qLb ht hi hz hsz hzc hS hb.1 hb.2.1 hb.2.2
theorem jBz {B:Nat} {z:Value} (ht:P.underlying t=some (.slice e)) (h1:qPQ P e z B) (n:Nat) (hb:(B:Int)*(n:Int)≤281474976710656∧n≤9223372036854775807):
  qAu P (qK9 t (nat n) (nat n)) [] 1 (fun ns=>.slice (some ⟨ns.getD 0 0,0,none⟩) n n) (fun ns=>[some ⟨ns.getD 0 0,true,0,qAd n fun _=>z⟩]):=by
 obtain⟨i,hi,hz,hsz,hB,hzc⟩:=h1;subst hB;exact qVz ht hi hz hsz hzc hb.1 hb.2
theorem qAO {B:Nat} {z:Value} (h1:qPQ P e z B) (len:Nat) (parts:Array (Nat×Value)) (cs:Array Value) (ht:P.underlying t=some (.slice e)) (h0:len≠0∧len≤16777216) (hcs:qLR z 1 len parts=some cs):
  qAu P (qIJ t len parts) [] 1 (fun ns=>.slice (some ⟨ns.getD 0 0,0,none⟩) len len) (fun ns=>[some ⟨ns.getD 0 0,true,0,.lit cs.toList⟩]):=by
 obtain⟨i,hi,hz,hsz,hB,hzc⟩:=h1;exact qMN ht hi hz (by rw[hsz];omega) (by rw[hsz];omega) (by rw[hsz];exact hcs)
end
end Go.Eng
namespace Go.Eng
def dkn:List Bool→List (Option Blk)→List (Option Blk)
 | _,[]=>[]
 |[],x::l=>x::l
 |true::r,_ ::l=>none::dkn r l
 |false::r,x::l=>x::dkn r l
theorem qH8:∀(fl:List Bool) (l:List (Option Blk)) (p:Nat) (b:Blk),lM (dkn fl l) p=some b→lM l p=some b
 |[],[],p,b,h=>h
 |true:: _,[],p,b,h=>h
 |false:: _,[],p,b,h=>h
 |[],x::l,p,b,h=>h
 |true::r,x::l,0,b,h=>by cases h
 |true::r,x::l,p+1,b,h=>qH8 r l p b h
 |false::r,x::l,0,b,h=>h
 |false::r,x::l,p+1,b,h=>qH8 r l p b h
def qC4.sub {m m' m'':Nat→Option Blk} {w w':World} (h:qC4 m w m' w') (hs:∀p b,m'' p=some b→m' p=some b):qC4 m w m'' w':=
 ⟨fun p b hp=>h.holds p b (hs p b hp),fun p q b c hpq hb hc ho=>h.apart p q b c hpq (hs p b hb) (hs q c hc) ho,
  ⟨h.adv.os,h.adv.output,h.adv.tape,h.adv.size,h.adv.heap,fun k ⟨p,b,hp,ho,he⟩=>h.adv.names k ⟨p,b,hs p b hp,ho,he⟩,fun p b hp ho=>h.adv.ro p b (hs p b hp) ho⟩⟩
def qBI.dark {P:Program} {f:FuncId} {args:List Value} {bs:List Blk} {k:Nat} {v:List Nat→Value} {out:List Nat→List (Option Blk)} (fl:List Bool) (h:qBI P f args bs k v out):
  qBI P f args bs k v (fun ns=>dkn fl (out ns)):=fun w hb ha=>Calls.mono (h w hb ha) fun _ _ ⟨ns,h1,h2,h3⟩=>⟨ns,h1,h2,h3.sub (qH8 fl (out ns))⟩
def qAu.dark {P:Program} {s:Sem Next} {bs:List Blk} {k:Nat} {v:List Nat→Value} {out:List Nat→List (Option Blk)} (fl:List Bool) (h:qAu P s bs k v out):
  qAu P s bs k v (fun ns=>dkn fl (out ns)):=fun w hb ha=>have⟨ns,w',h1,h2,h3⟩:=h w hb ha;⟨ns,w',h1,h2,h3.sub (qH8 fl (out ns))⟩
def cf (sz:Nat) (g:Nat→List Value) (o:Nat):Value:=(g (o/sz)).getD (o%sz) undef
def qGn (sz c len:Nat) (g:Nat→List Value) (zc:List Value):qAL:=.tab c sz fun k=>if k<len then g k else zc
section
variable {sz n len o:Nat} {E g h:Nat→List Value} {zc:List Value}
theorem qEs (ho:o<n*sz):o/sz<n:=Nat.div_lt_of_lt_mul (by rw[Nat.mul_comm];exact ho)
theorem qMq (hsz:0<sz) (ho:¬o<n*sz):¬o/sz<n:=fun h=>ho ((Nat.div_lt_iff_lt_mul hsz).1 h)
theorem qVk (hsz:0<sz) (hE:∀k,k<n→(E k).length=sz) (ho:o<n*sz):(qAL.tab n sz E).get o=some (cf sz E o):=by
 have h2:o%sz<(E (o/sz)).length:=by rw[hE _ (qEs ho)];exact Nat.mod_lt _ hsz
 simp only[qAL.get,if_pos ho,cf];rw[List.getD_eq_getElem?_getD,List.getElem?_eq_getElem h2];rfl
theorem qKt (ho:¬o<n*sz):(qAL.tab n sz E).get o=none:=by
 simp only[qAL.get,if_neg ho]
theorem qOn (ho:o<len*sz):cf sz (fun k=>if k<len then g k else zc) o=cf sz g o:=by
 show(if o/sz<len then g (o/sz) else zc).getD _ _=_;rw[if_pos (qEs ho)];rfl
theorem qVa (hsz:0<sz) (ho:¬o<len*sz):cf sz (fun k=>if k<len then g k else zc) o=zc.getD (o%sz) undef:=by
 show(if o/sz<len then g (o/sz) else zc).getD _ _=_;rw[if_neg (qMq hsz ho)]
theorem qOG (ho:o<len*sz):cf sz (qAj g len h) o=cf sz g o:=by
 unfold cf qAj;rw[if_pos (qEs ho)]
theorem qPb (hsz:0<sz) (ho:¬o<len*sz):cf sz (qAj g len h) o=cf sz h (o-len*sz):=by
 unfold cf qAj;rw[if_neg (qMq hsz ho),Nat.mul_comm len sz,Nat.sub_mul_div,Nat.sub_mul_mod];rw[Nat.mul_comm];omega
theorem qHj {c:Nat} (hsz:0<sz) (hg:∀k,(g k).length=sz) (hz:zc.length=sz) (ho:o<c*sz):(qGn sz c len g zc).get o=some (if o<len*sz then cf sz g o else zc.getD (o%sz) undef):=by
 unfold qGn;rw[qVk hsz (fun k _=>by split<;>first|exact hg _ |exact hz) ho]
 congr 1;split
 ·rename_i h;exact qOn h
 ·rename_i h;exact qVa hsz h
theorem qKP {c:Nat} (ho:¬o<c*sz):(qGn sz c len g zc).get o=none:=qKt ho
theorem qSg {c:Nat} (h:len≤c) (hg:∀k,k<len→g k=E k):∀o v,(qAL.tab len sz g).get o=some v→(qGn sz c len E zc).get o=some v:=fun o v ho=>by
 by_cases hl:o<len*sz
 ·have h2:len*sz≤c*sz:=Nat.mul_le_mul_right _ h
  simp only[qGn,qAL.get,if_pos hl,if_pos (show o<c*sz by omega),if_pos (qEs hl)] at ho ⊢
  rw[←hg _ (qEs hl)];exact ho
 ·rw[qKt hl] at ho;cases ho
theorem qHJ {z:Array Value} (hz:z.toList=zc) (m k:Nat) (hk:k<m*zc.length):(Builtin.zeroCells z m).toList[k]?=some (zc.getD (k%zc.length) undef):=by
 subst hz;have hz0:0<z.size:=by
  rcases Nat.eq_zero_or_pos z.size with h0|h0
  ·simp[h0] at hk
  ·exact h0
 have hk':k<m*z.size:=by simpa using hk
 have hm:k%z.size<z.size:=Nat.mod_lt _ hz0;simp[Builtin.zeroCells,hk',hm]
end
def jCR (P:Program) (e:TypeId):Option Value:=match P.info? e with
 |some i=>i.zero
 |none=>none
section
variable {P:Program} {t ty e:TypeId} {i:TypeInfo} {z:Value} {sz:Nat} {zc:List Value}
theorem qPj (ht:P.underlying t=some (.slice e)) (hi:P.info? e=some i) (hz:i.zero=some z) (hsz:i.size=sz) (hs0:0<sz) (hzc:z.cells.toList=zc) (hzl:zc.length=sz)
  {b len r k bo os n cc:Nat} {g h:Nat→List Value} {S:qAL} (hg:∀k,(g k).length=sz) (hh:∀k,(h k).length=sz) (hS:∀j,j<n*sz→S.get (os+j)=some (cf sz h j)) (h1:∀j,j<n*sz→(cf sz h j).oneCell'=true)
  (hb:(len+n)*i.bytes≤140737488355328) (hb2:len+n≤9223372036854775807):
  qAu P (qBH t ty (.slice (some ⟨b,0,none⟩) len (len+r)) (.slice (some ⟨k,bo+os,none⟩) n cc)) [⟨b,true,0,qGn sz (len+r) len g zc⟩,⟨k,false,bo,S⟩] 2
   (fun ns=>.slice (some ⟨ns.getD 0 0,0,none⟩) (len+n) (len+n+ns.getD 1 0))
   (fun ns=>[some ⟨ns.getD 0 0,true,0,qGn sz (len+n+ns.getD 1 0) (len+n) (qAj g len h) zc⟩,some ⟨k,false,bo,S⟩]):=by
 intro w hall ha;have hA:qAn ⟨b,true,0,qGn sz (len+r) len g zc⟩ w:=hall _ (by simp)
 have hK:qAn ⟨k,false,bo,S⟩ w:=hall _ (by simp)
 have hcat:∀k,(qAj g len h k).length=sz:=fun k=>by unfold qAj;split<;>first|exact hg _ |exact hh _
 have hnews:∀j u,((List.range (n*sz)).map (cf sz h))[j]?=some u→w.cell? ((⟨k,bo+os,none⟩:Addr).add j)=some u:=fun j u hj=>by
  obtain⟨hjn,rfl⟩:=qBQ hj;rw[qBu,Nat.add_assoc];exact hK.cell _ _ (hS j hjn)
 have hone:∀u∈(List.range (n*sz)).map (cf sz h),u.oneCell'=true:=fun u hu=>by
  obtain⟨j,hj,rfl⟩:=List.mem_map.1 hu;exact h1 j (List.mem_range.1 hj)
 have hm:∀p c,lM [some ⟨b,true,0,qGn sz (len+r) len g zc⟩,some ⟨k,false,bo,S⟩] p=some c→qAn c w:=fun p c hc=>hall c (List.mem_of_getElem? (qAV (l:=[⟨b,true,0,qGn sz (len+r) len g zc⟩,⟨k,false,bo,S⟩]).1 hc))
 have hadd:(len+n)*sz=len*sz+n*sz:=Nat.add_mul _ _ _;by_cases hr:n≤r
 ·
  have hle:len*sz+n*sz≤(len+r)*sz:=by rw[←hadd];exact Nat.mul_le_mul_right _ (by omega)
  have hget:∀j,j<n*sz→∃u,(qGn sz (len+r) len g zc).get (len*sz+j)=some u:=fun j hj=>⟨_,qHj hs0 hg hzl (by omega)⟩
  have hrun:=run_append_room_cells (P:=P) w t ty e i ht hi b 0 len (len+r) ⟨k,bo+os,none⟩ n cc ((List.range (n*sz)).map (cf sz h)) (by simp[hsz]) hnews hone (by omega)
   (fun j hj=>by
    obtain⟨u,hu⟩:=hget j (by simpa using hj)
    have:=hA.cell _ _ hu;rw[show 0+len*i.size+j=0+(len*sz+j) by rw[hsz];omega,this];rfl)
   (fun j hj=>by
    obtain⟨u,hu⟩:=hget j (by simpa using hj)
    have:=hA.free rfl _ _ hu;rw[show 0+len*i.size+j=0+(len*sz+j) by rw[hsz];omega];exact this)
  have hrun2:(Builtin.append_ #[t,t] ty #[.slice (some ⟨b,0,none⟩) len (len+r),.slice (some ⟨k,bo+os,none⟩) n cc]).run P w=.ok (.slice (some ⟨b,0,none⟩) (len+n) (len+n+(r-n))) (w.setCells b (0+len*i.size) ((List.range (n*sz)).map (cf sz h))):=by
   rw[show len+n+(r-n)=len+r by omega];exact hrun
  refine⟨[b,r-n],_,rfl,.inl (qAA hrun2),?_⟩;have hp:=qJt (m:=lM [some ⟨b,true,0,qGn sz (len+r) len g zc⟩,some ⟨k,false,bo,S⟩]) (w:=w) (p:=0) (b:=⟨b,true,0,qGn sz (len+r) len g zc⟩) (o0:=len*sz) (cs:=(List.range (n*sz)).map (cf sz h))
   (c:=qGn sz (len+r) (len+n) (qAj g len h) zc) hm ha rfl rfl rfl rfl (fun j hj=>hget j (by simpa using hj)) (fun j=>by
    have hlen:((List.range (n*sz)).map (cf sz h)).length=n*sz:=by simp
    rw[hlen];by_cases hj:j<(len+r)*sz
    ·rw[qHj hs0 hcat hzl hj,qHj hs0 hg hzl hj,hadd]
     by_cases h2:j<len*sz
     ·rw[if_neg (show¬(len*sz≤j∧j<len*sz+n*sz) by omega),if_pos h2,if_pos (show j<len*sz+n*sz by omega),qOG h2]
     ·by_cases h3:j<len*sz+n*sz
      ·rw[if_pos (show len*sz≤j∧j<len*sz+n*sz by omega),if_pos h3,qPb hs0 h2,List.getElem?_map,List.getElem?_range (by omega)];rfl
      ·rw[if_neg (show¬(len*sz≤j∧j<len*sz+n*sz) by omega),if_neg h3,if_neg h2]
    ·rw[qKP hj,qKP hj,if_neg (show¬(len*sz≤j∧j<len*sz+n*sz) by omega)])
  rw[qD0] at hp;have e1:len+n+(r-n)=len+r:=by omega
  simpa[hsz,e1] using hp
 ·
  have hgr:len+r<len+n:=by omega
  have hrun:=run_append_grow (P:=P) w t ty e i z ht hi hz ⟨b,0,none⟩ len (len+r) ((List.range (len*sz)).map (cf sz g)) (by simp[hsz])
   (fun j v hj=>by
    obtain⟨hjn,rfl⟩:=qBQ hj;rw[qBu,Nat.zero_add];have hle:len*sz≤(len+r)*sz:=Nat.mul_le_mul_right _ (by omega)
    have:=hA.cell j (cf sz g j) (by rw[qHj hs0 hg hzl (by omega),if_pos hjn])
    rw[Nat.zero_add] at this;exact this)
   ⟨k,bo+os,none⟩ n cc ((List.range (n*sz)).map (cf sz h)) (by simp[hsz]) hnews hgr (by omega) (growslice_fits hgr hb)
  have hge:=grownCap_ge w (len+n) (len+r) e;obtain⟨q,hq⟩:∃q,grownCap w (len+n) (len+r) e=len+n+q:=⟨_,(Nat.add_sub_cancel' hge).symm⟩;rw[hq] at hrun;refine⟨[w.heap.size,q],_,rfl,.inl (qAA hrun),?_⟩;have hp0:=qC4.drew hm ha;have hp:=hp0.trans (qFc hp0.holds hp0.apart 0 (((List.range (len*sz)).map (cf sz g)).toArray++((List.range (n*sz)).map (cf sz h)).toArray++Builtin.zeroCells z.cells (len+n+q-(len+n))) e);rw[show w.drew.heap.size=w.heap.size from rfl,qD0] at hp;have hc:∀o v,(qGn sz (len+n+q) (len+n) (qAj g len h) zc).get o=some v→
    (qAL.lit (((List.range (len*sz)).map (cf sz g)).toArray++((List.range (n*sz)).map (cf sz h)).toArray++Builtin.zeroCells z.cells (len+n+q-(len+n))).toList).get o=some v:=fun o v ho=>by
   rw[show len+n+q-(len+n)=q by omega]
   simp only[qAL.get,Array.toList_append,List.append_assoc];have hall3:(len+n+q)*sz=len*sz+n*sz+q*sz:=by rw[Nat.add_mul,Nat.add_mul]
   by_cases h0:o<(len+n+q)*sz
   ·rw[qHj hs0 hcat hzl h0,hadd] at ho
    by_cases h2:o<len*sz
    ·rw[if_pos (by omega),qOG h2] at ho
     rw[List.getElem?_append_left (by simp;exact h2),List.getElem?_map,List.getElem?_range h2];exact ho
    ·rw[List.getElem?_append_right (by simp;omega)]
     by_cases h3:o<len*sz+n*sz
     ·rw[if_pos h3,qPb hs0 h2] at ho
      rw[List.getElem?_append_left (by simp;omega),List.getElem?_map]
      simp only[List.length_map,List.length_range];rw[List.getElem?_range (by omega)];exact ho
     ·rw[if_neg h3] at ho
      rw[List.getElem?_append_right (by simp;omega)]
      simp only[List.length_map,List.length_range];rw[qHJ hzc q _ (by rw[hzl];omega),←ho,hzl]
      rw[show o-len*sz-n*sz=o-sz*(len+n) by rw[Nat.mul_comm sz,hadd];omega,Nat.sub_mul_mod]
      rw[Nat.mul_comm,hadd];omega
   ·rw[qKP h0] at ho;cases ho
  have hN:=(hp.holds 0 _ rfl).recont rfl hc;refine⟨fun p c hpc=>?_,fun p p' c d hpp hc1 hd ho=>?_,⟨hp.adv.os,hp.adv.output,hp.adv.tape,hp.adv.size,hp.adv.heap,fun j hj=>?_,fun p c hpc ho=>?_⟩⟩
  ·rcases p with _ | _ |p
   ·injection hpc with hpc;subst hpc;exact hN
   ·injection hpc with hpc;subst hpc;exact hp.holds 1 _ rfl
   ·simp[lM] at hpc
  ·rcases p with _ | _ |p
   ·injection hc1 with hc1;subst hc1
    rcases p' with _ | _ |p'
    ·exact absurd rfl hpp
    ·injection hd with hd;subst hd
     have h01:=hp.apart 0 1 _ _ (by omega) rfl rfl rfl
     exact h01
    ·simp[lM] at hd
   ·injection hc1 with hc1;subst hc1;cases ho
   ·simp[lM] at hc1
  ·obtain⟨p,c,hpc,ho,hjk⟩:=hj
   rcases p with _ | _ |p
   ·injection hpc with hpc;subst hpc
    exact .inr (Nat.le_of_eq hjk)
   ·injection hpc with hpc;subst hpc;cases ho
   ·simp[lM] at hpc
  ·rcases p with _ | _ |p
   ·injection hpc with hpc;subst hpc;cases ho
   ·exact hpc
   ·simp[lM] at hpc
theorem qKl (ht:P.underlying t=some (.slice e)) (hi:P.info? e=some i) (hz:i.zero=some z) (hsz:i.size=sz) (hs0:0<sz) (hzc:z.cells.toList=zc) (hzl:zc.length=sz)
  {k bo os n cc:Nat} {h:Nat→List Value} {S:qAL} (hh:∀k,(h k).length=sz) (hS:∀j,j<n*sz→S.get (os+j)=some (cf sz h j)) (hn0:0<n)
  (hb:n*i.bytes≤140737488355328) (hb2:n≤9223372036854775807):
  qAu P (qBH t ty (.slice none 0 0) (.slice (some ⟨k,bo+os,none⟩) n cc)) [⟨k,false,bo,S⟩] 2
   (fun ns=>.slice (some ⟨ns.getD 0 0,0,none⟩) n (n+ns.getD 1 0))
   (fun ns=>[some ⟨k,false,bo,S⟩,some ⟨ns.getD 0 0,true,0,qGn sz (n+ns.getD 1 0) n h zc⟩]):=by
 intro w hall ha;have hK:qAn ⟨k,false,bo,S⟩ w:=hall _ (by simp)
 have hnews:∀j u,((List.range (n*sz)).map (cf sz h))[j]?=some u→w.cell? ((⟨k,bo+os,none⟩:Addr).add j)=some u:=fun j u hj=>by
  obtain⟨hjn,rfl⟩:=qBQ hj;rw[qBu,Nat.add_assoc];exact hK.cell _ _ (hS j hjn)
 have hrun:=run_append_nil (P:=P) w t ty e i z ht hi hz ⟨k,bo+os,none⟩ n cc ((List.range (n*sz)).map (cf sz h)) (by simp[hsz]) hnews hn0 (by omega) (by omega)
 have hge:=grownCap_ge w n 0 e;obtain⟨q,hq⟩:∃q,grownCap w n 0 e=n+q:=⟨_,(Nat.add_sub_cancel' hge).symm⟩;rw[hq] at hrun;refine⟨[w.heap.size,q],_,rfl,.inl (qAA hrun),?_⟩;have hp:=qFc (m:=fun _=>none) (w:=w.drew) (fun p b h=>by cases h) (fun p q b c _ h=>by cases h) 0 (((List.range (n*sz)).map (cf sz h)).toArray++Builtin.zeroCells z.cells (n+q-n)) e
 have hN0:=hp.holds 0 ⟨w.heap.size,true,0,.lit (((List.range (n*sz)).map (cf sz h)).toArray++Builtin.zeroCells z.cells (n+q-n)).toList⟩ rfl;have hc:∀o v,(qGn sz (n+q) n h zc).get o=some v→(qAL.lit (((List.range (n*sz)).map (cf sz h)).toArray++Builtin.zeroCells z.cells (n+q-n)).toList).get o=some v:=fun o v ho=>by
  rw[show n+q-n=q by omega]
  simp only[qAL.get,Array.toList_append];have hall3:(n+q)*sz=n*sz+q*sz:=Nat.add_mul _ _ _;by_cases h0:o<(n+q)*sz
  ·rw[qHj hs0 hh hzl h0] at ho
   by_cases h2:o<n*sz
   ·rw[if_pos h2] at ho
    rw[List.getElem?_append_left (by simp;exact h2),List.getElem?_map,List.getElem?_range h2];exact ho
   ·rw[if_neg h2] at ho
    rw[List.getElem?_append_right (by simp;omega)]
    simp only[List.length_map,List.length_range];rw[qHJ hzc q _ (by rw[hzl];omega),←ho,hzl]
    rw[Nat.mul_comm n sz,Nat.sub_mul_mod];rw[Nat.mul_comm];omega
  ·rw[qKP h0] at ho;cases ho
 exact qOP hK rfl rfl (fun _ h=>h) (hN0.recont rfl hc) rfl rfl rfl (by simp) (fun j hj=>by
  simp only[World.alloc];rw[Array.getElem?_push,if_neg (by show¬j=w.heap.size;omega)];rfl)
end
def qWf (P:Program) (e:TypeId) (zc:List Value) (sz B:Nat):Prop:=∃i z,P.info? e=some i∧i.zero=some z∧i.size=sz∧i.bytes=B∧z.cells.toList=zc∧zc.length=sz∧0<sz
def qM2 {P:Program} {e:TypeId} {z:Value} {zc:List Value} {sz B:Nat} (h:jEE P e=some (z,sz,B)) (hz:z.cells.toList=zc) (hl:zc.length=sz) (h0:0<sz):qWf P e zc sz B:=by
 unfold jEE at h;split at h
 ·rename_i i hi
  split at h
  ·rename_i z' hz'
   injection h with h;injection h with h1 h2;injection h2 with h2 h3;subst h1;exact⟨i,z',hi,hz',h2,h3,hz,hl,h0⟩
  ·cases h
 ·cases h
def jDY {α:Type} (K:α→List Value) (g h:Nat→α) (len:Nat):qAj (fun k=>K (g k)) len (fun k=>K (h k))=fun k=>K (qAj g len h k):=by
 funext k;unfold qAj;split<;>rfl
def qJM {sz:Nat} {l:List Value} (hl:l.length=sz):∀j,j<1*sz→(qAL.lit l).get (0+j)=some (cf sz (fun _=>l) j):=fun j hj=>by
 rw[Nat.one_mul] at hj;rw[Nat.zero_add];unfold cf;rw[Nat.mod_eq_of_lt hj];simp[qAL.get,hl,hj]
section
variable {P:Program} {t ty e:TypeId}
theorem qSS {sz B:Nat} {zc:List Value} (ht:P.underlying t=some (.slice e)) (h1:qWf P e zc sz B) (b len r k bo os n cc:Nat) {α:Type} (K:α→List Value) (hK:∀a,(K a).length=sz∧(K a).all Value.oneCell'=true) (g h:Nat→α) (S:qAL)
  (hS:∀j,j<n*sz→S.get (os+j)=some (cf sz (fun k=>K (h k)) j)) (hb:(len+n)*B≤140737488355328∧len+n≤9223372036854775807):
  qAu P (qBH t ty (.slice (some ⟨b,0,none⟩) len (len+r)) (.slice (some ⟨k,bo+os,none⟩) n cc)) [⟨b,true,0,qGn sz (len+r) len (fun k=>K (g k)) zc⟩,⟨k,false,bo,S⟩] 2
   (fun ns=>.slice (some ⟨ns.getD 0 0,0,none⟩) (len+n) (len+n+ns.getD 1 0))
   (fun ns=>[some ⟨ns.getD 0 0,true,0,qGn sz (len+n+ns.getD 1 0) (len+n) (fun k=>K (qAj g len h k)) zc⟩,some ⟨k,false,bo,S⟩]):=by
 obtain⟨i,z,hi,hz,hsz,hB,hzc,hzl,hs0⟩:=h1;subst hB;have:=qPj (P:=P) (t:=t) (ty:=ty) ht hi hz hsz hs0 hzc hzl (b:=b) (len:=len) (r:=r) (k:=k) (bo:=bo) (os:=os) (n:=n) (cc:=cc) (g:=fun k=>K (g k)) (h:=fun k=>K (h k)) (S:=S) (fun _=>(hK _).1) (fun _=>(hK _).1) hS
  (fun j hj=>by
   have hl:=(hK (h (j/sz))).1;have hm:j%sz<(K (h (j/sz))).length:=by rw[hl];exact Nat.mod_lt _ hs0
   unfold cf;rw[List.getD_eq_getElem?_getD,List.getElem?_eq_getElem hm];exact List.all_eq_true.1 (hK (h (j/sz))).2 _ (List.getElem_mem hm)) hb.1 hb.2
 rw[jDY] at this;exact this
theorem qMh {sz B:Nat} {zc:List Value} (ht:P.underlying t=some (.slice e)) (h1:qWf P e zc sz B) (k bo os n cc:Nat) {α:Type} (K:α→List Value) (hK:∀a,(K a).length=sz∧(K a).all Value.oneCell'=true) (h:Nat→α) (S:qAL)
  (hS:∀j,j<n*sz→S.get (os+j)=some (cf sz (fun k=>K (h k)) j)) (hb:0<n∧n*B≤140737488355328∧n≤9223372036854775807):
  qAu P (qBH t ty (.slice none 0 0) (.slice (some ⟨k,bo+os,none⟩) n cc)) [⟨k,false,bo,S⟩] 2
   (fun ns=>.slice (some ⟨ns.getD 0 0,0,none⟩) n (n+ns.getD 1 0))
   (fun ns=>[some ⟨k,false,bo,S⟩,some ⟨ns.getD 0 0,true,0,qGn sz (n+ns.getD 1 0) n (fun k=>K (h k)) zc⟩]):=by
 obtain⟨i,z,hi,hz,hsz,hB,hzc,hzl,hs0⟩:=h1;subst hB;exact qKl ht hi hz hsz hs0 hzc hzl (fun _=>(hK _).1) hS hb.1 hb.2.1 hb.2.2
theorem qOA {sz B:Nat} {zc:List Value} {z:Value} (h1:qWf P e zc sz B) (hz0:jCR P e=some z) (len:Nat) (parts:Array (Nat×Value)) (cs:Array Value) (ht:P.underlying t=some (.slice e)) (h0:len*sz≠0∧len*sz≤16777216) (hcs:qLR z sz len parts=some cs):
  qAu P (qIJ t len parts) [] 1 (fun ns=>.slice (some ⟨ns.getD 0 0,0,none⟩) len len) (fun ns=>[some ⟨ns.getD 0 0,true,0,.lit cs.toList⟩]):=by
 obtain⟨i,z',hi,hz,hsz,hB,hzc,hzl,hs0⟩:=h1;have hzz:z'=z:=by simpa[jCR,hi,hz] using hz0
 subst hzz;exact qMN ht hi hz (by rw[hsz];exact h0.1) (by rw[hsz];exact h0.2) (by rw[hsz];exact hcs)
end
end Go.Eng
end
section
namespace Go.Eng
def qPC {g:UInt64} {b:UInt8} {s:Nat} (hs:s≤56) (hg:g.toNat<2^s):(g|||qAT b.toUInt64 s).toNat=g.toNat+b.toNat*2^s:=by
 have hb:=b.toNat_lt;have hp:2^s≤2^56:=Nat.pow_le_pow_right (by omega) hs
 have h1:b.toNat*2^s≤255*2^s:=Nat.mul_le_mul_right _ (by omega)
 rw[UInt64.toNat_or,qKX,UInt8.toNat_toUInt64,Nat.mod_eq_of_lt (show b.toNat*2^s<18446744073709551616 by omega),Nat.mul_comm,qWw hg]
def beN (f:Nat→UInt8) (n i:Nat):Nat:=qJ5 (fun j=>(f (n-1-j)).toNat) i
def qZk (f:Nat→UInt8) (n i:Nat):beN f n i<256^i:=qRL fun _ _=>(f _).toNat_lt
def jAy (a:N4) (f:Nat→UInt8) (n i:Nat) (hi:i<32) (ha:a.val=beN f n i):
  (a.set (i/8) (a.get (i/8)|||qAT (f (n-1-i)).toUInt64 (i%8*8))).val=beN f n (i+1):=by
 have hj:i/8<4:=by omega
 obtain⟨q,hq⟩:=qTm a (i/8) hj;have ei:8*i=64*(i/8)+i%8*8:=by omega
 have hlt:a.val<2^(64*(i/8))*2^(i%8*8):=by
  rw[ha,←Nat.pow_add,←ei,←qMW];exact qZk f n i
 have hdiv:a.val/2^(64*(i/8))<2^(i%8*8):=Nat.div_lt_of_lt_mul hlt;have hg:(a.get (i/8)).toNat<2^(i%8*8):=by omega
 have hs:=a.set_val (i/8) (a.get (i/8)|||qAT (f (n-1-i)).toUInt64 (i%8*8)) hj;rw[qPC (by omega) hg,Nat.mul_add] at hs
 have e:2^(64*(i/8))*((f (n-1-i)).toNat*2^(i%8*8))=(f (n-1-i)).toNat*256^i:=by
  rw[qMW,ei,Nat.pow_add,Nat.mul_left_comm]
 rw[e] at hs;show _=qJ5 _ (i+1);simp only[qJ5];unfold beN at ha;omega
def ofN (f:Nat→UInt8) (n:Nat):N4:=match decide (32<n) with
 |true=>⟨0,0,0,0⟩
 |false=>N4.ofNat (beN f n n)
def ofE (n:Nat):Int:=match decide (32<n) with
 |true=>2
 |false=>0
def jBK {a:N4} {f:Nat→UInt8} {n:Nat} (ha:a.val=beN f n n):a=N4.ofNat (beN f n n):=N4.eq_ofNat ha
def qA8 (a:N4):Nat→UInt8:=fun k=>if k<32 then UInt8.ofNat (dig a.val (31-k)) else 0
def qQU (a:N4) (i:Nat) (hi:i<32):(qAa (a.get (i/8)) (i%8*8)).toUInt8=UInt8.ofNat (dig a.val i):=by
 apply UInt8.toNat_inj.1;have h:=qWy a i hi;rw[qZf,Nat.mul_comm] at h;rw[UInt64.toNat_toUInt8,h,UInt8.toNat_ofNat',Nat.mod_eq_of_lt (qUk _ _)]
def qSi {f:Nat→UInt8} {a:N4} {i:Nat} (hi:i<32) (h:∀k,f k=if k<32∧32≤k+i then UInt8.ofNat (dig a.val (31-k)) else 0):
  ∀k,upd f (31-i) (qAa (a.get (i/8)) (i%8*8)).toUInt8 k=if k<32∧32≤k+(i+1) then UInt8.ofNat (dig a.val (31-k)) else 0:=fun k=>by
 unfold upd;by_cases hk:k=31-i
 ·subst hk
  rw[if_pos rfl,if_pos (show 31-i<32∧32≤31-i+(i+1) by omega),qQU a i hi,show 31-(31-i)=i by omega]
 ·rw[if_neg hk,h k]
  by_cases h1:k<32∧32≤k+i
  ·rw[if_pos h1,if_pos (show k<32∧32≤k+(i+1) by omega)]
  ·rw[if_neg h1,if_neg (show¬(k<32∧32≤k+(i+1)) by omega)]
def qTZ {f:Nat→UInt8} {a:N4} {i:Nat} (hi:i=32) (h:∀k,f k=if k<32∧32≤k+i then UInt8.ofNat (dig a.val (31-k)) else 0):f=qA8 a:=by
 funext k;rw[h k,qA8];by_cases hk:k<32
 ·rw[if_pos hk,if_pos (show k<32∧32≤k+i by omega)]
 ·rw[if_neg hk,if_neg (show¬(k<32∧32≤k+i) by omega)]
def qDn (f:Nat→UInt8) (n:Nat) (g:Nat→UInt8) (m:Nat):Bool:=decide (n=m∧∀k,k<n→f k=g k)
def qRC {f g:Nat→UInt8} {n m:Nat} (h:n≠m):false=qDn f n g m:=(decide_eq_false fun e=>h e.1).symm
def qRf {f g:Nat→UInt8} {n m i:Nat} (hi:i<n) (h:f i≠g i):false=qDn f n g m:=(decide_eq_false fun e=>h (e.2 i hi)).symm
def qWO {f g:Nat→UInt8} {n m i:Nat} (hnm:n=m) (hi:i=n) (h:∀k,k<i→f k=g k):true=qDn f n g m:=(decide_eq_true ⟨hnm,fun k hk=>h k (by omega)⟩).symm
def qUL {f g:Nat→UInt8} {i:Nat} (h:∀k,k<i→f k=g k) (he:(!(f i==g i))=false):∀k,k<i+1→f k=g k:=fun k hk=>by
 by_cases hki:k=i
 ·subst hki;have:=qAQ he;exact beq_iff_eq.1 this
 ·exact h k (by omega)
def qTX {f g:Nat→UInt8} {i:Nat} (he:(!(f i==g i))=true):f i≠g i:=fun e=>by rw[e] at he;simp at he
section
variable {P:Program} {t t':TypeId} {x y:Operand} (a b:UInt8)
theorem jBn:qB2 P (.binOp .neq t x y t') [u8 a,u8 b] (.bool (!(a==b))):=qAw qAq (by
 show some (Value.bool (!((a.toNat:Int)==(b.toNat:Int))))=_;have:((a.toNat:Int)==(b.toNat:Int))=(a==b):=by
  rw[Bool.eq_iff_iff,beq_iff_eq,beq_iff_eq];constructor
  ·intro h;exact UInt8.toNat_inj.1 (by omega)
  ·intro h;rw[h]
 rw[this])
end
end Go.Eng
namespace Go.Eng
section bytesin
open Go.ChangeShapes Go.WideShapes Go.ChangeAt Go.RowKit Go.Deep
variable {H:Type} {enc:TypeId×Value→H} {P:Program}
theorem jE2 {n:Int} (h:(Lit.int .u8 n).wf=true):∃x:UInt8,Value.int .u8 n=u8 x:=by
 have hx:0≤n∧n≤255:=by simpa[Lit.wf,IntKind.min,IntKind.max,IntKind.signed,IntKind.bits] using h
 refine⟨.ofNat n.toNat,?_⟩;unfold u8;rw[UInt8.toNat_ofNat',Nat.mod_eq_of_lt (by omega)]
 congr 1;omega
theorem qFA {W:World} {a:Addr} {v:Value} (h:W.cell? a=some v):a.block<W.heap.size:=by
 by_cases hlt:a.block<W.heap.size
 ·exact hlt
 ·have:W.heap[a.block]?=none:=by simp;omega
  simp[World.cell?,this] at h
end bytesin
section
open Go.ChangeShapes Go.WideShapes Go.ChangeAt Go.RowKit Go.Deep
variable {H:Type} {enc:TypeId×Value→H} {P:Program}
theorem qPJ {α:Type} [Inhabited α] (K:α→List Value) {sz:Nat} (hK:∀a,(K a).length=sz) (hs0:0<sz) {r:Reach} {b0:Nat} {W:World} {base:Nat} {sp:Nat→Bool} {held:Bool} {t e:TypeId} {v:Value} {d:DataW H} {ps:List MemPlace} (ht:P.underlying t=some (.slice e))
  (hc:P.cellsOf e=sz) (hel:∀n cs x,cs.length=sz→DataW.trod enc P W base sp held n e cs=some x→∃a,cs=K a) (hval:Value.okWide P W r b0 t v) (hd:DataW.Trod enc P W base sp held t v d ps):
  (∃ao c,v=.slice ao 0 c)∨∃(b o n c:Nat) (f:Nat→α),v=.slice (some ⟨b,o,none⟩) n c∧0<n∧n≤9223372036854775807∧qAn ⟨b,false,o,.tab n sz fun k=>K (f k)⟩ W:=by
 obtain⟨a1,len,cap,rfl⟩:=okWide_slice ht hval;obtain⟨fuel,hf⟩:=hd;by_cases h0:len=0
 ·subst h0;exact .inl ⟨_,_,rfl⟩
 rcases open_slice ht hf with⟨hcs,_⟩|⟨a,len',cap',m,n,D,Pl,hcs,_,hl,hm,hmm,_,hx⟩
 ·simp[Value.cells] at hcs
  exact absurd hcs.2.1 h0
 ·simp[Value.cells] at hcs
  obtain⟨rfl,rfl,rfl⟩:=hcs;rw[hc] at hx;have hlm:len≤m:=by rw[hmm];split<;>omega
  have hV:∀i,i<len→∃x:α,∀j,j<sz→W.cell? ((a.add (i*sz)).add j)=(K x)[j]?:=fun i hi=>by
   obtain⟨cs',h1,h2⟩:=hx i (by omega)
   obtain⟨_,hlen,hcell⟩:=World.cells?_some h1;obtain⟨x,hx⟩:=hel _ _ _ hlen h2;subst hx;exact⟨x,hcell⟩
  obtain⟨f,hfV⟩:=choose_lt (α:=α) (p:=fun i x=>∀j,j<sz→W.cell? ((a.add (i*sz)).add j)=(K x)[j]?) hV
  have hfirst:∃u,W.cell? a=some u:=by
   have:=hfV 0 (by omega) 0 hs0
   rw[show(a.add (0*sz)).add 0=a from by cases a;simp[Addr.add]] at this
   rw[this,List.getElem?_eq_getElem (by rw[hK];exact hs0)]
   exact⟨_,rfl⟩
  obtain⟨u0,hu0⟩:=hfirst;have hspot:a.spot=none:=World.cell?_spot hu0;obtain⟨ab,ao,spot⟩:=a;simp only at hspot;subst hspot;refine .inr ⟨ab,ao,len,cap,f,rfl,by omega,by unfold maxLen at hm;omega,⟨qFA hu0,fun o v ho=>?_,(fun h=>by cases h),qC8 rfl⟩⟩
  by_cases hol:o<len*sz
  ·simp only[qAL.get,if_pos hol] at ho
   have:=hfV (o/sz) (qEs hol) (o%sz) (Nat.mod_lt _ hs0);rw[qBu,qBu,Nat.add_assoc,show o/sz*sz+o%sz=o by rw[Nat.mul_comm];exact Nat.div_add_mod o sz] at this
   rw[this];exact ho
  ·rw[qKt hol] at ho;cases ho
instance:Inhabited N4:=⟨⟨0,0,0,0⟩⟩
end
end Go.Eng
end
section
namespace Go.Eng
open Go.RowKit Go.WideShapes Go.ChangeShapes Go.ChangeAt Go.Deep
def qC4.weak {m m1 m2:Nat→Option Blk} {w w':World} (h:qC4 m w m1 w')
  (hr:∀p b,m2 p=some b→∃b0,m1 p=some b0∧b0.name=b.name∧b0.own=b.own∧b0.base=b.base∧(b.own=false→b0=b)∧(b0=b∨b.cont.isMap=false∧b0.cont.isMap=false∧∀o v,b.cont.get o=some v→b0.cont.get o=some v)):qC4 m w m2 w':=by
 have hsm:∀b0 b:Blk,b0.name=b.name→(b0=b∨b.cont.isMap=false∧b0.cont.isMap=false∧∀o v,b.cont.get o=some v→b0.cont.get o=some v)→∀k,b.has k→b0.has k:=fun b0 b hn hz k hk=>by
  rcases hz with rfl|⟨h1,h2,_⟩
  ·exact hk
  ·exact(qBB h2).2 (hn.trans ((qBB h1).1 hk))
 refine⟨fun p b hp=>?_,fun p q b c hpq hb hc ho=>?_,⟨h.adv.os,h.adv.output,h.adv.tape,h.adv.size,h.adv.heap,fun j hj=>?_,fun p b hp ho=>?_⟩⟩
 ·obtain⟨b0,h0,h1,h2,h3,_,rfl|⟨h6,_,h4⟩⟩:=hr p b hp
  ·exact h.holds p _ h0
  have hh:=(h.holds p b0 h0).recont h6 h4;obtain⟨n0,o0,s0,c0⟩:=b0;obtain⟨n1,o1,s1,c1⟩:=b;simp only at h1 h2 h3;subst h1 h2 h3;exact hh
 ·obtain⟨b0,h0,h1,h2,h3⟩:=hr p b hb
  obtain⟨c0,k0,k1,k2,k3⟩:=hr q c hc;exact fun k l1 l2=>h.apart p q b0 c0 hpq h0 k0 (h2.trans ho) k (hsm b0 b h1 h3.2.2 k l1) (hsm c0 c k1 k3.2.2 k l2)
 ·obtain⟨p,b,hp,ho,hjk⟩:=hj
  obtain⟨b0,h0,h1,h2,h3⟩:=hr p b hp;exact h.adv.names _ ⟨p,b0,h0,h2.trans ho,hsm b0 b h1 h3.2.2 _ hjk⟩
 ·obtain⟨b0,h0,_,_,_,h5,_⟩:=hr p b hp
  rw[←h5 ho];exact h.adv.ro p b0 h0 (by rw[h5 ho];exact ho)
def qBI.weak {P:Program} {f:FuncId} {args:List Value} {bs:List Blk} {k:Nat} {v:List Nat→Value} {out out':List Nat→List (Option Blk)} (h:qBI P f args bs k v out)
  (hr:∀ns p b,lM (out' ns) p=some b→∃b0,lM (out ns) p=some b0∧b0.name=b.name∧b0.own=b.own∧b0.base=b.base∧(b.own=false→b0=b)∧(b0=b∨b.cont.isMap=false∧b0.cont.isMap=false∧∀o v,b.cont.get o=some v→b0.cont.get o=some v)):
  qBI P f args bs k v out':=fun w hb ha=>Calls.mono (h w hb ha) fun _ _ ⟨ns,h1,h2,h3⟩=>⟨ns,h1,h2,h3.weak (hr ns)⟩
section bytesin
variable {H:Type} {enc:TypeId×Value→H} {P:Program}
end bytesin
def qBq (x:UInt64):N4:=⟨x,0,0,0⟩
def qBM (f:Nat→UInt64):Nat→N4
 |0=>⟨0,0,0,0⟩
 |k+1=>qVh (qBM f k) (qBq (f k))
def qJJ (n:Nat) (f:Nat→UInt64):Prop:=n≤40∧qFw (qBM f n)≤63
def qLy (f:Nat→UInt64):Nat→Nat
 |0=>0
 |k+1=>qLy f k+(f k).toNat
def qHq (x:UInt64):(qBq x).val=x.toNat:=by unfold qBq N4.val;simp
theorem qTj (f:Nat→UInt64):∀n,qLy f n≤n*2^64
 |0=>Nat.le_refl _
 |k+1=>by have:=qTj f k;have:=(f k).toNat_lt;simp only[qLy];omega
theorem qNA (f:Nat→UInt64):∀n,n≤9223372036854775807→(qBM f n).val=qLy f n
 |0,_=>rfl
 |k+1,h=>by
  have h1:=qNA f k (by omega)
  have h2:=qXs (qBM f k) (qBq (f k));have h3:=qTj f k;have h4:=(f k).toNat_lt;rw[h1,qHq] at h2;show(qVh (qBM f k) (qBq (f k))).val=qLy f k+(f k).toNat;have h5:k*2^64≤9223372036854775807*2^64:=Nat.mul_le_mul_right _ (by omega)
  cases h6:qR1 (qBM f k) (qBq (f k)) with
  |false=>rw[h6] at h2;simpa using h2
  |true=>rw[h6] at h2;simp at h2;omega
def qGM {n:Nat} {f:Nat→UInt64}:qJJ n f↔n≤40∧qLy f n<2^63:=by
 unfold qJJ;refine and_congr_right fun h=>?_
 rw[qIX,qNA f n (by omega)]
 constructor
 ·intro h1
  have h2:=qIW (qLy f n);exact Nat.lt_of_lt_of_le h2 (Nat.pow_le_pow_right (by decide) h1)
 ·exact qB1
end Go.Eng
end
section
namespace Go.Proofs.YtmdpendnbkajdaaGreatDoor
open Go Go.Eng
def qDK:qPQ TP 5 (u8 0) 1:=qPZ (by kernel_rfl) rfl
abbrev jCu (a:Nat→UInt8) (b c:Nat):=qAT ((a ((b-1)-c)).toUInt64) ((c%8)*8)
abbrev jCh (a:N4) (b:Nat):=qAa (a.get (b/8)) ((b%8)*8)
def v1M(n1:Nat):=ptr n1 0
def v3Z(n2:Nat):=vS (some ⟨n2,0,none⟩) 32 32
def qF2 (a:N4) (n1:Nat) (n2:Nat) (x1:Nat×(Nat→UInt8)):St:=⟨[(1,.v (v1M n1)),(3,.v (v3Z n2)),(6,.v (nat x1.1))],[(0,some ⟨n1,true,0,(qTi a)⟩),(1,some ⟨n2,true,0,(qAd 32 (fun k=>u8 (x1.2 k)))⟩)],2⟩
def qDh (a:N4) (n1:Nat) (n2:Nat) (x1:Nat×(Nat→UInt8)):Prop:=(x1.1≤32)∧(∀k,x1.2 k=if k<32∧32≤k+x1.1 then UInt8.ofNat (dig a.val (31-k)) else 0)
def qDL (a:N4) (n1:Nat) (n2:Nat) (x1:Nat×(Nat→UInt8)):Nat:=32-x1.1
def w60(a:Nat):=@qCU TP 3 3 (.tmp a) (.const (.int .i64 8))
def w70(a b:Nat):=@qAU TP 79 23 (.tmp a) (.tmp b) 1 4 (by kernel_rfl) (by kernel_rfl)
def w80(a:Nat):=@qL2 TP 3 3 (.tmp a) (.const (.int .i64 8))
def w90(a:Nat):=@qCV TP 3 3 (.tmp a) (.const (.int .i64 8))
def wa0(a b:Nat):=@qAk TP 29 5 (.tmp a) (.tmp b) 1 (by kernel_rfl) (by kernel_rfl)
def wb0(a:Nat):=@qAe TP 3 3 (.tmp a) (.const (.int .i64 1))
def v0R:=@rfl Nat 1
def v2J:=qAd 32 (fun k=>u8 ((fun _=>0) k))
def qSq (a:N4):qBI TP 81 [(qIb a)] [] 1 (fun ns=>(Value.slice (some ⟨(ns.getD 0 0),0,none⟩) 32 32)) (fun ns=>[some ⟨(ns.getD 0 0),true,0,(qAd 32 (fun k=>u8 (qA8 a k)))⟩]):=
 qAl mix Tryz.func81 rfl rfl 400 (.regn v0T (more (fun n1=>fun _=>(.regn (rg [(.oth [] 1 1 (fun ns=>vS (some ⟨ns.getD 0 0,0,none⟩) 32 32) (fun ns=>[some ⟨ns.getD 0 0,true,0,v2J⟩])),.g]) (more (fun n2=>fun _=>(.reg (rg [.g]) (.cast 0 (qTi a) (.inv [1,3,6] [0,1] 2 (qDh a n1 n2) (qF2 a n1 n2) (qDL a n1 n2) ((0,(fun _=>0)):Nat×(Nat→UInt8)) (fun(x1:Nat×(Nat→UInt8))=>(.reg (rg [(aB (decide (x1.1<32)))]) (.br (.reg v00 (.reg (rg [.g,.g,(aN (31-x1.1)),.g,(aN (x1.1/8)),(.as (ptr n1 (0+(x1.1/8)*1))),(.ld 0 (.tab (x1.1/8) 0)),.g,(aN (x1.1%8)),(aN ((x1.1%8)*8)),(aQ (jCh a x1.1)),(.as (u8 ((jCh a x1.1).toUInt8))),(.as (ptr n2 (0+(31-x1.1)*1))),(.stc 1 (.tab (31-x1.1) 0) (qAd 32 (fun k=>u8 (upd x1.2 (31-x1.1) ((jCh a x1.1).toUInt8) k))))]) (.reg (rg [(aN (x1.1+1)),.g]) .done))) v5T)))))))))))) [] [1] rfl
  (Eq.mp (by kernel_rfl) (fun(n1:Nat)=>aI kV2 (fun(n2:Nat)=>aI (aI (aT (jBz (P:=TP) (t:=29) (e:=5) (by kernel_rfl) qDK 32 (show(1:Int)*((32:Nat):Int)≤281474976710656∧32≤9223372036854775807 from by omega))) kV1) (aI kV1 (aI (qUT a) (aI (show(qDh a n1 n2) ((0,(fun _=>0)):Nat×(Nat→UInt8)) from(show(0≤32)∧(∀k,(fun _=>0) k=if k<32∧32≤k+0 then UInt8.ofNat (dig a.val (31-k)) else 0) from by exact⟨by omega,fun k=>by rw[if_neg (by omega)]⟩)) (aI (@rfl St ((qF2 a n1 n2) ((0,(fun _=>0)):Nat×(Nat→UInt8)))) (fun(x1:Nat×(Nat→UInt8)) (hx1:(qDh a n1 n2) x1)=>have B0:x1.1≤32:=hx1.1;have B1:∀k,x1.2 k=if k<32∧32≤k+x1.1 then UInt8.ofNat (dig a.val (31-k)) else 0:=hx1.2;aI (aI (aT (@qAC TP 3 3 (.tmp 6) (.const (.int .i64 32))  x1.1 32)) tV) (aT (aI (fun(h1:(decide (x1.1<32))=true)=>have f2:=(oT h1);aI kV2 (aI (sK2 (aI (aT (@qAD TP 3 3 (.const (.int .i64 31)) (.tmp 10)  31 x1.1 (show x1.1≤31∧31-x1.1≤9223372036854775807 from by omega))) (sk (aI (aT (@w60 12  x1.1 8 (show 0<8∧x1.1≤9223372036854775807 from by omega))) (aI (aT (@w70 1 13 n1 0 (x1.1/8) (show x1.1/8<4 from by omega))) (aI (aT (aI (show x1.1/8<4 from by omega) (@rfl Value (ptr n1 (0+(x1.1/8)*1))))) (sk (aI (aT (@w80 16  x1.1 8 (show 0<8 from by omega))) (aI (aT (@w90 17  (x1.1%8) 8 (show(x1.1%8)*8≤9223372036854775807 from by omega))) (aI (aT (@qBa TP 23 3 (.tmp 15) (.tmp 18) (a.get (x1.1/8)) .i64 ((x1.1%8)*8))) (aI (aT (@qAN TP 23 5 (.tmp 19) (by kernel_rfl) (by kernel_rfl) (jCh a x1.1))) (aI (aT (@wa0 9 11 n2 0 32 32 (31-x1.1) (show 31-x1.1<32 from by omega))) (aI (aT (aI (show 31-x1.1<32 from by omega) (aI (@rfl Value (ptr n2 (0+(31-x1.1)*1))) (qCo 32 u8 x1.2 (31-x1.1) ((jCh a x1.1).toUInt8))))) tV))))))))))))) (aI (aI (aT (@wb0 6  x1.1 1 (show x1.1+1≤9223372036854775807 from by omega))) kV1) ((rnd (qDh a n1 n2) (qF2 a n1 n2) (qDL a n1 n2) x1 ((x1.1+1,upd x1.2 (31-x1.1) ((jCh a x1.1).toUInt8)):Nat×(Nat→UInt8)) (show(((x1.1+1)≤32)∧(∀k,(upd x1.2 (31-x1.1) ((qAa (a.get (x1.1/8)) ((x1.1%8)*8)).toUInt8)) k=if k<32∧32≤k+(x1.1+1) then UInt8.ofNat (dig a.val (31-k)) else 0))∧(32-(x1.1+1))<(32-x1.1) from by exact⟨⟨by omega,qSi (by omega) B1⟩,by omega⟩)))))) (fun(h1:(decide (x1.1<32))=false)=>have f2:=(oF h1);aI kV2 (aT (eX (fun(ns:List Nat)=>ns.length=1∧((v3Z n2):Value)=(fun ns=>(vS (some ⟨(g0 ns),0,none⟩) 32 32)) ns∧([some ⟨n2,true,0,(qAd 32 (fun k=>u8 (x1.2 k)))⟩]:List (Option Blk))=(fun ns=>[some ⟨(g0 ns),true,0,(qAd 32 (fun k=>u8 (qA8 a k)))⟩]) ns) [n2] (aI v0R (aI (@rfl Value (v3Z n2)) ((show([some ⟨n2,true,0,(qAd 32 (fun k=>u8 (x1.2 k)))⟩]:List (Option Blk))=[some ⟨n2,true,0,(qAd 32 (fun k=>u8 (qA8 a k)))⟩] from by have e:x1.2=qA8 a:=qTZ (by omega) B1;rw[e]<;>rfl)))))))))))))))))
def v1q(n:Nat)(f:Nat→UInt8):=qAd n (fun k=>u8 (f k))
def qJU (b:Nat) (o:Nat) (n:Nat) (c:Nat) (f:Nat→UInt8) (n1:Nat) (n2:Nat) (x1:Nat×N4):St:=⟨[(0,.v (vS (some ⟨b,o,none⟩) n c)),(2,.v (v1M n1)),(4,.v (ptr n2 0)),(11,.v (nat n)),(12,.v (nat x1.1))],[(0,some ⟨b,false,o,(v1q n f)⟩),(1,some ⟨n1,true,0,(.lit [(u64 0),(u64 0),(u64 0),(u64 0)])⟩),(2,some ⟨n2,true,0,(qTi x1.2)⟩)],3⟩
def qFM (b:Nat) (o:Nat) (n:Nat) (c:Nat) (f:Nat→UInt8) (n1:Nat) (n2:Nat) (x1:Nat×N4):Prop:=(x1.1≤n)∧((x1.2).val=beN f n x1.1)
def qFX (b:Nat) (o:Nat) (n:Nat) (c:Nat) (f:Nat→UInt8) (n1:Nat) (n2:Nat) (x1:Nat×N4):Nat:=n-x1.1
def wc0(a:Nat):=@qAo TP 29 5 (.tmp a) (by kernel_rfl)
def v0b:=@rfl Nat 0
def v15:OpH:=.st 1 (.lit 0)
def v2T:=N4.mk 0 0 0 0
def v6k(n1:Nat):=aI (v0I n1) kV1
def jB0 (b o n c:Nat) (f:Nat→UInt8) (hn:n≤9223372036854775807):qBI TP 78 [(Value.slice (some ⟨b,o,none⟩) n c)] [⟨b,false,o,(qAd n (fun k=>u8 (f k)))⟩] 0 (fun _=>Value.tuple #[qIb (ofN f n),int (ofE n)]) (fun _=>[some ⟨b,false,o,(qAd n (fun k=>u8 (f k)))⟩]):=
 qAl mix Tryz.func78 rfl rfl 400 (.regn v0T (more (fun n1=>fun _=>(.reg (rg [.g,(aN n),(aB (decide (32<n)))]) (.br (.reg (rg [.g,v15,.g]) .done) (.regn v1f (more (fun n2=>fun _=>(.reg (rg [.g,(aN n),.g]) (.cast 2 (qTi v2T) (.inv [0,2,4,11,12] [0,1,2] 3 (qFM b o n c f n1 n2) (qJU b o n c f n1 n2) (qFX b o n c f n1 n2) ((0,v2T):Nat×N4) (fun(x1:Nat×N4)=>(.reg (rg [(aB (decide (x1.1<n)))]) (.br (.reg v00 (.reg (rg [.g,(aN (x1.1/8)),(.as (ptr n2 (0+(x1.1/8)*1))),(.ld 2 (.tab (x1.1/8) 0)),.g,.g,(aN n),(aN (n-1)),.g,(aN ((n-1)-x1.1)),(.as (ptr b (o+((n-1)-x1.1)*1))),(.ld 0 (.tab ((n-1)-x1.1) 0)),(aQ ((f ((n-1)-x1.1)).toUInt64)),.g,(aN (x1.1%8)),(aN ((x1.1%8)*8)),(aQ (jCu f n x1.1)),(aQ ((x1.2.get (x1.1/8))|||(jCu f n x1.1))),(.as (ptr n2 (0+(x1.1/8)*1))),(.stc 2 (.tab (x1.1/8) 0) (qTi (x1.2.set (x1.1/8) ((x1.2.get (x1.1/8))|||(jCu f n x1.1)))))]) (.reg (rg [(aN (x1.1+1)),.g]) .done))) (.cast 2 (jC6 x1.2) (.reg (rg [v1X,v15,.g]) .done)))))))))))))))) [(1,0)] [] rfl
  (Eq.mp (by kernel_rfl) (fun(n1:Nat)=>aI kV2 (aI (sk (aI (aT (@wc0 6 (some ⟨b,o,none⟩) n c)) (aI (aT (@qBe TP 3 3 (.tmp 7) (.const (.int .i64 32))  n 32)) tV))) (aT (aI (fun(h1:(decide (32<n))=true)=>have f1:=(oT h1);aI (sk (v6k n1)) (aI (v0z n1) (eX (fun(ns:List Nat)=>ns.length=0∧((vT #[(Value.agg #[(u64 0),(u64 0),(u64 0),(u64 0)]),(int 2)]):Value)=(fun _=>vT #[qIb (ofN f n),int (ofE n)]) ns∧([some ⟨b,false,o,(v1q n f)⟩]:List (Option Blk))=(fun _=>[some ⟨b,false,o,(v1q n f)⟩]) ns) [] (aI v0b (aI ((show(vT #[(Value.agg #[(u64 0),(u64 0),(u64 0),(u64 0)]),(int 2)])=vT #[qIb (ofN f n),int (ofE n)] from by rw[ofN,ofE,h1]<;>rfl)) (@rfl (List (Option Blk)) [some ⟨b,false,o,(v1q n f)⟩])))))) (fun(h1:(decide (32<n))=false)=>have f1:=(oF h1);fun(n2:Nat)=>aI kV1 (aI (sk (aI (aT (@wc0 10 (some ⟨b,o,none⟩) n c)) kV1)) (aI (qUT v2T) (aI (show(0≤n)∧(((N4.mk 0 0 0 0)).val=beN f n 0) from by exact⟨by omega,rfl⟩) (aI (@rfl St ((qJU b o n c f n1 n2) ((0,v2T):Nat×N4))) (fun(x1:Nat×N4) (hx1:(qFM b o n c f n1 n2) x1)=>have B0:x1.1≤n:=hx1.1;have B1:(x1.2).val=beN f n x1.1:=hx1.2;aI (aI (aT (@qAC TP 3 3 (.tmp 12) (.tmp 11)  x1.1 n)) tV) (aT (aI (fun(h2:(decide (x1.1<n))=true)=>have f4:=(oT h2);aI kV2 (aI (sk (aI (aT (@w60 15  x1.1 8 (show 0<8∧x1.1≤9223372036854775807 from by omega))) (aI (aT (@w70 4 16 n2 0 (x1.1/8) (show x1.1/8<4 from by omega))) (aI (aT (aI (show x1.1/8<4 from by omega) (@rfl Value (ptr n2 (0+(x1.1/8)*1))))) (sK2 (aI (aT (@wc0 20 (some ⟨b,o,none⟩) n c)) (aI (aT (@qAD TP 3 3 (.tmp 21) (.const (.int .i64 1))  n 1 (show 1≤n∧n-1≤9223372036854775807 from by omega))) (sk (aI (aT (@qAD TP 3 3 (.tmp 22) (.tmp 23)  (n-1) x1.1 (show x1.1≤(n-1)∧(n-1)-x1.1≤9223372036854775807 from by omega))) (aI (aT (@wa0 19 24 b o n c ((n-1)-x1.1) (show(n-1)-x1.1<n from by omega))) (aI (aT (aI (show(n-1)-x1.1<n from by omega) (@rfl Value (ptr b (o+((n-1)-x1.1)*1))))) (aI (aT (@qPD TP 5 23 (.tmp 26) (by kernel_rfl) (by kernel_rfl) (f ((n-1)-x1.1)))) (sk (aI (aT (@w80 28  x1.1 8 (show 0<8 from by omega))) (aI (aT (@w90 29  (x1.1%8) 8 (show(x1.1%8)*8≤9223372036854775807 from by omega))) (aI (aT (@qKD TP 23 3 (.tmp 27) (.tmp 30) ((f ((n-1)-x1.1)).toUInt64) .i64 ((x1.1%8)*8))) (aI (aT (@jBi TP 23 23 (.tmp 18) (.tmp 31) (x1.2.get (x1.1/8)) (jCu f n x1.1))) (aI (aT (@w70 4 16 n2 0 (x1.1/8) (show x1.1/8<4 from by omega))) (aI (aT (aI (show x1.1/8<4 from by omega) (aI (@rfl Value (ptr n2 (0+(x1.1/8)*1))) (qSc x1.2 (x1.1/8) ((x1.2.get (x1.1/8))|||(jCu f n x1.1)) (show x1.1/8<4 from by omega))))) tV))))))))))))))))))) (aI (aI (aT (@wb0 12  x1.1 1 (show x1.1+1≤9223372036854775807 from by omega))) kV1) ((rnd (qFM b o n c f n1 n2) (qJU b o n c f n1 n2) (qFX b o n c f n1 n2) x1 ((x1.1+1,x1.2.set (x1.1/8) ((x1.2.get (x1.1/8))|||(jCu f n x1.1))):Nat×N4) (show(((x1.1+1)≤n)∧(((x1.2.set (x1.1/8) ((x1.2.get (x1.1/8))|||(qAT ((f ((n-1)-x1.1)).toUInt64) ((x1.1%8)*8))))).val=beN f n (x1.1+1)))∧(n-(x1.1+1))<(n-x1.1) from by exact⟨⟨by omega,jAy x1.2 f n x1.1 (by omega) B1⟩,by omega⟩)))))) (fun(h2:(decide (x1.1<n))=false)=>have f4:=(oF h2);aI (qZW x1.2) (aI (aI (v1t n2) (v6k n1)) (aI (v0z n1) (eX (fun(ns:List Nat)=>ns.length=0∧((vT #[(qIb x1.2),(int 0)]):Value)=(fun _=>vT #[qIb (ofN f n),int (ofE n)]) ns∧([some ⟨b,false,o,(v1q n f)⟩]:List (Option Blk))=(fun _=>[some ⟨b,false,o,(v1q n f)⟩]) ns) [] (aI v0b (aI ((show(vT #[(qIb x1.2),(int 0)])=vT #[qIb (ofN f n),int (ofE n)] from by have e:x1.1=n:=(by omega);rw[e] at B1;rw[ofN,ofE,h1];simp only[];rw[←jBK B1]<;>rfl)) (@rfl (List (Option Blk)) [some ⟨b,false,o,(v1q n f)⟩]))))))))))))))))))))
def v4q:=rg [.g,(aJ 0),.g]
def jDJ (ao:Option Addr) (c:Nat):qDt TP 78 [(Value.slice ao 0 c)] (Value.tuple #[qIb ⟨0,0,0,0⟩,int 0]):=
 qAg mix Tryz.func78 rfl rfl 400 (.regn v0T (more (fun n1=>fun _=>(.reg v4q (.no (.regn v1f (more (fun n2=>fun _=>(.reg v4q (.unroll (.reg (rg [.g]) (.no (.reg (rg [v0H,v19,.g]) .done))))))))))))) [(0,0)]
  (Eq.mp (by kernel_rfl) (fun(n1:Nat)=>aI kV2 (aI (sk (aI (aT (@wc0 6 ao 0 c)) kV1)) (aT (aI v05 (fun(n2:Nat)=>aI kV1 (aI (sk (aI (aT (@wc0 10 ao 0 c)) kV1)) (aI kV1 (aT (aI v05 (aI (aI (v1t n2) (v6k n1)) (aI (v0z n1) ((show(vT #[(Value.agg #[(u64 0),(u64 0),(u64 0),(u64 0)]),(int 0)])=vT #[qIb ⟨0,0,0,0⟩,int 0] from by kernel_rfl))))))))))))))
end Go.Proofs.YtmdpendnbkajdaaGreatDoor
end
section
namespace Go.Eng
section
open Go.ChangeShapes Go.WideShapes Go.ChangeAt Go.RowKit Go.Deep
variable {H:Type} {enc:TypeId×Value→H} {P:Program}
end
end Go.Eng
end
