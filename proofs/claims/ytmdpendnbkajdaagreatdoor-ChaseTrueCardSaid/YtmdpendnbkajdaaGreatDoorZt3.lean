/- What the law's proof needs, part 3. -/
import Derived.Test.YtmdpendnbkajdaaGreatDoorZt2
import Derived.Test.YtmdpendnbkajdaaGreatDoorRows
import Derived.ChangeSame
import Derived.Maps.RangeRun
import Derived.Deep.AppendSrc
import Derived.Lib.ConvBytes
import Derived.ChangeArms
import Derived.OrdersIn
import Derived.RangeFuncNested
set_option linter.defProp false
set_option linter.unusedVariables false
set_option linter.unusedSimpArgs false
set_option maxRecDepth 100000
set_option maxHeartbeats 1000000
noncomputable section
section
namespace Go.Proofs.YtmdpendnbkajdaaGreatDoor
open Go Go.Eng
def wm0(a b:Nat):=@qBt TP 126 121 (.tmp a) (.tmp b)
def wn0(a b:Nat):=@qBh TP 126 121 (.tmp a) (.tmp b)
def wo0(a b:Nat):=@qDb TP 126 126 (.tmp a) (.tmp b)
def v0P:=rg [.g,.g,.g,.g]
def jDr (x:UInt32):qDt TP 109 [(u32 x),(int (-2))] (u32 (rot x 2)):=
 qAg mix Tryz.func109 rfl rfl 400 (.reg (rg [.g]) (.reg v0P (.reg (rg [.g,.g,(aU (qAR x 30)),.g,.g,.g,(aU (qAF x 2)),(aU ((qAR x 30)|||(qAF x 2))),.g]) .done))) []
  (Eq.mp (by kernel_rfl) (aI kV1 (aI kV4 (aI (sK2 (aI (aT (@wm0 9 10 x .u64 30)) (sK3 (aI (aT (@wn0 12 14 x .u64 2)) (aI (aT (@wo0 11 15 (qAR x 30) (qAF x 2))) kV1))))) (aT (@rfl Value (u32 (rot x 2))))))))
def jDK (x:UInt32):qDt TP 109 [(u32 x),(int (-6))] (u32 (rot x 6)):=
 qAg mix Tryz.func109 rfl rfl 400 (.reg (rg [.g]) (.reg v0P (.reg (rg [.g,.g,(aU (qAR x 26)),.g,.g,.g,(aU (qAF x 6)),(aU ((qAR x 26)|||(qAF x 6))),.g]) .done))) []
  (Eq.mp (by kernel_rfl) (aI kV1 (aI kV4 (aI (sK2 (aI (aT (@wm0 9 10 x .u64 26)) (sK3 (aI (aT (@wn0 12 14 x .u64 6)) (aI (aT (@wo0 11 15 (qAR x 26) (qAF x 6))) kV1))))) (aT (@rfl Value (u32 (rot x 6))))))))
def jEi (x:UInt32):qDt TP 109 [(u32 x),(int (-7))] (u32 (rot x 7)):=
 qAg mix Tryz.func109 rfl rfl 400 (.reg (rg [.g]) (.reg v0P (.reg (rg [.g,.g,(aU (qAR x 25)),.g,.g,.g,(aU (qAF x 7)),(aU ((qAR x 25)|||(qAF x 7))),.g]) .done))) []
  (Eq.mp (by kernel_rfl) (aI kV1 (aI kV4 (aI (sK2 (aI (aT (@wm0 9 10 x .u64 25)) (sK3 (aI (aT (@wn0 12 14 x .u64 7)) (aI (aT (@wo0 11 15 (qAR x 25) (qAF x 7))) kV1))))) (aT (@rfl Value (u32 (rot x 7))))))))
def jAC (x:UInt32):qDt TP 109 [(u32 x),(int (-11))] (u32 (rot x 11)):=
 qAg mix Tryz.func109 rfl rfl 400 (.reg (rg [.g]) (.reg v0P (.reg (rg [.g,.g,(aU (qAR x 21)),.g,.g,.g,(aU (qAF x 11)),(aU ((qAR x 21)|||(qAF x 11))),.g]) .done))) []
  (Eq.mp (by kernel_rfl) (aI kV1 (aI kV4 (aI (sK2 (aI (aT (@wm0 9 10 x .u64 21)) (sK3 (aI (aT (@wn0 12 14 x .u64 11)) (aI (aT (@wo0 11 15 (qAR x 21) (qAF x 11))) kV1))))) (aT (@rfl Value (u32 (rot x 11))))))))
def qZ3 (x:UInt32):qDt TP 109 [(u32 x),(int (-13))] (u32 (rot x 13)):=
 qAg mix Tryz.func109 rfl rfl 400 (.reg (rg [.g]) (.reg v0P (.reg (rg [.g,.g,(aU (qAR x 19)),.g,.g,.g,(aU (qAF x 13)),(aU ((qAR x 19)|||(qAF x 13))),.g]) .done))) []
  (Eq.mp (by kernel_rfl) (aI kV1 (aI kV4 (aI (sK2 (aI (aT (@wm0 9 10 x .u64 19)) (sK3 (aI (aT (@wn0 12 14 x .u64 13)) (aI (aT (@wo0 11 15 (qAR x 19) (qAF x 13))) kV1))))) (aT (@rfl Value (u32 (rot x 13))))))))
def jAV (x:UInt32):qDt TP 109 [(u32 x),(int (-17))] (u32 (rot x 17)):=
 qAg mix Tryz.func109 rfl rfl 400 (.reg (rg [.g]) (.reg v0P (.reg (rg [.g,.g,(aU (qAR x 15)),.g,.g,.g,(aU (qAF x 17)),(aU ((qAR x 15)|||(qAF x 17))),.g]) .done))) []
  (Eq.mp (by kernel_rfl) (aI kV1 (aI kV4 (aI (sK2 (aI (aT (@wm0 9 10 x .u64 15)) (sK3 (aI (aT (@wn0 12 14 x .u64 17)) (aI (aT (@wo0 11 15 (qAR x 15) (qAF x 17))) kV1))))) (aT (@rfl Value (u32 (rot x 17))))))))
def qZA (x:UInt32):qDt TP 109 [(u32 x),(int (-18))] (u32 (rot x 18)):=
 qAg mix Tryz.func109 rfl rfl 400 (.reg (rg [.g]) (.reg v0P (.reg (rg [.g,.g,(aU (qAR x 14)),.g,.g,.g,(aU (qAF x 18)),(aU ((qAR x 14)|||(qAF x 18))),.g]) .done))) []
  (Eq.mp (by kernel_rfl) (aI kV1 (aI kV4 (aI (sK2 (aI (aT (@wm0 9 10 x .u64 14)) (sK3 (aI (aT (@wn0 12 14 x .u64 18)) (aI (aT (@wo0 11 15 (qAR x 14) (qAF x 18))) kV1))))) (aT (@rfl Value (u32 (rot x 18))))))))
def jA0 (x:UInt32):qDt TP 109 [(u32 x),(int (-19))] (u32 (rot x 19)):=
 qAg mix Tryz.func109 rfl rfl 400 (.reg (rg [.g]) (.reg v0P (.reg (rg [.g,.g,(aU (qAR x 13)),.g,.g,.g,(aU (qAF x 19)),(aU ((qAR x 13)|||(qAF x 19))),.g]) .done))) []
  (Eq.mp (by kernel_rfl) (aI kV1 (aI kV4 (aI (sK2 (aI (aT (@wm0 9 10 x .u64 13)) (sK3 (aI (aT (@wn0 12 14 x .u64 19)) (aI (aT (@wo0 11 15 (qAR x 13) (qAF x 19))) kV1))))) (aT (@rfl Value (u32 (rot x 19))))))))
def qZ7 (x:UInt32):qDt TP 109 [(u32 x),(int (-22))] (u32 (rot x 22)):=
 qAg mix Tryz.func109 rfl rfl 400 (.reg (rg [.g]) (.reg v0P (.reg (rg [.g,.g,(aU (qAR x 10)),.g,.g,.g,(aU (qAF x 22)),(aU ((qAR x 10)|||(qAF x 22))),.g]) .done))) []
  (Eq.mp (by kernel_rfl) (aI kV1 (aI kV4 (aI (sK2 (aI (aT (@wm0 9 10 x .u64 10)) (sK3 (aI (aT (@wn0 12 14 x .u64 22)) (aI (aT (@wo0 11 15 (qAR x 10) (qAF x 22))) kV1))))) (aT (@rfl Value (u32 (rot x 22))))))))
def jAk (x:UInt32):qDt TP 109 [(u32 x),(int (-25))] (u32 (rot x 25)):=
 qAg mix Tryz.func109 rfl rfl 400 (.reg (rg [.g]) (.reg v0P (.reg (rg [.g,.g,(aU (qAR x 7)),.g,.g,.g,(aU (qAF x 25)),(aU ((qAR x 7)|||(qAF x 25))),.g]) .done))) []
  (Eq.mp (by kernel_rfl) (aI kV1 (aI kV4 (aI (sK2 (aI (aT (@wm0 9 10 x .u64 7)) (sK3 (aI (aT (@wn0 12 14 x .u64 25)) (aI (aT (@wo0 11 15 (qAR x 7) (qAF x 25))) kV1))))) (aT (@rfl Value (u32 (rot x 25))))))))
def jAX (x:UInt32):qDt TP 106 [(u32 x),(int 2)] (u32 (rot x 2)):=
 qAg mix Tryz.func106 rfl rfl 400 (.reg (rg [.g]) (.reg (rg [.g,.g,.g,(.call [] 0 0 (fun _=>(u32 (rot x 2))) (fun _=>[])),.g]) .done)) []
  (Eq.mp (by kernel_rfl) (aI kV1 (aI (sK3 (aI (aT (jDr x)) kV1)) (aT (@rfl Value (u32 (rot x 2)))))))
def jBk (x:UInt32):qDt TP 106 [(u32 x),(int 6)] (u32 (rot x 6)):=
 qAg mix Tryz.func106 rfl rfl 400 (.reg (rg [.g]) (.reg (rg [.g,.g,.g,(.call [] 0 0 (fun _=>(u32 (rot x 6))) (fun _=>[])),.g]) .done)) []
  (Eq.mp (by kernel_rfl) (aI kV1 (aI (sK3 (aI (aT (jDK x)) kV1)) (aT (@rfl Value (u32 (rot x 6)))))))
def jAm (x:UInt32):qDt TP 106 [(u32 x),(int 7)] (u32 (rot x 7)):=
 qAg mix Tryz.func106 rfl rfl 400 (.reg (rg [.g]) (.reg (rg [.g,.g,.g,(.call [] 0 0 (fun _=>(u32 (rot x 7))) (fun _=>[])),.g]) .done)) []
  (Eq.mp (by kernel_rfl) (aI kV1 (aI (sK3 (aI (aT (jEi x)) kV1)) (aT (@rfl Value (u32 (rot x 7)))))))
def qWF (x:UInt32):qDt TP 106 [(u32 x),(int 11)] (u32 (rot x 11)):=
 qAg mix Tryz.func106 rfl rfl 400 (.reg (rg [.g]) (.reg (rg [.g,.g,.g,(.call [] 0 0 (fun _=>(u32 (rot x 11))) (fun _=>[])),.g]) .done)) []
  (Eq.mp (by kernel_rfl) (aI kV1 (aI (sK3 (aI (aT (jAC x)) kV1)) (aT (@rfl Value (u32 (rot x 11)))))))
def qX8 (x:UInt32):qDt TP 106 [(u32 x),(int 13)] (u32 (rot x 13)):=
 qAg mix Tryz.func106 rfl rfl 400 (.reg (rg [.g]) (.reg (rg [.g,.g,.g,(.call [] 0 0 (fun _=>(u32 (rot x 13))) (fun _=>[])),.g]) .done)) []
  (Eq.mp (by kernel_rfl) (aI kV1 (aI (sK3 (aI (aT (qZ3 x)) kV1)) (aT (@rfl Value (u32 (rot x 13)))))))
def qXv (x:UInt32):qDt TP 106 [(u32 x),(int 17)] (u32 (rot x 17)):=
 qAg mix Tryz.func106 rfl rfl 400 (.reg (rg [.g]) (.reg (rg [.g,.g,.g,(.call [] 0 0 (fun _=>(u32 (rot x 17))) (fun _=>[])),.g]) .done)) []
  (Eq.mp (by kernel_rfl) (aI kV1 (aI (sK3 (aI (aT (jAV x)) kV1)) (aT (@rfl Value (u32 (rot x 17)))))))
def qWp (x:UInt32):qDt TP 106 [(u32 x),(int 18)] (u32 (rot x 18)):=
 qAg mix Tryz.func106 rfl rfl 400 (.reg (rg [.g]) (.reg (rg [.g,.g,.g,(.call [] 0 0 (fun _=>(u32 (rot x 18))) (fun _=>[])),.g]) .done)) []
  (Eq.mp (by kernel_rfl) (aI kV1 (aI (sK3 (aI (aT (qZA x)) kV1)) (aT (@rfl Value (u32 (rot x 18)))))))
def qYd (x:UInt32):qDt TP 106 [(u32 x),(int 19)] (u32 (rot x 19)):=
 qAg mix Tryz.func106 rfl rfl 400 (.reg (rg [.g]) (.reg (rg [.g,.g,.g,(.call [] 0 0 (fun _=>(u32 (rot x 19))) (fun _=>[])),.g]) .done)) []
  (Eq.mp (by kernel_rfl) (aI kV1 (aI (sK3 (aI (aT (jA0 x)) kV1)) (aT (@rfl Value (u32 (rot x 19)))))))
def qXc (x:UInt32):qDt TP 106 [(u32 x),(int 22)] (u32 (rot x 22)):=
 qAg mix Tryz.func106 rfl rfl 400 (.reg (rg [.g]) (.reg (rg [.g,.g,.g,(.call [] 0 0 (fun _=>(u32 (rot x 22))) (fun _=>[])),.g]) .done)) []
  (Eq.mp (by kernel_rfl) (aI kV1 (aI (sK3 (aI (aT (qZ7 x)) kV1)) (aT (@rfl Value (u32 (rot x 22)))))))
def qYF (x:UInt32):qDt TP 106 [(u32 x),(int 25)] (u32 (rot x 25)):=
 qAg mix Tryz.func106 rfl rfl 400 (.reg (rg [.g]) (.reg (rg [.g,.g,.g,(.call [] 0 0 (fun _=>(u32 (rot x 25))) (fun _=>[])),.g]) .done)) []
  (Eq.mp (by kernel_rfl) (aI kV1 (aI (sK3 (aI (aT (jAk x)) kV1)) (aT (@rfl Value (u32 (rot x 25)))))))
def wp0(a b:Nat):=@qBh TP 126 3 (.tmp a) (.tmp b)
def wq0(a b:Nat):=@qBt TP 126 3 (.tmp a) (.tmp b)
def wr0(a b:Nat):=@qAI TP 126 126 (.tmp a) (.tmp b)
def qXR (x:UInt32):qDt TP 96 [(u32 x),(int 2)] (u32 (rot x 2)):=
 qAg mix Tryz.func96 rfl rfl 400 (.reg (rg [.g]) (.reg (rg [.g,.g,(aU (qAF x 2)),.g,.g,.g,(aU (qAR x 30)),(aU ((qAF x 2)+(qAR x 30))),.g]) .done)) []
  (Eq.mp (by kernel_rfl) (aI kV1 (aI (sK2 (aI (aT (@wp0 5 6 x .i64 2)) (sK3 (aI (aT (@wq0 8 10 x .i64 30)) (aI (aT (@wr0 7 11 (qAF x 2) (qAR x 30))) kV1))))) (aT ((congrArg u32 (qFn (x:=x) (n:=2) (by decide))))))))
def qWP (x:UInt32):qDt TP 96 [(u32 x),(int 6)] (u32 (rot x 6)):=
 qAg mix Tryz.func96 rfl rfl 400 (.reg (rg [.g]) (.reg (rg [.g,.g,(aU (qAF x 6)),.g,.g,.g,(aU (qAR x 26)),(aU ((qAF x 6)+(qAR x 26))),.g]) .done)) []
  (Eq.mp (by kernel_rfl) (aI kV1 (aI (sK2 (aI (aT (@wp0 5 6 x .i64 6)) (sK3 (aI (aT (@wq0 8 10 x .i64 26)) (aI (aT (@wr0 7 11 (qAF x 6) (qAR x 26))) kV1))))) (aT ((congrArg u32 (qFn (x:=x) (n:=6) (by decide))))))))
def qXm (x:UInt32):qDt TP 96 [(u32 x),(int 7)] (u32 (rot x 7)):=
 qAg mix Tryz.func96 rfl rfl 400 (.reg (rg [.g]) (.reg (rg [.g,.g,(aU (qAF x 7)),.g,.g,.g,(aU (qAR x 25)),(aU ((qAF x 7)+(qAR x 25))),.g]) .done)) []
  (Eq.mp (by kernel_rfl) (aI kV1 (aI (sK2 (aI (aT (@wp0 5 6 x .i64 7)) (sK3 (aI (aT (@wq0 8 10 x .i64 25)) (aI (aT (@wr0 7 11 (qAF x 7) (qAR x 25))) kV1))))) (aT ((congrArg u32 (qFn (x:=x) (n:=7) (by decide))))))))
def qVs (x:UInt32):qDt TP 96 [(u32 x),(int 11)] (u32 (rot x 11)):=
 qAg mix Tryz.func96 rfl rfl 400 (.reg (rg [.g]) (.reg (rg [.g,.g,(aU (qAF x 11)),.g,.g,.g,(aU (qAR x 21)),(aU ((qAF x 11)+(qAR x 21))),.g]) .done)) []
  (Eq.mp (by kernel_rfl) (aI kV1 (aI (sK2 (aI (aT (@wp0 5 6 x .i64 11)) (sK3 (aI (aT (@wq0 8 10 x .i64 21)) (aI (aT (@wr0 7 11 (qAF x 11) (qAR x 21))) kV1))))) (aT ((congrArg u32 (qFn (x:=x) (n:=11) (by decide))))))))
def qVG (x:UInt32):qDt TP 96 [(u32 x),(int 13)] (u32 (rot x 13)):=
 qAg mix Tryz.func96 rfl rfl 400 (.reg (rg [.g]) (.reg (rg [.g,.g,(aU (qAF x 13)),.g,.g,.g,(aU (qAR x 19)),(aU ((qAF x 13)+(qAR x 19))),.g]) .done)) []
  (Eq.mp (by kernel_rfl) (aI kV1 (aI (sK2 (aI (aT (@wp0 5 6 x .i64 13)) (sK3 (aI (aT (@wq0 8 10 x .i64 19)) (aI (aT (@wr0 7 11 (qAF x 13) (qAR x 19))) kV1))))) (aT ((congrArg u32 (qFn (x:=x) (n:=13) (by decide))))))))
def qTT (x:UInt32):qDt TP 96 [(u32 x),(int 17)] (u32 (rot x 17)):=
 qAg mix Tryz.func96 rfl rfl 400 (.reg (rg [.g]) (.reg (rg [.g,.g,(aU (qAF x 17)),.g,.g,.g,(aU (qAR x 15)),(aU ((qAF x 17)+(qAR x 15))),.g]) .done)) []
  (Eq.mp (by kernel_rfl) (aI kV1 (aI (sK2 (aI (aT (@wp0 5 6 x .i64 17)) (sK3 (aI (aT (@wq0 8 10 x .i64 15)) (aI (aT (@wr0 7 11 (qAF x 17) (qAR x 15))) kV1))))) (aT ((congrArg u32 (qFn (x:=x) (n:=17) (by decide))))))))
def qUd (x:UInt32):qDt TP 96 [(u32 x),(int 18)] (u32 (rot x 18)):=
 qAg mix Tryz.func96 rfl rfl 400 (.reg (rg [.g]) (.reg (rg [.g,.g,(aU (qAF x 18)),.g,.g,.g,(aU (qAR x 14)),(aU ((qAF x 18)+(qAR x 14))),.g]) .done)) []
  (Eq.mp (by kernel_rfl) (aI kV1 (aI (sK2 (aI (aT (@wp0 5 6 x .i64 18)) (sK3 (aI (aT (@wq0 8 10 x .i64 14)) (aI (aT (@wr0 7 11 (qAF x 18) (qAR x 14))) kV1))))) (aT ((congrArg u32 (qFn (x:=x) (n:=18) (by decide))))))))
def qUG (x:UInt32):qDt TP 96 [(u32 x),(int 19)] (u32 (rot x 19)):=
 qAg mix Tryz.func96 rfl rfl 400 (.reg (rg [.g]) (.reg (rg [.g,.g,(aU (qAF x 19)),.g,.g,.g,(aU (qAR x 13)),(aU ((qAF x 19)+(qAR x 13))),.g]) .done)) []
  (Eq.mp (by kernel_rfl) (aI kV1 (aI (sK2 (aI (aT (@wp0 5 6 x .i64 19)) (sK3 (aI (aT (@wq0 8 10 x .i64 13)) (aI (aT (@wr0 7 11 (qAF x 19) (qAR x 13))) kV1))))) (aT ((congrArg u32 (qFn (x:=x) (n:=19) (by decide))))))))
def qVx (x:UInt32):qDt TP 96 [(u32 x),(int 22)] (u32 (rot x 22)):=
 qAg mix Tryz.func96 rfl rfl 400 (.reg (rg [.g]) (.reg (rg [.g,.g,(aU (qAF x 22)),.g,.g,.g,(aU (qAR x 10)),(aU ((qAF x 22)+(qAR x 10))),.g]) .done)) []
  (Eq.mp (by kernel_rfl) (aI kV1 (aI (sK2 (aI (aT (@wp0 5 6 x .i64 22)) (sK3 (aI (aT (@wq0 8 10 x .i64 10)) (aI (aT (@wr0 7 11 (qAF x 22) (qAR x 10))) kV1))))) (aT ((congrArg u32 (qFn (x:=x) (n:=22) (by decide))))))))
def qWa (x:UInt32):qDt TP 96 [(u32 x),(int 25)] (u32 (rot x 25)):=
 qAg mix Tryz.func96 rfl rfl 400 (.reg (rg [.g]) (.reg (rg [.g,.g,(aU (qAF x 25)),.g,.g,.g,(aU (qAR x 7)),(aU ((qAF x 25)+(qAR x 7))),.g]) .done)) []
  (Eq.mp (by kernel_rfl) (aI kV1 (aI (sK2 (aI (aT (@wp0 5 6 x .i64 25)) (sK3 (aI (aT (@wq0 8 10 x .i64 7)) (aI (aT (@wr0 7 11 (qAF x 25) (qAR x 7))) kV1))))) (aT ((congrArg u32 (qFn (x:=x) (n:=25) (by decide))))))))
def ws0(a b:Nat):=@qBA TP 126 126 (.tmp a) (.tmp b)
def wt0(a b:Nat):=@qDO TP 126 126 (.tmp a) (.tmp b)
def v0t(s:W8):=s.h+(((rot s.e 6)^^^(rot s.e 11))^^^(rot s.e 25))
def v4r(n2:Nat):=aI (@rfl Value (ptr n2 0)) tV
def v4C(s:W8):=s.e&&&s.f
def v4D(s:W8):=rot s.a 13
def v4Q:=rg [.new,.new]
def v5h(s:W8):=rot s.a 2
def v5i(s:W8):=s.a&&&s.b
def v5j(s:W8):=s.a&&&s.c
def v5q(s:W8):=rot s.a 22
def qSN (s:W8) (add:UInt32):qDt TP 98 [(Value.agg #[(u32 s.a),(u32 s.b),(u32 s.c),(u32 s.d),(u32 s.e),(u32 s.f),(u32 s.g),(u32 s.h)]),(u32 add)] (w8V (jEO s add)):=
 qAg mix Tryz.func98 rfl rfl 400 (.regn v4Q (m2 fun n1 n2=>(.reg (rg [.g,v0j,.g,v0o,.g,v1p,.g,v1W,.g,(.ld 0 (.lit 4)),.g,(.ld 0 (.lit 5)),.g,(.ld 0 (.lit 6)),.g,(.ld 0 (.lit 7)),.g,.g,.g,.g,.g,.g,.g,.g]) (.reg (rg [.g,.g,(.call [] 0 0 (fun _=>(u32 (rot s.e 6))) (fun _=>[])),.g,(.call [] 0 0 (fun _=>(u32 (rot s.e 11))) (fun _=>[])),(aU ((rot s.e 6)^^^(rot s.e 11))),.g,(.call [] 0 0 (fun _=>(u32 (rot s.e 25))) (fun _=>[])),(aU (((rot s.e 6)^^^(rot s.e 11))^^^(rot s.e 25))),(aU (v0t s)),.g,.g,(aU (v4C s)),.g,(aU (~~~s.e)),.g,(aU ((~~~s.e)&&&s.g)),(aU ((v4C s)^^^((~~~s.e)&&&s.g))),(aU ((v0t s)+((v4C s)^^^((~~~s.e)&&&s.g)))),.g,(aU (((v0t s)+((v4C s)^^^((~~~s.e)&&&s.g)))+add)),.g]) (.reg (rg [.g,(.call [] 0 0 (fun _=>(u32 (v5h s))) (fun _=>[])),.g,(.call [] 0 0 (fun _=>(u32 (v4D s))) (fun _=>[])),(aU ((v5h s)^^^(v4D s))),.g,(.call [] 0 0 (fun _=>(u32 (v5q s))) (fun _=>[])),(aU (((v5h s)^^^(v4D s))^^^(v5q s))),.g,.g,(aU (v5i s)),.g,.g,(aU (v5j s)),(aU ((v5i s)^^^(v5j s))),.g,.g,(aU (s.b&&&s.c)),(aU (((v5i s)^^^(v5j s))^^^(s.b&&&s.c))),(aU ((((v5h s)^^^(v4D s))^^^(v5q s))+(((v5i s)^^^(v5j s))^^^(s.b&&&s.c)))),.g]) (.reg (rg [.g,.g,(aU ((((v0t s)+((v4C s)^^^((~~~s.e)&&&s.g)))+add)+((((v5h s)^^^(v4D s))^^^(v5q s))+(((v5i s)^^^(v5j s))^^^(s.b&&&s.c))))),.g,.g,.g,.g,.g,(aU (s.d+(((v0t s)+((v4C s)^^^((~~~s.e)&&&s.g)))+add))),.g,.g,.g,.g,v15]) .done)))))) [(1,0)]
  (Eq.mp (by kernel_rfl) (fun(n1 n2:Nat)=>aI kV2 (aI (sk (aI (v0I n1) (sk (aI (v1U n1) (sk (aI (v1j n1) (sk (aI (v1y n1) (sk (aI (aT (ad n1 4)) (sk (aI (aT (ad n1 5)) (sk (aI (aT (ad n1 6)) (sk (aI (aT (ad n1 7)) (sK3 (sk kV4)))))))))))))))))) (aI (sK2 (aI (aT (jBk s.e)) (sk (aI (aT (qWF s.e)) (aI (aT (@ws0 33 35 (rot s.e 6) (rot s.e 11))) (sk (aI (aT (qYF s.e)) (aI (aT (@ws0 36 38 ((rot s.e 6)^^^(rot s.e 11)) (rot s.e 25))) (aI (aT (@wr0 31 39 s.h (((rot s.e 6)^^^(rot s.e 11))^^^(rot s.e 25)))) (sK2 (aI (aT (@wt0 41 42 s.e s.f)) (sk (aI (aT (@qYq TP 126 (.tmp 44) s.e)) (sk (aI (aT (@wt0 45 46 (~~~s.e) s.g)) (aI (aT (@ws0 43 47 (v4C s) ((~~~s.e)&&&s.g))) (aI (aT (@wr0 40 48 (v0t s) ((v4C s)^^^((~~~s.e)&&&s.g)))) (sk (aI (aT (@wr0 49 50 ((v0t s)+((v4C s)^^^((~~~s.e)&&&s.g))) add)) kV1))))))))))))))))))) (aI (sk (aI (aT (jAX s.a)) (sk (aI (aT (qX8 s.a)) (aI (aT (@ws0 53 55 (v5h s) (v4D s))) (sk (aI (aT (qXc s.a)) (aI (aT (@ws0 56 58 ((v5h s)^^^(v4D s)) (v5q s))) (sK2 (aI (aT (@wt0 60 61 s.a s.b)) (sK2 (aI (aT (@wt0 63 64 s.a s.c)) (aI (aT (@ws0 62 65 (v5i s) (v5j s))) (sK2 (aI (aT (@wt0 67 68 s.b s.c)) (aI (aT (@ws0 66 69 ((v5i s)^^^(v5j s)) (s.b&&&s.c))) (aI (aT (@wr0 59 70 (((v5h s)^^^(v4D s))^^^(v5q s)) (((v5i s)^^^(v5j s))^^^(s.b&&&s.c)))) kV1))))))))))))))))) (aI (sK2 (aI (aT (@wr0 72 73 (((v0t s)+((v4C s)^^^((~~~s.e)&&&s.g)))+add) ((((v5h s)^^^(v4D s))^^^(v5q s))+(((v5i s)^^^(v5j s))^^^(s.b&&&s.c))))) (sK4 (sk (aI (aT (@wr0 78 79 s.d (((v0t s)+((v4C s)^^^((~~~s.e)&&&s.g)))+add))) (sK4 (v6R n2))))))) (aI (v4r n2) (@rfl Value (w8V (jEO s add))))))))))
def s0v (f:Nat→UInt32) (k:Nat):UInt32:=(((rot (f (k-15)) 7)^^^(rot (f (k-15)) 18))^^^(qAF (f (k-15)) 3))
def s1v (f:Nat→UInt32) (k:Nat):UInt32:=(((rot (f (k-2)) 17)^^^(rot (f (k-2)) 19))^^^(qAF (f (k-2)) 10))
def v3T(b:Nat→UInt8):=qDs 64 (fun k=>u8 (b k))
def qFq (b:Nat→UInt8) (n1:Nat) (n2:Nat) (n3:Nat) (x1:Nat×(Nat→UInt32)):St:=⟨[(2,.v (ptr n2 0)),(3,.v (ptr n3 0)),(9,.v (qBJ 64 (fun k=>u8 (b k)))),(10,.v (nat x1.1))],[(0,some ⟨n1,true,0,(v3T b)⟩),(1,some ⟨n2,true,0,(.lit [(u32 0),(u32 0),(u32 0),(u32 0),(u32 0),(u32 0),(u32 0),(u32 0),(u32 0),(u32 0),(u32 0),(u32 0),(u32 0),(u32 0),(u32 0),(u32 0),(u32 0),(u32 0),(u32 0),(u32 0),(u32 0),(u32 0),(u32 0),(u32 0),(u32 0),(u32 0),(u32 0),(u32 0),(u32 0),(u32 0),(u32 0),(u32 0),(u32 0),(u32 0),(u32 0),(u32 0),(u32 0),(u32 0),(u32 0),(u32 0),(u32 0),(u32 0),(u32 0),(u32 0),(u32 0),(u32 0),(u32 0),(u32 0),(u32 0),(u32 0),(u32 0),(u32 0),(u32 0),(u32 0),(u32 0),(u32 0),(u32 0),(u32 0),(u32 0),(u32 0),(u32 0),(u32 0),(u32 0),(u32 0)])⟩),(2,some ⟨n3,true,0,(qAd 64 (fun k=>u32 (x1.2 k)))⟩)],3⟩
def qCO (b:Nat→UInt8) (n1:Nat) (n2:Nat) (n3:Nat) (x1:Nat×(Nat→UInt32)):Prop:=(x1.1≤64)∧(x1.2=sp1 b x1.1)
def qDl (b:Nat→UInt8) (n1:Nat) (n2:Nat) (n3:Nat) (x1:Nat×(Nat→UInt32)):Nat:=64-x1.1
def v41(x2:Nat×(Nat→UInt32)):=qAd 64 (fun k=>u32 (x2.2 k))
def qFr (b:Nat→UInt8) (n1:Nat) (n2:Nat) (n3:Nat) (x1:Nat×(Nat→UInt32)) (x2:Nat×(Nat→UInt32)):St:=⟨[(2,.v (ptr n2 0)),(3,.v (ptr n3 0)),(6,.v (nat x2.1))],[(0,some ⟨n1,true,0,(v3T b)⟩),(1,some ⟨n2,true,0,(.lit [(u32 0),(u32 0),(u32 0),(u32 0),(u32 0),(u32 0),(u32 0),(u32 0),(u32 0),(u32 0),(u32 0),(u32 0),(u32 0),(u32 0),(u32 0),(u32 0),(u32 0),(u32 0),(u32 0),(u32 0),(u32 0),(u32 0),(u32 0),(u32 0),(u32 0),(u32 0),(u32 0),(u32 0),(u32 0),(u32 0),(u32 0),(u32 0),(u32 0),(u32 0),(u32 0),(u32 0),(u32 0),(u32 0),(u32 0),(u32 0),(u32 0),(u32 0),(u32 0),(u32 0),(u32 0),(u32 0),(u32 0),(u32 0),(u32 0),(u32 0),(u32 0),(u32 0),(u32 0),(u32 0),(u32 0),(u32 0),(u32 0),(u32 0),(u32 0),(u32 0),(u32 0),(u32 0),(u32 0),(u32 0)])⟩),(2,some ⟨n3,true,0,(v41 x2)⟩)],3⟩
def qCR (b:Nat→UInt8) (n1:Nat) (n2:Nat) (n3:Nat) (x1:Nat×(Nat→UInt32)) (x2:Nat×(Nat→UInt32)):Prop:=(16≤x2.1)∧(x2.1≤64)∧(x2.2=sp2 b (x2.1-16))
def qC6 (b:Nat→UInt8) (n1:Nat) (n2:Nat) (n3:Nat) (x1:Nat×(Nat→UInt32)) (x2:Nat×(Nat→UInt32)):Nat:=64-x2.1
def wu0(a:Nat):=@qAC TP 3 3 (.tmp a) (.const (.int .i64 64))
def wv0(a:Nat):=@qCU TP 3 3 (.tmp a) (.const (.int .i64 4))
def ww0(a b:Nat):=@qAU TP 152 126 (.tmp a) (.tmp b) 1 64 (by kernel_rfl) (by kernel_rfl)
def wx0(a:Nat):=@qEA TP 5 126 (.tmp a) (by kernel_rfl) (by kernel_rfl)
def wy0(a:Nat):=@qAe TP 3 3 (.tmp a) (.const (.int .i64 1))
def wz0(a:Nat):=@qAD TP 3 3 (.tmp a) (.const (.int .i64 15))
def wA0(a:Nat):=@qAD TP 3 3 (.tmp a) (.const (.int .i64 2))
def wB0(a:Nat):=@qAD TP 3 3 (.tmp a) (.const (.int .i64 16))
def wC0(a:Nat):=@qAD TP 3 3 (.tmp a) (.const (.int .i64 7))
def v0B(x2:Nat×(Nat→UInt32)):=rot (x2.2 (x2.1-15)) 18
def v0D(x2:Nat×(Nat→UInt32)):=rot (x2.2 (x2.1-15)) 7
def v12(x2:Nat×(Nat→UInt32)):=rot (x2.2 (x2.1-2)) 17
def v13(x2:Nat×(Nat→UInt32)):=rot (x2.2 (x2.1-2)) 19
def v3s(x1:Nat×(Nat→UInt32)):=qAR (x1.2 (x1.1/4)) 8
def v4k:=qAd 64 (fun k=>u32 ((fun _=>0) k))
def v4l:=qEx 64 (fun k=>u32 ((fun _=>0) k))
def v5r(x2:Nat×(Nat→UInt32)):=s0v x2.2 x2.1
def qQb (b:Nat→UInt8):qDt TP 97 [(qBJ 64 (fun k=>u8 (b k)))] (qBJ 64 fun k=>u32 (qHC b k)):=
 qAg mix Tryz.func97 rfl rfl 400 (.regn v4Q (m2 fun n1 n2=>(.regn v1f (more (fun n3=>fun _=>(.reg (rg [v0j,.g]) (.cast 2 v4k (.inv [2,3,9,10] [0,1,2] 3 (qCO b n1 n2 n3) (qFq b n1 n2 n3) (qDl b n1 n2 n3) ((0,(fun _=>0)):Nat×(Nat→UInt32)) (fun(x1:Nat×(Nat→UInt32))=>(.reg (rg [(aB (decide (x1.1<64)))]) (.br (.reg (rg [.g,(.as (u8 (b x1.1))),.g,.g]) (.reg (rg [.g,(aN (x1.1/4)),.g,(aN (x1.1/4)),(.as (ptr n3 (0+(x1.1/4)*1))),(.ld 2 (.tab (x1.1/4) 0)),(aU (v3s x1)),.g,(aU ((b x1.1).toUInt32)),(aU ((v3s x1)|||((b x1.1).toUInt32))),(.as (ptr n3 (0+(x1.1/4)*1))),(.stc 2 (.tab (x1.1/4) 0) (qAd 64 (fun k=>u32 (upd x1.2 (x1.1/4) ((v3s x1)|||((b x1.1).toUInt32)) k))))]) (.reg (rg [(aN (x1.1+1)),.g]) .done))) (.reg (rg [.g]) (.inv [2,3,6] [0,1,2] 3 (qCR b n1 n2 n3 x1) (qFr b n1 n2 n3 x1) (qC6 b n1 n2 n3 x1) ((16,x1.2):Nat×(Nat→UInt32)) (fun(x2:Nat×(Nat→UInt32))=>(.reg (rg [.g,(aB (decide (x2.1<64)))]) (.br (.reg (rg [.g,(aN (x2.1-15)),(.as (ptr n3 (0+(x2.1-15)*1))),(.ld 2 (.tab (x2.1-15) 0)),.g,(aN (x2.1-2)),(.as (ptr n3 (0+(x2.1-2)*1))),(.ld 2 (.tab (x2.1-2) 0)),.g,.g]) (.reg (rg [.g,.g,(aN (x2.1-16)),(.as (ptr n3 (0+(x2.1-16)*1))),(.ld 2 (.tab (x2.1-16) 0)),.g,(aN (x2.1-7)),(.as (ptr n3 (0+(x2.1-7)*1))),(.ld 2 (.tab (x2.1-7) 0)),(aU ((x2.2 (x2.1-16))+(x2.2 (x2.1-7)))),.g,(.call [] 0 0 (fun _=>(u32 (v0D x2))) (fun _=>[])),.g,(.call [] 0 0 (fun _=>(u32 (v0B x2))) (fun _=>[])),(aU ((v0D x2)^^^(v0B x2))),.g,(aU (qAF (x2.2 (x2.1-15)) 3)),(aU (v5r x2)),(aU (((x2.2 (x2.1-16))+(x2.2 (x2.1-7)))+(v5r x2))),.g,(.call [] 0 0 (fun _=>(u32 (v12 x2))) (fun _=>[])),.g,(.call [] 0 0 (fun _=>(u32 (v13 x2))) (fun _=>[])),(aU ((v12 x2)^^^(v13 x2))),.g,(aU (qAF (x2.2 (x2.1-2)) 10)),(aU (s1v x2.2 x2.1)),(aU ((((x2.2 (x2.1-16))+(x2.2 (x2.1-7)))+(v5r x2))+(s1v x2.2 x2.1))),(.as (ptr n3 (0+x2.1*1))),(.stc 2 (.tab x2.1 0) (qAd 64 (fun k=>u32 (upd x2.2 x2.1 ((((x2.2 (x2.1-16))+(x2.2 (x2.1-7)))+(v5r x2))+(s1v x2.2 x2.1)) k))))]) (.reg (rg [.g,(aN (x2.1+1)),.g]) .done))) (.cast 2 (qDs 64 (fun k=>u32 (x2.2 k))) v6F))))))))))))))))) [(1,0)]
  (Eq.mp (by kernel_rfl) (fun(n1 n2:Nat)=>aI kV2 (fun(n3:Nat)=>aI kV1 (aI (v6k n1) (aI v4l (aI (show(qCO b n1 n2 n3) ((0,(fun _=>0)):Nat×(Nat→UInt32)) from(show(0≤64)∧((fun _=>0)=sp1 b 0) from by exact⟨by omega,rfl⟩)) (aI (@rfl St ((qFq b n1 n2 n3) ((0,(fun _=>0)):Nat×(Nat→UInt32)))) (fun(x1:Nat×(Nat→UInt32)) (hx1:(qCO b n1 n2 n3) x1)=>have B0:x1.1≤64:=hx1.1;have B1:x1.2=sp1 b x1.1:=hx1.2;aI (aI (aT (@wu0 10  x1.1 64)) tV) (aT (aI (fun(h1:(decide (x1.1<64))=true)=>have f2:=(oT h1);aI (sk (aI (aT (@qYE TP 134 5 (.tmp 9) (.tmp 10) 64 (by kernel_rfl) (by kernel_rfl) ⟨.u8,by kernel_rfl⟩ (fun k=>u8 (b k)) x1.1 (show x1.1<64 from by omega))) kV2)) (aI (sk (aI (aT (@wv0 14  x1.1 4 (show 0<4∧x1.1≤9223372036854775807 from by omega))) (sk (aI (aT (@wv0 16  x1.1 4 (show 0<4∧x1.1≤9223372036854775807 from by omega))) (aI (aT (@ww0 3 17 n3 0 (x1.1/4) (show x1.1/4<64 from by omega))) (aI (aT (aI (show x1.1/4<64 from by omega) (@rfl Value (ptr n3 (0+(x1.1/4)*1))))) (aI (aT (@qBt TP 126 121 (.tmp 19) (.const (.int .u64 8)) (x1.2 (x1.1/4)) .u64 8)) (sk (aI (aT (@wx0 21 (b x1.1))) (aI (aT (@wo0 20 22 (v3s x1) ((b x1.1).toUInt32))) (aI (aT (@ww0 3 15 n3 0 (x1.1/4) (show x1.1/4<64 from by omega))) (aI (aT (aI (show x1.1/4<64 from by omega) (aI (@rfl Value (ptr n3 (0+(x1.1/4)*1))) (qCo 64 u32 x1.2 (x1.1/4) ((v3s x1)|||((b x1.1).toUInt32)))))) tV)))))))))))) (aI (aI (aT (@wy0 10  x1.1 1 (show x1.1+1≤9223372036854775807 from by omega))) kV1) ((rnd (qCO b n1 n2 n3) (qFq b n1 n2 n3) (qDl b n1 n2 n3) x1 ((x1.1+1,upd x1.2 (x1.1/4) ((v3s x1)|||((b x1.1).toUInt32))):Nat×(Nat→UInt32)) (show(((x1.1+1)≤64)∧((upd x1.2 (x1.1/4) ((qAR (x1.2 (x1.1/4)) 8)|||((b x1.1).toUInt32)))=sp1 b (x1.1+1)))∧(64-(x1.1+1))<(64-x1.1) from by exact⟨⟨by omega,by rw[B1]<;>rfl⟩,by omega⟩)))))) (fun(h1:(decide (x1.1<64))=false)=>have f2:=(oF h1);aI kV1 (aI (show(16≤16)∧(16≤64)∧(x1.2=sp2 b (16-16)) from by exact⟨by omega,by omega,by rw[B1,show x1.1=64 by omega]<;>rfl⟩) (aI (@rfl St ((qFr b n1 n2 n3 x1) ((16,x1.2):Nat×(Nat→UInt32)))) (fun(x2:Nat×(Nat→UInt32)) (hx2:(qCR b n1 n2 n3 x1) x2)=>have C0:16≤x2.1:=hx2.1;have C1:x2.1≤64:=hx2.2.1;have C2:x2.2=sp2 b (x2.1-16):=hx2.2.2;aI (sk (aI (aT (@wu0 26  x2.1 64)) tV)) (aT (aI (fun(h2:(decide (x2.1<64))=true)=>have f6:=(oT h2);aI (sk (aI (aT (@wz0 30  x2.1 15 (show 15≤x2.1∧x2.1-15≤9223372036854775807 from by omega))) (aI (aT (@ww0 3 31 n3 0 (x2.1-15) (show x2.1-15<64 from by omega))) (aI (aT (aI (show x2.1-15<64 from by omega) (@rfl Value (ptr n3 (0+(x2.1-15)*1))))) (sk (aI (aT (@wA0 34  x2.1 2 (show 2≤x2.1∧x2.1-2≤9223372036854775807 from by omega))) (aI (aT (@ww0 3 35 n3 0 (x2.1-2) (show x2.1-2<64 from by omega))) (aI (aT (aI (show x2.1-2<64 from by omega) (@rfl Value (ptr n3 (0+(x2.1-2)*1))))) kV2)))))))) (aI (sK2 (aI (aT (@wB0 39  x2.1 16 (show 16≤x2.1∧x2.1-16≤9223372036854775807 from by omega))) (aI (aT (@ww0 3 40 n3 0 (x2.1-16) (show x2.1-16<64 from by omega))) (aI (aT (aI (show x2.1-16<64 from by omega) (@rfl Value (ptr n3 (0+(x2.1-16)*1))))) (sk (aI (aT (@wC0 43  x2.1 7 (show 7≤x2.1∧x2.1-7≤9223372036854775807 from by omega))) (aI (aT (@ww0 3 44 n3 0 (x2.1-7) (show x2.1-7<64 from by omega))) (aI (aT (aI (show x2.1-7<64 from by omega) (@rfl Value (ptr n3 (0+(x2.1-7)*1))))) (aI (aT (@wr0 42 46 (x2.2 (x2.1-16)) (x2.2 (x2.1-7)))) (sk (aI (aT (jAm (x2.2 (x2.1-15)))) (sk (aI (aT (qWp (x2.2 (x2.1-15)))) (aI (aT (@ws0 49 51 (v0D x2) (v0B x2))) (sk (aI (aT (@qBh TP 126 121 (.tmp 53) (.const (.int .u64 3)) (x2.2 (x2.1-15)) .u64 3)) (aI (aT (@ws0 52 54 ((v0D x2)^^^(v0B x2)) (qAF (x2.2 (x2.1-15)) 3))) (aI (aT (@wr0 47 55 ((x2.2 (x2.1-16))+(x2.2 (x2.1-7))) (v5r x2))) (sk (aI (aT (qXv (x2.2 (x2.1-2)))) (sk (aI (aT (qYd (x2.2 (x2.1-2)))) (aI (aT (@ws0 58 60 (v12 x2) (v13 x2))) (sk (aI (aT (@qBh TP 126 121 (.tmp 62) (.const (.int .u64 10)) (x2.2 (x2.1-2)) .u64 10)) (aI (aT (@ws0 61 63 ((v12 x2)^^^(v13 x2)) (qAF (x2.2 (x2.1-2)) 10))) (aI (aT (@wr0 56 64 (((x2.2 (x2.1-16))+(x2.2 (x2.1-7)))+(v5r x2)) (s1v x2.2 x2.1))) (aI (aT (@ww0 3 38 n3 0 x2.1 (show x2.1<64 from by omega))) (aI (aT (aI (show x2.1<64 from by omega) (aI (@rfl Value (ptr n3 (0+x2.1*1))) (qCo 64 u32 x2.2 x2.1 ((((x2.2 (x2.1-16))+(x2.2 (x2.1-7)))+(v5r x2))+(s1v x2.2 x2.1)))))) tV))))))))))))))))))))))))))))) (aI (sk (aI (aT (@wy0 28  x2.1 1 (show x2.1+1≤9223372036854775807 from by omega))) kV1)) ((rnd (qCR b n1 n2 n3 x1) (qFr b n1 n2 n3 x1) (qC6 b n1 n2 n3 x1) x2 ((x2.1+1,upd x2.2 x2.1 ((((x2.2 (x2.1-16))+(x2.2 (x2.1-7)))+(v5r x2))+(s1v x2.2 x2.1))):Nat×(Nat→UInt32)) (show((16≤(x2.1+1))∧((x2.1+1)≤64)∧((upd x2.2 x2.1 ((((x2.2 (x2.1-16))+(x2.2 (x2.1-7)))+(s0v x2.2 x2.1))+(s1v x2.2 x2.1)))=sp2 b ((x2.1+1)-16)))∧(64-(x2.1+1))<(64-x2.1) from by exact⟨⟨by omega,by omega,qVU C0 C2⟩,by omega⟩)))))) (fun(h2:(decide (x2.1<64))=false)=>have f6:=(oF h2);aI (qLZ 64 (fun k=>u32 (x2.2 k))) (aI (aI (v58 n3) (v6R n2)) (aI (v4r n2) ((show(qBJ 64 (fun k=>u32 (x2.2 k)))=qBJ 64 (fun k=>u32 (qHC b k)) from by have e0:x2.1=64:=(by omega);rw[C2,e0]<;>rfl)))))))))))))))))))))
def qT3 (s:Nat→UInt32) (add:UInt32):qDt TP 98 [qBJ 8 fun k=>u32 (s k),u32 add] (qBJ 8 fun k=>u32 (qWJ s add k)):=qSN (w8F s) add
def v42(s:Nat→UInt32):=qDs 8 (fun k=>u32 (s k))
def v4G(b:Nat→UInt8):=qAd 64 (fun k=>u32 (qHC b k))
def qJI (s:Nat→UInt32) (b:Nat→UInt8) (n1:Nat) (n2:Nat) (n3:Nat) (n4:Nat) (n5:Nat) (x1:Nat×(Nat→UInt32)):St:=⟨[(2,.v (v1M n1)),(4,.v (ptr n3 0)),(5,.v (ptr n4 0)),(6,.v (ptr n5 0)),(12,.v (nat x1.1))],[(0,some ⟨n1,true,0,(v42 s)⟩),(1,some ⟨n2,true,0,(v3T b)⟩),(2,some ⟨n3,true,0,(.lit [(u32 0),(u32 0),(u32 0),(u32 0),(u32 0),(u32 0),(u32 0),(u32 0)])⟩),(3,some ⟨n4,true,0,(v4G b)⟩),(4,some ⟨n5,true,0,(qDs 8 (fun k=>u32 (x1.2 k)))⟩)],5⟩
def qFF (s:Nat→UInt32) (b:Nat→UInt8) (n1:Nat) (n2:Nat) (n3:Nat) (n4:Nat) (n5:Nat) (x1:Nat×(Nat→UInt32)):Prop:=(x1.1≤64)∧(x1.2=qN4 s (qHC b) x1.1)
def qF3 (s:Nat→UInt32) (b:Nat→UInt8) (n1:Nat) (n2:Nat) (n3:Nat) (n4:Nat) (n5:Nat) (x1:Nat×(Nat→UInt32)):Nat:=64-x1.1
def v43(s:Nat→UInt32):=qAd 8 (fun k=>u32 (s k))
def qJs (s:Nat→UInt32) (b:Nat→UInt8) (n1:Nat) (n2:Nat) (n3:Nat) (n4:Nat) (n5:Nat) (x1:Nat×(Nat→UInt32)) (x2:Nat×(Nat→UInt32)):St:=⟨[(2,.v (v1M n1)),(4,.v (ptr n3 0)),(6,.v (ptr n5 0)),(25,.v (nat x2.1))],[(0,some ⟨n1,true,0,(v43 s)⟩),(1,some ⟨n2,true,0,(v3T b)⟩),(2,some ⟨n3,true,0,(.lit [(u32 0),(u32 0),(u32 0),(u32 0),(u32 0),(u32 0),(u32 0),(u32 0)])⟩),(3,some ⟨n4,true,0,(v4G b)⟩),(4,some ⟨n5,true,0,(qAd 8 (fun k=>u32 (x2.2 k)))⟩)],5⟩
def qFD (s:Nat→UInt32) (b:Nat→UInt8) (n1:Nat) (n2:Nat) (n3:Nat) (n4:Nat) (n5:Nat) (x1:Nat×(Nat→UInt32)) (x2:Nat×(Nat→UInt32)):Prop:=(x2.1≤8)∧(x2.2=qVC s (qN4 s (qHC b) 64) x2.1)
def qGc (s:Nat→UInt32) (b:Nat→UInt8) (n1:Nat) (n2:Nat) (n3:Nat) (n4:Nat) (n5:Nat) (x1:Nat×(Nat→UInt32)) (x2:Nat×(Nat→UInt32)):Nat:=8-x2.1
def wD0(a:Nat):=@qAC TP 3 3 (.tmp a) (.const (.int .i64 8))
def wE0(a b:Nat):=@qAU TP 127 126 (.tmp a) (.tmp b) 1 8 (by kernel_rfl) (by kernel_rfl)
def v1L:OpH:=.ld 4 (.lit 0)
def v2F:OpH:=.st 4 (.lit 0)
def v30(n5:Nat):=aT (ad n5 0)
def v6S(n5:Nat):=aI (v30 n5) tV
def v6V:=rg [v0j,.new,v2F]
def qVK (s:Nat→UInt32) (b:Nat→UInt8):qAt qHU TP 80 [(qBJ 8 (fun k=>u32 (s k))),(qBJ 64 (fun k=>u8 (b k)))] [] 0 (fun _=>qBJ 8 fun k=>u32 (qHF s b k)) (fun _=>[]):=
 qAm (F:=qHU) mix Tryz.func80 rfl rfl 400 (.regn v5v (m3 fun n1 n2 n3=>(.regn (rg [v0H,(.call [] 0 0 (fun _=>(qBJ 64 (fun k=>u32 (qHC b k)))) (fun _=>[])),.new,v4M]) (more (fun n4=>fun _=>(.regn v6V (more (fun n5=>fun _=>(.reg (rg [.g]) (.cast 3 (v4G b) (.inv [2,4,5,6,12] [0,1,2,3,4] 5 (qFF s b n1 n2 n3 n4 n5) (qJI s b n1 n2 n3 n4 n5) (qF3 s b n1 n2 n3 n4 n5) ((0,s):Nat×(Nat→UInt32)) (fun(x1:Nat×(Nat→UInt32))=>(.reg (rg [(aB (decide (x1.1<64)))]) (.br (.reg v00 (.openr jEZ (.reg (rg [v1L,.g,(.as (ptr 2 (0+x1.1*1))),(.ld 5 (.tab x1.1 0)),.g,(.as (ptr n4 (0+x1.1*1))),(.ld 3 (.tab x1.1 0)),(aU ((qHP x1.1)+(qHC b x1.1))),(.call [] 0 0 (fun _=>(qBJ 8 (fun k=>u32 (qWJ x1.2 ((qHP x1.1)+(qHC b x1.1)) k)))) (fun _=>[])),v2F]) (.reg (rg [(aN (x1.1+1)),.g]) .done)))) (.reg (rg [.g]) (.cast 0 (v43 s) (.cast 4 (qAd 8 (fun k=>u32 (x1.2 k))) (.inv [2,4,6,25] [0,1,2,3,4] 5 (qFD s b n1 n2 n3 n4 n5 x1) (qJs s b n1 n2 n3 n4 n5 x1) (qGc s b n1 n2 n3 n4 n5 x1) ((0,x1.2):Nat×(Nat→UInt32)) (fun(x2:Nat×(Nat→UInt32))=>(.reg (rg [(aB (decide (x2.1<8)))]) (.br (.reg v00 (.reg (rg [.g,(.as (ptr n5 (0+x2.1*1))),(.ld 4 (.tab x2.1 0)),.g,(.as (ptr n1 (0+x2.1*1))),(.ld 0 (.tab x2.1 0)),(aU ((x2.2 x2.1)+(s x2.1))),(.as (ptr n5 (0+x2.1*1))),(.stc 4 (.tab x2.1 0) (qAd 8 (fun k=>u32 (upd x2.2 x2.1 ((x2.2 x2.1)+(s x2.1)) k))))]) (.reg (rg [(aN (x2.1+1)),.g]) .done))) (.cast 4 (qDs 8 (fun k=>u32 (x2.2 k))) (.reg (rg [v1L,v1V]) .done))))))))))))))))))))))) [(2,0)] [] rfl
  (Eq.mp (by kernel_rfl) (fun(n1 n2 n3:Nat)=>aI kV3 (fun(n4:Nat)=>aI (aI (v1t n2) (aI (aT (qQb b)) (sk (aI (v5O n4) tV)))) (fun(n5:Nat)=>aI (aI (v0I n1) (sk (v6S n5))) (aI kV1 (aI (qEx 64 (fun k=>u32 (qHC b k))) (aI (show(0≤64)∧(s=qN4 s (qHC b) 0) from by exact⟨by omega,rfl⟩) (aI (@rfl St ((qJI s b n1 n2 n3 n4 n5) ((0,s):Nat×(Nat→UInt32)))) (fun(x1:Nat×(Nat→UInt32)) (hx1:(qFF s b n1 n2 n3 n4 n5) x1)=>have B0:x1.1≤64:=hx1.1;have B1:x1.2=qN4 s (qHC b) x1.1:=hx1.2;aI (aI (aT (@wu0 12  x1.1 64)) tV) (aT (aI (fun(h1:(decide (x1.1<64))=true)=>have f2:=(oT h1);aI kV2 (aI (Or.inr rfl:qHU jEZ) (aI (aI (v30 n5) (sk (aI (aT (@qAU TP 152 126 (.global 2) (.tmp 16) 1 64 (by kernel_rfl) (by kernel_rfl) 2 0 x1.1 (show x1.1<64 from by omega))) (aI (aT (aI (show x1.1<64 from by omega) (@rfl Value (ptr 2 (0+x1.1*1))))) (sk (aI (aT (@ww0 5 19 n4 0 x1.1 (show x1.1<64 from by omega))) (aI (aT (aI (show x1.1<64 from by omega) (@rfl Value (ptr n4 (0+x1.1*1))))) (aI (aT (@wr0 18 21 (qHP x1.1) (qHC b x1.1))) (aI (aT (qT3 x1.2 ((qHP x1.1)+(qHC b x1.1)))) (v6S n5)))))))))) (aI (aI (aT (@wy0 12  x1.1 1 (show x1.1+1≤9223372036854775807 from by omega))) kV1) ((rnd (qFF s b n1 n2 n3 n4 n5) (qJI s b n1 n2 n3 n4 n5) (qF3 s b n1 n2 n3 n4 n5) x1 ((x1.1+1,(qWJ x1.2 ((qHP x1.1)+(qHC b x1.1)))):Nat×(Nat→UInt32)) (show(((x1.1+1)≤64)∧((qWJ x1.2 ((qHP x1.1)+(qHC b x1.1)))=qN4 s (qHC b) (x1.1+1)))∧(64-(x1.1+1))<(64-x1.1) from by exact⟨⟨by omega,by rw[B1]<;>rfl⟩,by omega⟩))))))) (fun(h1:(decide (x1.1<64))=false)=>have f2:=(oF h1);aI kV1 (aI (qEx 8 (fun k=>u32 (s k))) (aI (qEx 8 (fun k=>u32 (x1.2 k))) (aI (show(0≤8)∧(x1.2=qVC s (qN4 s (qHC b) 64) 0) from by exact⟨by omega,by rw[B1,show x1.1=64 by omega]<;>rfl⟩) (aI (@rfl St ((qJs s b n1 n2 n3 n4 n5 x1) ((0,x1.2):Nat×(Nat→UInt32)))) (fun(x2:Nat×(Nat→UInt32)) (hx2:(qFD s b n1 n2 n3 n4 n5 x1) x2)=>have C0:x2.1≤8:=hx2.1;have C1:x2.2=qVC s (qN4 s (qHC b) 64) x2.1:=hx2.2;aI (aI (aT (@wD0 25  x2.1 8)) tV) (aT (aI (fun(h2:(decide (x2.1<8))=true)=>have f5:=(oT h2);aI kV2 (aI (sk (aI (aT (@wE0 6 28 n5 0 x2.1 (show x2.1<8 from by omega))) (aI (aT (aI (show x2.1<8 from by omega) (@rfl Value (ptr n5 (0+x2.1*1))))) (sk (aI (aT (@wE0 2 31 n1 0 x2.1 (show x2.1<8 from by omega))) (aI (aT (aI (show x2.1<8 from by omega) (@rfl Value (ptr n1 (0+x2.1*1))))) (aI (aT (@wr0 30 33 (x2.2 x2.1) (s x2.1))) (aI (aT (@wE0 6 28 n5 0 x2.1 (show x2.1<8 from by omega))) (aI (aT (aI (show x2.1<8 from by omega) (aI (@rfl Value (ptr n5 (0+x2.1*1))) (qCo 8 u32 x2.2 x2.1 ((x2.2 x2.1)+(s x2.1)))))) tV))))))))) (aI (aI (aT (@wy0 25  x2.1 1 (show x2.1+1≤9223372036854775807 from by omega))) kV1) ((rnd (qFD s b n1 n2 n3 n4 n5 x1) (qJs s b n1 n2 n3 n4 n5 x1) (qGc s b n1 n2 n3 n4 n5 x1) x2 ((x2.1+1,upd x2.2 x2.1 ((x2.2 x2.1)+(s x2.1))):Nat×(Nat→UInt32)) (show(((x2.1+1)≤8)∧((upd x2.2 x2.1 ((x2.2 x2.1)+(s x2.1)))=qVC s (qN4 s (qHC b) 64) (x2.1+1)))∧(8-(x2.1+1))<(8-x2.1) from by exact⟨⟨by omega,by rw[C1]<;>rfl⟩,by omega⟩)))))) (fun(h2:(decide (x2.1<8))=false)=>have f5:=(oF h2);aI (qLZ 8 (fun k=>u32 (x2.2 k))) (aI (aI (v30 n5) (aI (v58 n3) tV)) (aI (v4p n3) (eX (fun(ns:List Nat)=>ns.length=0∧((qBJ 8 (fun k=>u32 (x2.2 k))):Value)=(fun _=>qBJ 8 fun k=>u32 (qHF s b k)) ns∧([]:List (Option Blk))=(fun _=>[]) ns) [] (aI v0b (aI ((show(qBJ 8 (fun k=>u32 (x2.2 k)))=qBJ 8 (fun k=>u32 (qHF s b k)) from by have e0:x2.1=8:=(by omega);rw[C1,e0]<;>rfl)) v0f)))))))))))))))))))))))))
abbrev qDN (a:Nat) (b:HS):=min a (64-((b.n%64).toNat))
abbrev jCx (a:HS) (b:Nat):=qAF ((wrH a (qEL a.n) (qBL a.n+8)).s (b/4)) (24-((b%4)*8))
abbrev qZy (a:HS):=wrH a (qEL a.n) (qBL a.n+8)
abbrev jCa (a:UInt64):=u8 ((qAa (8*a) 56).toUInt8)
abbrev jB8 (a:UInt64):=u8 ((qAa (8*a) 48).toUInt8)
abbrev jB5 (a:UInt64):=u8 ((qAa (8*a) 40).toUInt8)
abbrev jB9 (a:UInt64):=u8 ((qAa (8*a) 32).toUInt8)
abbrev jCy (a:UInt64):=u8 ((qAa (8*a) 24).toUInt8)
abbrev jCr (a:UInt64):=u8 ((qAa (8*a) 16).toUInt8)
abbrev jCw (a:UInt64):=u8 ((qAa (8*a) 8).toUInt8)
abbrev qR0 (a:UInt64):=u8 ((qAa (8*a) 0).toUInt8)
def qWn:qBI TP 64 [] [] 1 (fun ns=>(ptr (ns.getD 0 0) 0)) (fun ns=>[some ⟨(ns.getD 0 0),true,0,(qA1 qKV)⟩]):=
 qAl mix Tryz.func64 rfl rfl 400 (.reg (rg [.g]) (.regn (rg [.g,.new,.g]) v1a)) [] [0] rfl
  (Eq.mp (by kernel_rfl) (aI kV1 (fun(n1:Nat)=>aI kV3 (aT (eX (fun(ns:List Nat)=>ns.length=1∧((v1M n1):Value)=(fun ns=>(ptr (g0 ns) 0)) ns∧([some ⟨n1,true,0,(qA1 (HS.mk (fun _=>0) (fun _=>0) 0))⟩]:List (Option Blk))=(fun ns=>[some ⟨(g0 ns),true,0,(qA1 qKV)⟩]) ns) [n1] (aI v0R (aI (v0O n1) (@rfl (List (Option Blk)) [some ⟨n1,true,0,(qA1 qKV)⟩]))))))))
def v1F:OpH:=.ld 0 (.lit 72)
def v3w(c:Nat):=aT (ad c 72)
def v54(H:HS):=HS.mk H.s (qLU (fun _=>0) 0 64 H.l) H.n
def qU9 (c:Nat) (H:HS):qBI TP 82 [(ptr c 0)] [⟨c,false,0,(qA1 H)⟩] 1 (fun ns=>(ptr (ns.getD 0 0) 0)) (fun ns=>[some ⟨c,false,0,(qA1 H)⟩,some ⟨(ns.getD 0 0),true,0,(qA1 H)⟩]):=
 qAl mix Tryz.func82 rfl rfl 400 (.reg (rg [.g]) (.regn (rg [.g,.g,.g,v1F,.g,.new,.g]) (more (fun n1=>fun _=>(.reg (rg [.g,.g,.g,.g,.g,.g,.g,.g,(.oth [(1,false),(0,true)] 0 0 (fun _=>nat 8) (fun _=>[some ⟨n1,true,0,qA1 (HS.mk H.s (fun _=>0) H.n)⟩,none]))]) (.reg (rg [.g,.g,.g,.g,.g,.g,.g,.g,(.oth [(1,false),(0,true)] 0 0 (fun _=>nat 64) (fun _=>[some ⟨n1,true,0,qA1 (v54 H)⟩,none]))]) v5T)))))) [] [1] rfl
  (Eq.mp (by kernel_rfl) (aI kV1 (fun(n1:Nat)=>aI (sK3 (aI (v3w c) kV3)) (aI (sK4 (sK4 (aI (aT (qOK (P:=TP) (dT:=156) (sT:=156) (ty:=3) (e:=126) (by kernel_rfl) (by kernel_rfl) (HS.mk (fun _=>0) (fun _=>0) H.n) H n1 c)) tV))) (aI (sK4 (sK4 (aI (aT (qO3 (P:=TP) (dT:=29) (sT:=29) (ty:=3) (e:=5) (by kernel_rfl) (by kernel_rfl) (HS.mk H.s (fun _=>0) H.n) H n1 c)) tV))) (aI kV2 (aT (eX (fun(ns:List Nat)=>ns.length=1∧((v1M n1):Value)=(fun ns=>(ptr (g0 ns) 0)) ns∧([some ⟨c,false,0,(qA1 H)⟩,some ⟨n1,true,0,(qA1 (v54 H))⟩]:List (Option Blk))=(fun ns=>[some ⟨c,false,0,(qA1 H)⟩,some ⟨(g0 ns),true,0,(qA1 H)⟩]) ns) [n1] (aI v0R (aI (v0O n1) ((congrArg (fun C=>[some (⟨c,false,0,qA1 H⟩:Blk),some ⟨n1,true,0,C⟩]) (qT7 H _)))))))))))))
def qFj (c:Nat) (H:HS) (b:BytL) (x1:HS×(Option Addr)×Nat×Nat):St:=⟨[(0,.v (ptr c 0)),(1,.v (vS x1.2.1 x1.2.2.1 x1.2.2.2))],[(0,some ⟨c,true,0,(qA1 x1.1)⟩)],2⟩
def qCB (c:Nat) (H:HS) (b:BytL) (x1:HS×(Option Addr)×Nat×Nat):Prop:=(x1.2.2.1≤b.wn)∧(x1.2.2.1≤x1.2.2.2)∧(x1.1=qFC (qFm H) b.wf (b.wn-x1.2.2.1))∧(0<x1.2.2.1→x1.2.1=some ⟨b.wb,b.wo+(b.wn-x1.2.2.1),none⟩)∧(x1.2.2.2≤b.wc)
def qCa (c:Nat) (H:HS) (b:BytL) (x1:HS×(Option Addr)×Nat×Nat):Nat:=x1.2.2.1
def qFd (c:Nat) (H:HS) (b:BytL) (x2:HS×(Option Addr)×Nat×Nat):St:=⟨[(0,.v (ptr c 0)),(1,.v (vS x2.2.1 x2.2.2.1 x2.2.2.2))],[(0,some ⟨c,true,0,(qA1 x2.1)⟩)],1⟩
def qCA (c:Nat) (H:HS) (b:BytL) (x2:HS×(Option Addr)×Nat×Nat):Prop:=(x2.2.2.1≤b.wn)∧(x2.2.2.1≤x2.2.2.2)∧(x2.1=qFC (qFm H) b.wf (b.wn-x2.2.2.1))∧(0<x2.2.2.1→x2.2.1=some ⟨b.wb,b.wo+(b.wn-x2.2.2.1),none⟩)∧(x2.2.2.2≤b.wc)
def qCe (c:Nat) (H:HS) (b:BytL) (x2:HS×(Option Addr)×Nat×Nat):Nat:=x2.2.2.1
abbrev cz (b:BytL) (x:HS×(Option Addr)×Nat×Nat):=qLU x.1.l ((x.1.n%64).toNat) (min x.2.2.1 (64-((x.1.n%64).toNat))) (fun j=>b.wf ((b.wn-x.2.2.1)+j))
def wF0(a:Nat):=@qKF TP 23 23 (.tmp a) (.const (.int .u64 0))
def wG0(a:Nat):=@qAo TP 29 5 (.tmp a) (by kernel_rfl)
def wH0(a:Nat):=@qBe TP 3 3 (.tmp a) (.const (.int .i64 0))
def wI0(a:Nat):=@qGf TP 23 23 (.tmp a) (.const (.int .u64 64))
def wJ0(a b:Nat):=@qPl TP 5 134 (.tmp a) (.tmp b) 64 (by kernel_rfl) (by kernel_rfl)
def wK0(a b:Nat):=@qFR TP 29 5 (.tmp a) (.tmp b) (by kernel_rfl) 1 (by kernel_rfl)
def wL0(a:Nat):=@qAM TP 3 23 (.tmp a) (by kernel_rfl) (by kernel_rfl)
def v0J(x1:HS×(Option Addr)×Nat×Nat):=qDN x1.2.2.1 x1.1
def v0K(x2:HS×(Option Addr)×Nat×Nat):=qDN x2.2.2.1 x2.1
def v5y(c:Nat):=@rfl Value (ptr c 0)
def v6B(x1:HS×(Option Addr)×Nat×Nat)(b:BytL):=HS.mk x1.1.s (cz b x1) (x1.1.n+(uO (v0J x1)))
def v6C(x2:HS×(Option Addr)×Nat×Nat)(b:BytL):=HS.mk x2.1.s (cz b x2) (x2.1.n+(uO (v0K x2)))
def qLf (c:Nat) (H:HS) (b:BytL) (hb:OkB b):qAt (qKp b) TP 65 [(ptr c 0),(Value.slice b.wa b.wn b.wc)] [⟨c,true,0,(qA1 H)⟩] 0 (fun _=>Value.tuple #[]) (fun _=>[some ⟨c,true,0,(qA1 (wrH H b.wf b.wn))⟩]):=
 qAm (F:=(qKp b)) mix Tryz.func65 rfl rfl 400 (.reg (rg [.g,.g,.g,v1F,(aB (H.n==0))]) (.br (.openr jFV (.reg (rg [.g,v0H,.g,.g,(.stc 0 (.lit 0) (qA1 (HS.mk qQt H.l H.n)))]) (.inv [0,1] [0] 2 (qCB c H b) (qFj c H b) (qCa c H b) (((HS.mk qQt H.l H.n),b.wa,b.wn,b.wc):HS×(Option Addr)×Nat×Nat) (fun(x1:HS×(Option Addr)×Nat×Nat)=>(.reg (rg [.g,(aN x1.2.2.1),(aB (decide (0<x1.2.2.1)))]) (.br (.openr (qJz b) (.reg (rg [.g,.g,.g,.g,.g,.g,v1F,(aQ (x1.1.n%64)),(.as (vS (some ⟨c,(8+((x1.1.n%64).toNat)),none⟩) (64-(x1.1.n%64).toNat) (64-(x1.1.n%64).toNat))),.g,(.oth [(0,false),(2,true)] 0 0 (fun _=>nat (v0J x1)) (fun _=>[some ⟨c,true,0,qA1 (HS.mk x1.1.s (cz b x1) x1.1.n)⟩,none])),.g]) (.reg (rg [.g,.g,(.as (vS (qBF x1.2.1 x1.2.2.2 (v0J x1) 1) (x1.2.2.1-(v0J x1)) (x1.2.2.2-(v0J x1)))),.g]) (.reg (rg [.g,.g,.g,v1F,.g,(aQ (uO (v0J x1))),(aQ (x1.1.n+(uO (v0J x1)))),.g,.g,(.stc 0 (.lit 72) (qA1 (v6B x1 b)))]) (.reg (rg [.g,.g,.g,v1F,(aQ ((x1.1.n+(uO (v0J x1)))%64)),(aB (((x1.1.n+(uO (v0J x1)))%64)==0))]) (.br (.reg (rg [.g,.g,.g,.g,v0j,.g,.g,.g,(.ld 0 (.lit 8)),(.callF [] 0 0 (fun _=>(qBJ 8 (fun k=>u32 (qHF x1.1.s (cz b x1) k)))) (fun _=>[])),.g,.g,(.stc 0 (.lit 0) (qA1 (HS.mk (qHF x1.1.s (cz b x1)) (cz b x1) (x1.1.n+(uO (v0J x1))))))]) .done) .done)))))) .done)))))) (.inv [0,1] [0] 1 (qCA c H b) (qFd c H b) (qCe c H b) ((H,b.wa,b.wn,b.wc):HS×(Option Addr)×Nat×Nat) (fun(x2:HS×(Option Addr)×Nat×Nat)=>(.reg (rg [.g,(aN x2.2.2.1),(aB (decide (0<x2.2.2.1)))]) (.br (.openr (qJz b) (.reg (rg [.g,.g,.g,.g,.g,.g,v1F,(aQ (x2.1.n%64)),(.as (vS (some ⟨c,(8+((x2.1.n%64).toNat)),none⟩) (64-(x2.1.n%64).toNat) (64-(x2.1.n%64).toNat))),.g,(.oth [(0,false),(1,true)] 0 0 (fun _=>nat (v0K x2)) (fun _=>[some ⟨c,true,0,qA1 (HS.mk x2.1.s (cz b x2) x2.1.n)⟩,none])),.g]) (.reg (rg [.g,.g,(.as (vS (qBF x2.2.1 x2.2.2.2 (v0K x2) 1) (x2.2.2.1-(v0K x2)) (x2.2.2.2-(v0K x2)))),.g]) (.reg (rg [.g,.g,.g,v1F,.g,(aQ (uO (v0K x2))),(aQ (x2.1.n+(uO (v0K x2)))),.g,.g,(.stc 0 (.lit 72) (qA1 (v6C x2 b)))]) (.reg (rg [.g,.g,.g,v1F,(aQ ((x2.1.n+(uO (v0K x2)))%64)),(aB (((x2.1.n+(uO (v0K x2)))%64)==0))]) (.br (.reg (rg [.g,.g,.g,.g,v0j,.g,.g,.g,(.ld 0 (.lit 8)),(.callF [] 0 0 (fun _=>(qBJ 8 (fun k=>u32 (qHF x2.1.s (cz b x2) k)))) (fun _=>[])),.g,.g,(.stc 0 (.lit 0) (qA1 (HS.mk (qHF x2.1.s (cz b x2)) (cz b x2) (x2.1.n+(uO (v0K x2))))))]) .done) .done)))))) .done)))))) [] [] rfl
  (have f0:=hb.len;have f1:=hb.cap;Eq.mp (by kernel_rfl) (aI (sK3 (aI (v3w c) (aI (aT (@wF0 8 H.n 0)) tV))) (aT (aI (fun(h1:(H.n==0)=true)=>aI (Or.inl (Or.inl rfl):qKp b jFV) (aI (sk (aI (aT (ad 1 0)) (sK2 (aI (aT (aT (aI (v5y c) (qNp H qQt)))) tV)))) (aI (show(qCB c H b) (((HS.mk qQt H.l H.n),b.wa,b.wn,b.wc):HS×(Option Addr)×Nat×Nat) from(show(b.wn≤b.wn)∧(b.wn≤b.wc)∧((HS.mk qQt H.l H.n)=qFC (qFm H) b.wf (b.wn-b.wn))∧(0<b.wn→b.wa=some ⟨b.wb,b.wo+(b.wn-b.wn),none⟩)∧(b.wc≤b.wc) from by exact qVd hb (by first|exact(if_pos (by assumption)).symm|exact(if_neg (by simp_all)).symm))) (aI (@rfl St ((qFj c H b) (((HS.mk qQt H.l H.n),b.wa,b.wn,b.wc):HS×(Option Addr)×Nat×Nat))) (fun(x1:HS×(Option Addr)×Nat×Nat) (hx1:(qCB c H b) x1)=>have B0:x1.2.2.1≤b.wn:=hx1.1;have B1:x1.2.2.1≤x1.2.2.2:=hx1.2.1;have B2:x1.1=qFC (qFm H) b.wf (b.wn-x1.2.2.1):=hx1.2.2.1;have B3:0<x1.2.2.1→x1.2.1=some ⟨b.wb,b.wo+(b.wn-x1.2.2.1),none⟩:=hx1.2.2.2.1;have B4:x1.2.2.2≤b.wc:=hx1.2.2.2.2;aI (sk (aI (aT (@wG0 14 x1.2.1 x1.2.2.1 x1.2.2.2)) (aI (aT (@wH0 15  x1.2.2.1 0)) tV))) (aT (aI (fun(h2:(decide (0<x1.2.2.1))=true)=>have f8:=(oT h2);aI (Or.inr ⟨(show 0<b.wn from by omega),rfl⟩:qKp b (qJz b)) (aI (sK4 (sK2 (aI (v3w c) (aI (aT (@wI0 23 x1.1.n 64 (by decide))) (aI (aT (@wJ0 19 24 c 8 (x1.1.n%64).toNat .u64 (qD1 _))) (sk (aI (aT (qKh (P:=TP) (dT:=29) (sT:=29) (ty:=3) (e:=5) (by kernel_rfl) (by kernel_rfl) x1.1 b.wf c b.wb b.wo (b.wn-x1.2.2.1) (x1.1.n%64).toNat x1.2.2.1 x1.2.2.2 (64-(x1.1.n%64).toNat) b.wn (qD1 _) (show(b.wn-x1.2.2.1)+x1.2.2.1≤b.wn from by omega) (by exact B3 (by omega)))) kV1))))))) (aI (sK2 (aI (aT (@wK0 28 29 x1.2.1 x1.2.2.1 x1.2.2.2 (v0J x1) (show min x1.2.2.1 (64-(x1.1.n%64).toNat)≤x1.2.2.1∧x1.2.2.1≤x1.2.2.2 from by omega))) kV1)) (aI (sK3 (aI (v3w c) (sk (aI (aT (@wL0 35 (v0J x1))) (aI (aT (@qBW TP 23 23 (.tmp 34) (.tmp 36) x1.1.n (uO (v0J x1)))) (sK2 (aI (aT (aT (aI (@rfl Value (ptr c 72)) (qZv (HS.mk x1.1.s (cz b x1) x1.1.n) (x1.1.n+(uO (v0J x1))))))) tV))))))) (aI (sK3 (aI (v3w c) (aI (aT (@wI0 43 (x1.1.n+(uO (v0J x1))) 64 (by decide))) (aI (aT (@wF0 44 ((x1.1.n+(uO (v0J x1)))%64) 0)) tV)))) (aT (aI (fun(h3:(((x1.1.n+(uO (qDN x1.2.2.1 x1.1)))%64)==0)=true)=>aI (sK4 (aI (aT (ad c 0)) (sK3 (aI (aT (ad c 8)) (aI (aT (qAt.mono (fun(x:Blk) (h:qHU x)=>(Or.inl h:qKp b x)) (qVK x1.1.s (cz b x1)))) (sK2 (aI (aT (aT (aI (v5y c) (qNp (v6B x1 b) (qHF x1.1.s (cz b x1)))))) tV))))))) ((rnd (qCB c H b) (qFj c H b) (qCa c H b) x1 (((HS.mk (qHF x1.1.s (cz b x1)) (cz b x1) (x1.1.n+(uO (v0J x1)))),(qBF x1.2.1 x1.2.2.2 (v0J x1) 1),x1.2.2.1-(v0J x1),x1.2.2.2-(v0J x1)):HS×(Option Addr)×Nat×Nat) (show(qCB c H b) (((HS.mk (qHF x1.1.s (cz b x1)) (cz b x1) (x1.1.n+(uO (min x1.2.2.1 (64-(x1.1.n%64).toNat))))),(qBF x1.2.1 x1.2.2.2 (min x1.2.2.1 (64-(x1.1.n%64).toNat)) 1),x1.2.2.1-(min x1.2.2.1 (64-(x1.1.n%64).toNat)),x1.2.2.2-(min x1.2.2.1 (64-(x1.1.n%64).toNat))):HS×(Option Addr)×Nat×Nat)∧(qCa c H b) (((HS.mk (qHF x1.1.s (cz b x1)) (cz b x1) (x1.1.n+(uO (min x1.2.2.1 (64-(x1.1.n%64).toNat))))),(qBF x1.2.1 x1.2.2.2 (min x1.2.2.1 (64-(x1.1.n%64).toNat)) 1),x1.2.2.1-(min x1.2.2.1 (64-(x1.1.n%64).toNat)),x1.2.2.2-(min x1.2.2.1 (64-(x1.1.n%64).toNat))):HS×(Option Addr)×Nat×Nat)<(qCa c H b) x1 from(show(((x1.2.2.1-(min x1.2.2.1 (64-(x1.1.n%64).toNat)))≤b.wn)∧((x1.2.2.1-(min x1.2.2.1 (64-(x1.1.n%64).toNat)))≤(x1.2.2.2-(min x1.2.2.1 (64-(x1.1.n%64).toNat))))∧((HS.mk (qHF x1.1.s (cz b x1)) (cz b x1) (x1.1.n+(uO (min x1.2.2.1 (64-(x1.1.n%64).toNat)))))=qFC (qFm H) b.wf (b.wn-(x1.2.2.1-(min x1.2.2.1 (64-(x1.1.n%64).toNat)))))∧(0<(x1.2.2.1-(min x1.2.2.1 (64-(x1.1.n%64).toNat)))→(qBF x1.2.1 x1.2.2.2 (min x1.2.2.1 (64-(x1.1.n%64).toNat)) 1)=some ⟨b.wb,b.wo+(b.wn-(x1.2.2.1-(min x1.2.2.1 (64-(x1.1.n%64).toNat)))),none⟩)∧((x1.2.2.2-(min x1.2.2.1 (64-(x1.1.n%64).toNat)))≤b.wc))∧(x1.2.2.1-(min x1.2.2.1 (64-(x1.1.n%64).toNat)))<x1.2.2.1 from by first|exact qGF (by omega) B0 B1 B2 B3 B4 (qXC rfl (by assumption)) rfl (qD1 _)|exact qGF (by omega) B0 B1 B2 B3 B4 (qRJ (by omega) rfl (by assumption)) rfl (qD1 _)))))) (fun(h3:(((x1.1.n+(uO (qDN x1.2.2.1 x1.1)))%64)==0)=false)=>(rnd (qCB c H b) (qFj c H b) (qCa c H b) x1 (((v6B x1 b),(qBF x1.2.1 x1.2.2.2 (v0J x1) 1),x1.2.2.1-(v0J x1),x1.2.2.2-(v0J x1)):HS×(Option Addr)×Nat×Nat) (show(qCB c H b) (((HS.mk x1.1.s (cz b x1) (x1.1.n+(uO (min x1.2.2.1 (64-(x1.1.n%64).toNat))))),(qBF x1.2.1 x1.2.2.2 (min x1.2.2.1 (64-(x1.1.n%64).toNat)) 1),x1.2.2.1-(min x1.2.2.1 (64-(x1.1.n%64).toNat)),x1.2.2.2-(min x1.2.2.1 (64-(x1.1.n%64).toNat))):HS×(Option Addr)×Nat×Nat)∧(qCa c H b) (((HS.mk x1.1.s (cz b x1) (x1.1.n+(uO (min x1.2.2.1 (64-(x1.1.n%64).toNat))))),(qBF x1.2.1 x1.2.2.2 (min x1.2.2.1 (64-(x1.1.n%64).toNat)) 1),x1.2.2.1-(min x1.2.2.1 (64-(x1.1.n%64).toNat)),x1.2.2.2-(min x1.2.2.1 (64-(x1.1.n%64).toNat))):HS×(Option Addr)×Nat×Nat)<(qCa c H b) x1 from(show(((x1.2.2.1-(min x1.2.2.1 (64-(x1.1.n%64).toNat)))≤b.wn)∧((x1.2.2.1-(min x1.2.2.1 (64-(x1.1.n%64).toNat)))≤(x1.2.2.2-(min x1.2.2.1 (64-(x1.1.n%64).toNat))))∧((HS.mk x1.1.s (cz b x1) (x1.1.n+(uO (min x1.2.2.1 (64-(x1.1.n%64).toNat)))))=qFC (qFm H) b.wf (b.wn-(x1.2.2.1-(min x1.2.2.1 (64-(x1.1.n%64).toNat)))))∧(0<(x1.2.2.1-(min x1.2.2.1 (64-(x1.1.n%64).toNat)))→(qBF x1.2.1 x1.2.2.2 (min x1.2.2.1 (64-(x1.1.n%64).toNat)) 1)=some ⟨b.wb,b.wo+(b.wn-(x1.2.2.1-(min x1.2.2.1 (64-(x1.1.n%64).toNat)))),none⟩)∧((x1.2.2.2-(min x1.2.2.1 (64-(x1.1.n%64).toNat)))≤b.wc))∧(x1.2.2.1-(min x1.2.2.1 (64-(x1.1.n%64).toNat)))<x1.2.2.1 from by first|exact qGF (by omega) B0 B1 B2 B3 B4 (qXC rfl (by assumption)) rfl (qD1 _)|exact qGF (by omega) B0 B1 B2 B3 B4 (qRJ (by omega) rfl (by assumption)) rfl (qD1 _)))))))))))) (fun(h2:(decide (0<x1.2.2.1))=false)=>have f8:=(oF h2);aT (eX (fun(ns:List Nat)=>ns.length=0∧((vT #[]):Value)=(fun _=>vT #[]) ns∧([some ⟨c,true,0,(qA1 x1.1)⟩]:List (Option Blk))=(fun _=>[some ⟨c,true,0,(qA1 (wrH H b.wf b.wn))⟩]) ns) [] (aI v0b (aI v10 ((show([some ⟨c,true,0,(qA1 x1.1)⟩]:List (Option Blk))=[some ⟨c,true,0,(qA1 (wrH H b.wf b.wn))⟩] from by rw[qYM B2 (by omega)]))))))))))))) (fun(h1:(H.n==0)=false)=>aI (show(qCA c H b) ((H,b.wa,b.wn,b.wc):HS×(Option Addr)×Nat×Nat) from(show(b.wn≤b.wn)∧(b.wn≤b.wc)∧(H=qFC (qFm H) b.wf (b.wn-b.wn))∧(0<b.wn→b.wa=some ⟨b.wb,b.wo+(b.wn-b.wn),none⟩)∧(b.wc≤b.wc) from by exact qVd hb (by first|exact(if_pos (by assumption)).symm|exact(if_neg (by simp_all)).symm))) (aI (@rfl St ((qFd c H b) ((H,b.wa,b.wn,b.wc):HS×(Option Addr)×Nat×Nat))) (fun(x2:HS×(Option Addr)×Nat×Nat) (hx2:(qCA c H b) x2)=>have B0:x2.2.2.1≤b.wn:=hx2.1;have B1:x2.2.2.1≤x2.2.2.2:=hx2.2.1;have B2:x2.1=qFC (qFm H) b.wf (b.wn-x2.2.2.1):=hx2.2.2.1;have B3:0<x2.2.2.1→x2.2.1=some ⟨b.wb,b.wo+(b.wn-x2.2.2.1),none⟩:=hx2.2.2.2.1;have B4:x2.2.2.2≤b.wc:=hx2.2.2.2.2;aI (sk (aI (aT (@wG0 14 x2.2.1 x2.2.2.1 x2.2.2.2)) (aI (aT (@wH0 15  x2.2.2.1 0)) tV))) (aT (aI (fun(h4:(decide (0<x2.2.2.1))=true)=>have f8:=(oT h4);aI (Or.inr ⟨(show 0<b.wn from by omega),rfl⟩:qKp b (qJz b)) (aI (sK4 (sK2 (aI (v3w c) (aI (aT (@wI0 23 x2.1.n 64 (by decide))) (aI (aT (@wJ0 19 24 c 8 (x2.1.n%64).toNat .u64 (qD1 _))) (sk (aI (aT (qKh (P:=TP) (dT:=29) (sT:=29) (ty:=3) (e:=5) (by kernel_rfl) (by kernel_rfl) x2.1 b.wf c b.wb b.wo (b.wn-x2.2.2.1) (x2.1.n%64).toNat x2.2.2.1 x2.2.2.2 (64-(x2.1.n%64).toNat) b.wn (qD1 _) (show(b.wn-x2.2.2.1)+x2.2.2.1≤b.wn from by omega) (by exact B3 (by omega)))) kV1))))))) (aI (sK2 (aI (aT (@wK0 28 29 x2.2.1 x2.2.2.1 x2.2.2.2 (v0K x2) (show min x2.2.2.1 (64-(x2.1.n%64).toNat)≤x2.2.2.1∧x2.2.2.1≤x2.2.2.2 from by omega))) kV1)) (aI (sK3 (aI (v3w c) (sk (aI (aT (@wL0 35 (v0K x2))) (aI (aT (@qBW TP 23 23 (.tmp 34) (.tmp 36) x2.1.n (uO (v0K x2)))) (sK2 (aI (aT (aT (aI (@rfl Value (ptr c 72)) (qZv (HS.mk x2.1.s (cz b x2) x2.1.n) (x2.1.n+(uO (v0K x2))))))) tV))))))) (aI (sK3 (aI (v3w c) (aI (aT (@wI0 43 (x2.1.n+(uO (v0K x2))) 64 (by decide))) (aI (aT (@wF0 44 ((x2.1.n+(uO (v0K x2)))%64) 0)) tV)))) (aT (aI (fun(h5:(((x2.1.n+(uO (qDN x2.2.2.1 x2.1)))%64)==0)=true)=>aI (sK4 (aI (aT (ad c 0)) (sK3 (aI (aT (ad c 8)) (aI (aT (qAt.mono (fun(x:Blk) (h:qHU x)=>(Or.inl h:qKp b x)) (qVK x2.1.s (cz b x2)))) (sK2 (aI (aT (aT (aI (v5y c) (qNp (v6C x2 b) (qHF x2.1.s (cz b x2)))))) tV))))))) ((rnd (qCA c H b) (qFd c H b) (qCe c H b) x2 (((HS.mk (qHF x2.1.s (cz b x2)) (cz b x2) (x2.1.n+(uO (v0K x2)))),(qBF x2.2.1 x2.2.2.2 (v0K x2) 1),x2.2.2.1-(v0K x2),x2.2.2.2-(v0K x2)):HS×(Option Addr)×Nat×Nat) (show(qCA c H b) (((HS.mk (qHF x2.1.s (cz b x2)) (cz b x2) (x2.1.n+(uO (min x2.2.2.1 (64-(x2.1.n%64).toNat))))),(qBF x2.2.1 x2.2.2.2 (min x2.2.2.1 (64-(x2.1.n%64).toNat)) 1),x2.2.2.1-(min x2.2.2.1 (64-(x2.1.n%64).toNat)),x2.2.2.2-(min x2.2.2.1 (64-(x2.1.n%64).toNat))):HS×(Option Addr)×Nat×Nat)∧(qCe c H b) (((HS.mk (qHF x2.1.s (cz b x2)) (cz b x2) (x2.1.n+(uO (min x2.2.2.1 (64-(x2.1.n%64).toNat))))),(qBF x2.2.1 x2.2.2.2 (min x2.2.2.1 (64-(x2.1.n%64).toNat)) 1),x2.2.2.1-(min x2.2.2.1 (64-(x2.1.n%64).toNat)),x2.2.2.2-(min x2.2.2.1 (64-(x2.1.n%64).toNat))):HS×(Option Addr)×Nat×Nat)<(qCe c H b) x2 from(show(((x2.2.2.1-(min x2.2.2.1 (64-(x2.1.n%64).toNat)))≤b.wn)∧((x2.2.2.1-(min x2.2.2.1 (64-(x2.1.n%64).toNat)))≤(x2.2.2.2-(min x2.2.2.1 (64-(x2.1.n%64).toNat))))∧((HS.mk (qHF x2.1.s (cz b x2)) (cz b x2) (x2.1.n+(uO (min x2.2.2.1 (64-(x2.1.n%64).toNat)))))=qFC (qFm H) b.wf (b.wn-(x2.2.2.1-(min x2.2.2.1 (64-(x2.1.n%64).toNat)))))∧(0<(x2.2.2.1-(min x2.2.2.1 (64-(x2.1.n%64).toNat)))→(qBF x2.2.1 x2.2.2.2 (min x2.2.2.1 (64-(x2.1.n%64).toNat)) 1)=some ⟨b.wb,b.wo+(b.wn-(x2.2.2.1-(min x2.2.2.1 (64-(x2.1.n%64).toNat)))),none⟩)∧((x2.2.2.2-(min x2.2.2.1 (64-(x2.1.n%64).toNat)))≤b.wc))∧(x2.2.2.1-(min x2.2.2.1 (64-(x2.1.n%64).toNat)))<x2.2.2.1 from by first|exact qGF (by omega) B0 B1 B2 B3 B4 (qXC rfl (by assumption)) rfl (qD1 _)|exact qGF (by omega) B0 B1 B2 B3 B4 (qRJ (by omega) rfl (by assumption)) rfl (qD1 _)))))) (fun(h5:(((x2.1.n+(uO (qDN x2.2.2.1 x2.1)))%64)==0)=false)=>(rnd (qCA c H b) (qFd c H b) (qCe c H b) x2 (((v6C x2 b),(qBF x2.2.1 x2.2.2.2 (v0K x2) 1),x2.2.2.1-(v0K x2),x2.2.2.2-(v0K x2)):HS×(Option Addr)×Nat×Nat) (show(qCA c H b) (((HS.mk x2.1.s (cz b x2) (x2.1.n+(uO (min x2.2.2.1 (64-(x2.1.n%64).toNat))))),(qBF x2.2.1 x2.2.2.2 (min x2.2.2.1 (64-(x2.1.n%64).toNat)) 1),x2.2.2.1-(min x2.2.2.1 (64-(x2.1.n%64).toNat)),x2.2.2.2-(min x2.2.2.1 (64-(x2.1.n%64).toNat))):HS×(Option Addr)×Nat×Nat)∧(qCe c H b) (((HS.mk x2.1.s (cz b x2) (x2.1.n+(uO (min x2.2.2.1 (64-(x2.1.n%64).toNat))))),(qBF x2.2.1 x2.2.2.2 (min x2.2.2.1 (64-(x2.1.n%64).toNat)) 1),x2.2.2.1-(min x2.2.2.1 (64-(x2.1.n%64).toNat)),x2.2.2.2-(min x2.2.2.1 (64-(x2.1.n%64).toNat))):HS×(Option Addr)×Nat×Nat)<(qCe c H b) x2 from(show(((x2.2.2.1-(min x2.2.2.1 (64-(x2.1.n%64).toNat)))≤b.wn)∧((x2.2.2.1-(min x2.2.2.1 (64-(x2.1.n%64).toNat)))≤(x2.2.2.2-(min x2.2.2.1 (64-(x2.1.n%64).toNat))))∧((HS.mk x2.1.s (cz b x2) (x2.1.n+(uO (min x2.2.2.1 (64-(x2.1.n%64).toNat)))))=qFC (qFm H) b.wf (b.wn-(x2.2.2.1-(min x2.2.2.1 (64-(x2.1.n%64).toNat)))))∧(0<(x2.2.2.1-(min x2.2.2.1 (64-(x2.1.n%64).toNat)))→(qBF x2.2.1 x2.2.2.2 (min x2.2.2.1 (64-(x2.1.n%64).toNat)) 1)=some ⟨b.wb,b.wo+(b.wn-(x2.2.2.1-(min x2.2.2.1 (64-(x2.1.n%64).toNat)))),none⟩)∧((x2.2.2.2-(min x2.2.2.1 (64-(x2.1.n%64).toNat)))≤b.wc))∧(x2.2.2.1-(min x2.2.2.1 (64-(x2.1.n%64).toNat)))<x2.2.2.1 from by first|exact qGF (by omega) B0 B1 B2 B3 B4 (qXC rfl (by assumption)) rfl (qD1 _)|exact qGF (by omega) B0 B1 B2 B3 B4 (qRJ (by omega) rfl (by assumption)) rfl (qD1 _)))))))))))) (fun(h4:(decide (0<x2.2.2.1))=false)=>have f8:=(oF h4);aT (eX (fun(ns:List Nat)=>ns.length=0∧((vT #[]):Value)=(fun _=>vT #[]) ns∧([some ⟨c,true,0,(qA1 x2.1)⟩]:List (Option Blk))=(fun _=>[some ⟨c,true,0,(qA1 (wrH H b.wf b.wn))⟩]) ns) [] (aI v0b (aI v10 ((show([some ⟨c,true,0,(qA1 x2.1)⟩]:List (Option Blk))=[some ⟨c,true,0,(qA1 (wrH H b.wf b.wn))⟩] from by rw[qYM B2 (by omega)])))))))))))))))
def qOw {F:Blk→Prop} (hT:∀x,qHU x→F x) (c:Nat) (H:HS) (nm n cc:Nat) (f:Nat→UInt8) (B:Blk) (hn:B.has nm) (ho:B.own=false) (hH:∀w:World,qAn B w→qAn ⟨nm,false,0,qAd n fun k=>u8 (f k)⟩ w) (h1:n≤cc) (h2:n≤9223372036854775807):
  qAt F TP 65 [ptr c 0,.slice (some ⟨nm,0,none⟩) n cc] [⟨c,true,0,qA1 H⟩,B] 0 (fun _=>.tuple #[]) (fun _=>[some ⟨c,true,0,qA1 (wrH H f n)⟩,none]):=
 qAt.lendW (cs:=[B]) (qLf c H (qBO nm n cc f) (qFo h1 h2)) (qVA hT hH) (qPO hT hn) rfl (by simpa using ho)
def pz (n:UInt64):UInt64:=1+((119-(n%64))%64)
abbrev tz0 (n:UInt64):Nat→UInt8:=qAj (upd (fun _=>0) 0 128) ((pz n).toNat) (fun _=>((qAa (8*n) 56).toUInt8))
abbrev tz1 (n:UInt64):Nat→UInt8:=qAj (tz0 n) ((pz n).toNat+1) (fun _=>((qAa (8*n) 48).toUInt8))
abbrev tz2 (n:UInt64):Nat→UInt8:=qAj (tz1 n) ((pz n).toNat+1+1) (fun _=>((qAa (8*n) 40).toUInt8))
abbrev tz3 (n:UInt64):Nat→UInt8:=qAj (tz2 n) ((pz n).toNat+1+1+1) (fun _=>((qAa (8*n) 32).toUInt8))
abbrev tz4 (n:UInt64):Nat→UInt8:=qAj (tz3 n) ((pz n).toNat+1+1+1+1) (fun _=>((qAa (8*n) 24).toUInt8))
abbrev tz5 (n:UInt64):Nat→UInt8:=qAj (tz4 n) ((pz n).toNat+1+1+1+1+1) (fun _=>((qAa (8*n) 16).toUInt8))
abbrev tz6 (n:UInt64):Nat→UInt8:=qAj (tz5 n) ((pz n).toNat+1+1+1+1+1+1) (fun _=>((qAa (8*n) 8).toUInt8))
def wM0(a:Nat):=@qCh TP 23 23 (.const (.int .u64 8)) (.tmp a)
def wN0(a b:Nat):=@qBa TP 23 3 (.tmp a) (.tmp b)
def wO0(a:Nat):=@qAN TP 23 5 (.tmp a) (by kernel_rfl) (by kernel_rfl)
def v2P(n:UInt64):=aT (@wM0 19 8 n)
def v44(n24:Nat)(n:UInt64)(n25:Nat):=vS (some ⟨n24,0,none⟩) ((pz n).toNat+1+1+1+1+1+1+1+1) ((pz n).toNat+1+1+1+1+1+1+1+1+n25)
def qSj (n:UInt64):qBI TP 83 [(u64 n)] [] 2 (fun ns=>(Value.slice (some ⟨(ns.getD 0 0),0,none⟩) ((pz n).toNat+1+1+1+1+1+1+1+1) ((pz n).toNat+1+1+1+1+1+1+1+1+(ns.getD 1 0)))) (fun ns=>[some ⟨(ns.getD 0 0),true,0,(spr ((pz n).toNat+1+1+1+1+1+1+1+1+(ns.getD 1 0)) ((pz n).toNat+1+1+1+1+1+1+1+1) (fun k=>u8 (qEL n k)) (u8 0))⟩]):=
 qAl mix Tryz.func83 rfl rfl 400 (.reg (rg [.g]) (.reg (rg [.g,(aQ (n%64)),(aQ (119-(n%64))),(aQ ((119-(n%64))%64)),.g]) (.regn (rg [.g,(aQ (pz n)),(.oth [] 1 1 (fun ns=>vS (some ⟨ns.getD 0 0,0,none⟩) (pz n).toNat (((pz n).toNat)+(72-(pz n).toNat))) (fun ns=>[some ⟨ns.getD 0 0,true,0,(spr ((pz n).toNat+(72-(pz n).toNat)) (pz n).toNat (fun k=>u8 ((fun _=>0) k)) (u8 0))⟩])),.g]) (more (fun n1=>fun _=>(.reg (rg [.g,(.as (ptr n1 (0+0*1))),(.stc 0 (.tab 0 0) (spr ((pz n).toNat+(72-(pz n).toNat)) (pz n).toNat (fun k=>u8 (upd (fun _=>0) 0 128 k)) (u8 0)))]) (.reg (rg [.g]) (.unroll (.reg (rg [.g]) (.yes (.reg v00 (.regn (rg [.g,.g,(aQ (8*n)),.g,.g,.g,(aQ (qAa (8*n) 56)),(.as (jCa n)),(.oth [] 1 1 (fun ns=>vS (some ⟨ns.getD 0 0,0,none⟩) 1 1) (fun ns=>[some ⟨ns.getD 0 0,true,0,.lit [(jCa n)]⟩])),(.oth [(0,false),(1,true)] 2 0 (fun ns=>vS (some ⟨(g0 ns),0,none⟩) ((pz n).toNat+1) ((pz n).toNat+1+(g1 ns))) (fun ns=>[some ⟨(g0 ns),true,0,(spr ((pz n).toNat+1+(g1 ns)) ((pz n).toNat+1) (fun k=>u8 (qAj (upd (fun _=>0) 0 128) (pz n).toNat (fun _=>((qAa (8*n) 56).toUInt8)) k)) (u8 0))⟩,none])),.g]) (m3 fun n2 n3 n4=>(.reg v00 (.unroll (.reg (rg [.g]) (.yes (.reg v00 (.regn (rg [.g,.g,(aQ (8*n)),.g,.g,.g,(aQ (qAa (8*n) 48)),(.as (jB8 n)),(.oth [] 1 1 (fun ns=>vS (some ⟨ns.getD 0 0,0,none⟩) 1 1) (fun ns=>[some ⟨ns.getD 0 0,true,0,.lit [(jB8 n)]⟩])),(.oth [(0,false),(2,true)] 2 0 (fun ns=>vS (some ⟨(g0 ns),0,none⟩) ((pz n).toNat+1+1) ((pz n).toNat+1+1+(g1 ns))) (fun ns=>[some ⟨(g0 ns),true,0,(spr ((pz n).toNat+1+1+(g1 ns)) ((pz n).toNat+1+1) (fun k=>u8 (qAj (tz0 n) ((pz n).toNat+1) (fun _=>((qAa (8*n) 48).toUInt8)) k)) (u8 0))⟩,none])),.g]) (m3 fun n5 n6 n7=>(.reg v00 (.unroll (.reg (rg [.g]) (.yes (.reg v00 (.regn (rg [.g,.g,(aQ (8*n)),.g,.g,.g,(aQ (qAa (8*n) 40)),(.as (jB5 n)),(.oth [] 1 1 (fun ns=>vS (some ⟨ns.getD 0 0,0,none⟩) 1 1) (fun ns=>[some ⟨ns.getD 0 0,true,0,.lit [(jB5 n)]⟩])),(.oth [(0,false),(3,true)] 2 0 (fun ns=>vS (some ⟨(g0 ns),0,none⟩) ((pz n).toNat+1+1+1) ((pz n).toNat+1+1+1+(g1 ns))) (fun ns=>[some ⟨(g0 ns),true,0,(spr ((pz n).toNat+1+1+1+(g1 ns)) ((pz n).toNat+1+1+1) (fun k=>u8 (qAj (tz1 n) ((pz n).toNat+1+1) (fun _=>((qAa (8*n) 40).toUInt8)) k)) (u8 0))⟩,none])),.g]) (m3 fun n8 n9 n10=>(.reg v00 (.unroll (.reg (rg [.g]) (.yes (.reg v00 (.regn (rg [.g,.g,(aQ (8*n)),.g,.g,.g,(aQ (qAa (8*n) 32)),(.as (jB9 n)),(.oth [] 1 1 (fun ns=>vS (some ⟨ns.getD 0 0,0,none⟩) 1 1) (fun ns=>[some ⟨ns.getD 0 0,true,0,.lit [(jB9 n)]⟩])),(.oth [(0,false),(4,true)] 2 0 (fun ns=>vS (some ⟨(g0 ns),0,none⟩) ((pz n).toNat+1+1+1+1) ((pz n).toNat+1+1+1+1+(g1 ns))) (fun ns=>[some ⟨(g0 ns),true,0,(spr ((pz n).toNat+1+1+1+1+(g1 ns)) ((pz n).toNat+1+1+1+1) (fun k=>u8 (qAj (tz2 n) ((pz n).toNat+1+1+1) (fun _=>((qAa (8*n) 32).toUInt8)) k)) (u8 0))⟩,none])),.g]) (m3 fun n11 n12 n13=>(.reg v00 (.unroll (.reg (rg [.g]) (.yes (.reg v00 (.regn (rg [.g,.g,(aQ (8*n)),.g,.g,.g,(aQ (qAa (8*n) 24)),(.as (jCy n)),(.oth [] 1 1 (fun ns=>vS (some ⟨ns.getD 0 0,0,none⟩) 1 1) (fun ns=>[some ⟨ns.getD 0 0,true,0,.lit [(jCy n)]⟩])),(.oth [(0,false),(5,true)] 2 0 (fun ns=>vS (some ⟨(g0 ns),0,none⟩) ((pz n).toNat+1+1+1+1+1) ((pz n).toNat+1+1+1+1+1+(g1 ns))) (fun ns=>[some ⟨(g0 ns),true,0,(spr ((pz n).toNat+1+1+1+1+1+(g1 ns)) ((pz n).toNat+1+1+1+1+1) (fun k=>u8 (qAj (tz3 n) ((pz n).toNat+1+1+1+1) (fun _=>((qAa (8*n) 24).toUInt8)) k)) (u8 0))⟩,none])),.g]) (m3 fun n14 n15 n16=>(.reg v00 (.unroll (.reg (rg [.g]) (.yes (.reg v00 (.regn (rg [.g,.g,(aQ (8*n)),.g,.g,.g,(aQ (qAa (8*n) 16)),(.as (jCr n)),(.oth [] 1 1 (fun ns=>vS (some ⟨ns.getD 0 0,0,none⟩) 1 1) (fun ns=>[some ⟨ns.getD 0 0,true,0,.lit [(jCr n)]⟩])),(.oth [(0,false),(6,true)] 2 0 (fun ns=>vS (some ⟨(g0 ns),0,none⟩) ((pz n).toNat+1+1+1+1+1+1) ((pz n).toNat+1+1+1+1+1+1+(g1 ns))) (fun ns=>[some ⟨(g0 ns),true,0,(spr ((pz n).toNat+1+1+1+1+1+1+(g1 ns)) ((pz n).toNat+1+1+1+1+1+1) (fun k=>u8 (qAj (tz4 n) ((pz n).toNat+1+1+1+1+1) (fun _=>((qAa (8*n) 16).toUInt8)) k)) (u8 0))⟩,none])),.g]) (m3 fun n17 n18 n19=>(.reg v00 (.unroll (.reg (rg [.g]) (.yes (.reg v00 (.regn (rg [.g,.g,(aQ (8*n)),.g,.g,.g,(aQ (qAa (8*n) 8)),(.as (jCw n)),(.oth [] 1 1 (fun ns=>vS (some ⟨ns.getD 0 0,0,none⟩) 1 1) (fun ns=>[some ⟨ns.getD 0 0,true,0,.lit [(jCw n)]⟩])),(.oth [(0,false),(7,true)] 2 0 (fun ns=>vS (some ⟨(g0 ns),0,none⟩) ((pz n).toNat+1+1+1+1+1+1+1) ((pz n).toNat+1+1+1+1+1+1+1+(g1 ns))) (fun ns=>[some ⟨(g0 ns),true,0,(spr ((pz n).toNat+1+1+1+1+1+1+1+(g1 ns)) ((pz n).toNat+1+1+1+1+1+1+1) (fun k=>u8 (qAj (tz5 n) ((pz n).toNat+1+1+1+1+1+1) (fun _=>((qAa (8*n) 8).toUInt8)) k)) (u8 0))⟩,none])),.g]) (m3 fun n20 n21 n22=>(.reg v00 (.unroll (.reg (rg [.g]) (.yes (.reg v00 (.regn (rg [.g,.g,(aQ (8*n)),.g,.g,.g,(aQ (qAa (8*n) 0)),(.as (qR0 n)),(.oth [] 1 1 (fun ns=>vS (some ⟨ns.getD 0 0,0,none⟩) 1 1) (fun ns=>[some ⟨ns.getD 0 0,true,0,.lit [(qR0 n)]⟩])),(.oth [(0,false),(8,true)] 2 0 (fun ns=>vS (some ⟨(g0 ns),0,none⟩) ((pz n).toNat+1+1+1+1+1+1+1+1) ((pz n).toNat+1+1+1+1+1+1+1+1+(g1 ns))) (fun ns=>[some ⟨(g0 ns),true,0,(spr ((pz n).toNat+1+1+1+1+1+1+1+1+(g1 ns)) ((pz n).toNat+1+1+1+1+1+1+1+1) (fun k=>u8 (qAj (tz6 n) ((pz n).toNat+1+1+1+1+1+1+1) (fun _=>((qAa (8*n) 0).toUInt8)) k)) (u8 0))⟩,none])),.g]) (m3 fun n23 n24 n25=>v6X)))))))))))))))))))))))))))))))))))))))))))))))))))))))))))))) [] [0] rfl
  (have f0:0<(pz n).toNat∧(pz n).toNat≤64:=(qEn n);Eq.mp (by kernel_rfl) (aI kV1 (aI (sk (aI (aT (@wI0 6 n 64 (by decide))) (aI (aT (@qQL TP 23 23 (.const (.int .u64 119)) (.tmp 7) 119 (n%64))) (aI (aT (@wI0 8 (119-(n%64)) 64 (by decide))) kV1)))) (fun(n1:Nat)=>aI (sk (aI (aT (@qBW TP 23 23 (.const (.int .u64 1)) (.tmp 10) 1 ((119-(n%64))%64))) (aI (aT (qQs (P:=TP) (t:=29) (e:=5) (by kernel_rfl) qDK (pz n).toNat 72 .u64 .i64 (show(pz n).toNat≤72 from by omega) (show(1:Int)*((72:Nat):Int)≤281474976710656∧72≤9223372036854775807 from by omega) u8 0 rfl)) kV1))) (aI (sk (aI (aT (@qAk TP 29 5 (.tmp 13) (.const (.int .i64 0)) 1 (by kernel_rfl) (by kernel_rfl) n1 0 (pz n).toNat ((pz n).toNat+(72-(pz n).toNat)) 0 (show 0<(pz n).toNat from by omega))) (aI (aT (aI (show 0<(pz n).toNat+(72-(pz n).toNat) from by omega) (aI (@rfl Value (ptr n1 (0+0*1))) (qT9 ((pz n).toNat+(72-(pz n).toNat)) (pz n).toNat u8 (fun _=>0) (u8 0) 0 128 (show 0<(pz n).toNat from by omega))))) tV))) (aI kV1 (aI kV1 (aT (aI v01 (aI kV2 (fun(n2 n3 n4:Nat)=>aI (sK2 (aI (v2P n) (sK3 (aI (aT (@wN0 20 23 (8*n) .i64 56)) (aI (aT (@wO0 24 (qAa (8*n) 56))) (aI (aT (qAO (P:=TP) (t:=29) (e:=5) qDK 1 #[(0,(jCa n))] #[(jCa n)] (by kernel_rfl) (by decide) (by kernel_rfl))) (aI (aT (qAu.dark [false,true] (qAZ (P:=TP) (t:=29) (ty:=29) (e:=5) (by kernel_rfl) qDK n1 (pz n).toNat (72-(pz n).toNat) n2 0 0 1 1 u8 (upd (fun _=>0) 0 128) (fun _=>((qAa (8*n) 56).toUInt8)) (.lit [(jCa n)]) (qBy (jCa n)) (fun _=>rfl) (show((pz n).toNat+1)*1≤140737488355328∧(pz n).toNat+1≤9223372036854775807 from by omega)))) kV1))))))) (aI kV2 (aI kV1 (aT (aI v01 (aI kV2 (fun(n5 n6 n7:Nat)=>aI (sK2 (aI (v2P n) (sK3 (aI (aT (@wN0 20 23 (8*n) .i64 48)) (aI (aT (@wO0 24 (qAa (8*n) 48))) (aI (aT (qAO (P:=TP) (t:=29) (e:=5) qDK 1 #[(0,(jB8 n))] #[(jB8 n)] (by kernel_rfl) (by decide) (by kernel_rfl))) (aI (aT (qAu.dark [false,true] (qAZ (P:=TP) (t:=29) (ty:=29) (e:=5) (by kernel_rfl) qDK n3 ((pz n).toNat+1) n4 n5 0 0 1 1 u8 (tz0 n) (fun _=>((qAa (8*n) 48).toUInt8)) (.lit [(jB8 n)]) (qBy (jB8 n)) (fun _=>rfl) (show((pz n).toNat+1+1)*1≤140737488355328∧(pz n).toNat+1+1≤9223372036854775807 from by omega)))) kV1))))))) (aI kV2 (aI kV1 (aT (aI v01 (aI kV2 (fun(n8 n9 n10:Nat)=>aI (sK2 (aI (v2P n) (sK3 (aI (aT (@wN0 20 23 (8*n) .i64 40)) (aI (aT (@wO0 24 (qAa (8*n) 40))) (aI (aT (qAO (P:=TP) (t:=29) (e:=5) qDK 1 #[(0,(jB5 n))] #[(jB5 n)] (by kernel_rfl) (by decide) (by kernel_rfl))) (aI (aT (qAu.dark [false,true] (qAZ (P:=TP) (t:=29) (ty:=29) (e:=5) (by kernel_rfl) qDK n6 ((pz n).toNat+1+1) n7 n8 0 0 1 1 u8 (tz1 n) (fun _=>((qAa (8*n) 40).toUInt8)) (.lit [(jB5 n)]) (qBy (jB5 n)) (fun _=>rfl) (show((pz n).toNat+1+1+1)*1≤140737488355328∧(pz n).toNat+1+1+1≤9223372036854775807 from by omega)))) kV1))))))) (aI kV2 (aI kV1 (aT (aI v01 (aI kV2 (fun(n11 n12 n13:Nat)=>aI (sK2 (aI (v2P n) (sK3 (aI (aT (@wN0 20 23 (8*n) .i64 32)) (aI (aT (@wO0 24 (qAa (8*n) 32))) (aI (aT (qAO (P:=TP) (t:=29) (e:=5) qDK 1 #[(0,(jB9 n))] #[(jB9 n)] (by kernel_rfl) (by decide) (by kernel_rfl))) (aI (aT (qAu.dark [false,true] (qAZ (P:=TP) (t:=29) (ty:=29) (e:=5) (by kernel_rfl) qDK n9 ((pz n).toNat+1+1+1) n10 n11 0 0 1 1 u8 (tz2 n) (fun _=>((qAa (8*n) 32).toUInt8)) (.lit [(jB9 n)]) (qBy (jB9 n)) (fun _=>rfl) (show((pz n).toNat+1+1+1+1)*1≤140737488355328∧(pz n).toNat+1+1+1+1≤9223372036854775807 from by omega)))) kV1))))))) (aI kV2 (aI kV1 (aT (aI v01 (aI kV2 (fun(n14 n15 n16:Nat)=>aI (sK2 (aI (v2P n) (sK3 (aI (aT (@wN0 20 23 (8*n) .i64 24)) (aI (aT (@wO0 24 (qAa (8*n) 24))) (aI (aT (qAO (P:=TP) (t:=29) (e:=5) qDK 1 #[(0,(jCy n))] #[(jCy n)] (by kernel_rfl) (by decide) (by kernel_rfl))) (aI (aT (qAu.dark [false,true] (qAZ (P:=TP) (t:=29) (ty:=29) (e:=5) (by kernel_rfl) qDK n12 ((pz n).toNat+1+1+1+1) n13 n14 0 0 1 1 u8 (tz3 n) (fun _=>((qAa (8*n) 24).toUInt8)) (.lit [(jCy n)]) (qBy (jCy n)) (fun _=>rfl) (show((pz n).toNat+1+1+1+1+1)*1≤140737488355328∧(pz n).toNat+1+1+1+1+1≤9223372036854775807 from by omega)))) kV1))))))) (aI kV2 (aI kV1 (aT (aI v01 (aI kV2 (fun(n17 n18 n19:Nat)=>aI (sK2 (aI (v2P n) (sK3 (aI (aT (@wN0 20 23 (8*n) .i64 16)) (aI (aT (@wO0 24 (qAa (8*n) 16))) (aI (aT (qAO (P:=TP) (t:=29) (e:=5) qDK 1 #[(0,(jCr n))] #[(jCr n)] (by kernel_rfl) (by decide) (by kernel_rfl))) (aI (aT (qAu.dark [false,true] (qAZ (P:=TP) (t:=29) (ty:=29) (e:=5) (by kernel_rfl) qDK n15 ((pz n).toNat+1+1+1+1+1) n16 n17 0 0 1 1 u8 (tz4 n) (fun _=>((qAa (8*n) 16).toUInt8)) (.lit [(jCr n)]) (qBy (jCr n)) (fun _=>rfl) (show((pz n).toNat+1+1+1+1+1+1)*1≤140737488355328∧(pz n).toNat+1+1+1+1+1+1≤9223372036854775807 from by omega)))) kV1))))))) (aI kV2 (aI kV1 (aT (aI v01 (aI kV2 (fun(n20 n21 n22:Nat)=>aI (sK2 (aI (v2P n) (sK3 (aI (aT (@wN0 20 23 (8*n) .i64 8)) (aI (aT (@wO0 24 (qAa (8*n) 8))) (aI (aT (qAO (P:=TP) (t:=29) (e:=5) qDK 1 #[(0,(jCw n))] #[(jCw n)] (by kernel_rfl) (by decide) (by kernel_rfl))) (aI (aT (qAu.dark [false,true] (qAZ (P:=TP) (t:=29) (ty:=29) (e:=5) (by kernel_rfl) qDK n18 ((pz n).toNat+1+1+1+1+1+1) n19 n20 0 0 1 1 u8 (tz5 n) (fun _=>((qAa (8*n) 8).toUInt8)) (.lit [(jCw n)]) (qBy (jCw n)) (fun _=>rfl) (show((pz n).toNat+1+1+1+1+1+1+1)*1≤140737488355328∧(pz n).toNat+1+1+1+1+1+1+1≤9223372036854775807 from by omega)))) kV1))))))) (aI kV2 (aI kV1 (aT (aI v01 (aI kV2 (fun(n23 n24 n25:Nat)=>aI (sK2 (aI (v2P n) (sK3 (aI (aT (@wN0 20 23 (8*n) .i64 0)) (aI (aT (@wO0 24 (qAa (8*n) 0))) (aI (aT (qAO (P:=TP) (t:=29) (e:=5) qDK 1 #[(0,(qR0 n))] #[(qR0 n)] (by kernel_rfl) (by decide) (by kernel_rfl))) (aI (aT (qAu.dark [false,true] (qAZ (P:=TP) (t:=29) (ty:=29) (e:=5) (by kernel_rfl) qDK n21 ((pz n).toNat+1+1+1+1+1+1+1) n22 n23 0 0 1 1 u8 (tz6 n) (fun _=>((qAa (8*n) 0).toUInt8)) (.lit [(qR0 n)]) (qBy (qR0 n)) (fun _=>rfl) (show((pz n).toNat+1+1+1+1+1+1+1+1)*1≤140737488355328∧(pz n).toNat+1+1+1+1+1+1+1+1≤9223372036854775807 from by omega)))) kV1))))))) (aI kV2 (aI kV1 (aT (aI v05 (aI kV2 (aT (eX (fun(ns:List Nat)=>ns.length=2∧((v44 n24 n n25):Value)=(fun ns=>(vS (some ⟨(g0 ns),0,none⟩) ((pz n).toNat+1+1+1+1+1+1+1+1) ((pz n).toNat+1+1+1+1+1+1+1+1+(g1 ns)))) ns∧([some ⟨n24,true,0,(spr ((pz n).toNat+1+1+1+1+1+1+1+1+n25) ((pz n).toNat+1+1+1+1+1+1+1+1) (fun k=>u8 (qAj (tz6 n) ((pz n).toNat+1+1+1+1+1+1+1) (fun _=>((qAa (8*n) 0).toUInt8)) k)) (u8 0))⟩]:List (Option Blk))=(fun ns=>[some ⟨(g0 ns),true,0,(spr ((pz n).toNat+1+1+1+1+1+1+1+1+(g1 ns)) ((pz n).toNat+1+1+1+1+1+1+1+1) (fun k=>u8 (qEL n k)) (u8 0))⟩]) ns) [n24,n25] (aI v0W (aI (@rfl Value (v44 n24 n n25)) ((show([some ⟨n24,true,0,(spr ((pz n).toNat+1+1+1+1+1+1+1+1+n25) ((pz n).toNat+1+1+1+1+1+1+1+1) (fun k=>u8 (qAj (tz6 n) ((pz n).toNat+1+1+1+1+1+1+1) (fun _=>((qAa (8*n) 0).toUInt8)) k)) (u8 0))⟩]:List (Option Blk))=[some ⟨n24,true,0,(spr ((pz n).toNat+1+1+1+1+1+1+1+1+n25) ((pz n).toNat+1+1+1+1+1+1+1+1) (fun k=>u8 (qEL n k)) (u8 0))⟩] from by unfold tz6 tz5 tz4 tz3 tz2 tz1 tz0 pz;rw[qRs (fun k hk=>congrArg u8 (qWA n k hk rfl))]))))))))))))))))))))))))))))))))))))))))))))))))))))))))))))))))
def qT8 (n:UInt64):qBI TP 83 [u64 n] [] 2 (fun ns=>.slice (some ⟨ns.getD 0 0,0,none⟩) (qBL n+8) (qBL n+8+ns.getD 1 0)) (fun ns=>[some ⟨ns.getD 0 0,true,0,spr (qBL n+8+ns.getD 1 0) (qBL n+8) (fun k=>u8 (qEL n k)) (u8 0)⟩]):=qSj n
def v4A(H:HS)(n4:Nat):=spr (qBL H.n+8+n4) (qBL H.n+8) (fun k=>u8 (qEL H.n k)) (u8 0)
def qJN (c:Nat) (H:HS) (n1:Nat) (n2:Nat) (n3:Nat) (n4:Nat) (n5:Nat) (x1:Nat×(Nat→UInt8)):St:=⟨[(2,.v (v1M n1)),(3,.v (ptr n2 0)),(4,.v (ptr n5 0)),(15,.v (nat x1.1))],[(0,some ⟨c,false,0,(qA1 H)⟩),(1,some ⟨n1,true,0,(.lit [(u8 0),(u8 0),(u8 0),(u8 0),(u8 0),(u8 0),(u8 0),(u8 0),(u8 0),(u8 0),(u8 0),(u8 0),(u8 0),(u8 0),(u8 0),(u8 0),(u8 0),(u8 0),(u8 0),(u8 0),(u8 0),(u8 0),(u8 0),(u8 0),(u8 0),(u8 0),(u8 0),(u8 0),(u8 0),(u8 0),(u8 0),(u8 0)])⟩),(2,some ⟨n2,true,0,(qA1 (qZy H))⟩),(3,some ⟨n3,true,0,(v4A H n4)⟩),(4,some ⟨n5,true,0,(qAd 32 (fun k=>u8 (x1.2 k)))⟩)],5⟩
def qFJ (c:Nat) (H:HS) (n1:Nat) (n2:Nat) (n3:Nat) (n4:Nat) (n5:Nat) (x1:Nat×(Nat→UInt8)):Prop:=(x1.1≤32)∧(x1.2=qMl (qZy H).s x1.1)
def qF8 (c:Nat) (H:HS) (n1:Nat) (n2:Nat) (n3:Nat) (n4:Nat) (n5:Nat) (x1:Nat×(Nat→UInt8)):Nat:=32-x1.1
def wP0(a:Nat):=@qAC TP 3 3 (.tmp a) (.const (.int .i64 32))
def wQ0(a:Nat):=@qL2 TP 3 3 (.tmp a) (.const (.int .i64 4))
def wR0(a:Nat):=@qAD TP 3 3 (.const (.int .i64 24)) (.tmp a)
def wS0(a:Nat):=@qLE TP 126 5 (.tmp a) (by kernel_rfl) (by kernel_rfl)
def wT0(a b:Nat):=@qAU TP 48 5 (.tmp a) (.tmp b) 1 32 (by kernel_rfl) (by kernel_rfl)
def v4s:=qEx 32 (fun k=>u8 ((fun _=>0) k))
def v6G:H:=.reg (rg [v1L,v15]) .done
def jBu (c:Nat) (H:HS):qAt qHU TP 67 [(ptr c 0)] [⟨c,false,0,(qA1 H)⟩] 0 (fun _=>qBJ 32 fun k=>u8 (qTh H k)) (fun _=>[some ⟨c,false,0,(qA1 H)⟩]):=
 qAm (F:=qHU) mix Tryz.func67 rfl rfl 400 (.regn v1f (more (fun n1=>fun _=>(.regn (rg [.g,(.call [(0,true)] 1 1 (fun ns=>ptr (g0 ns) 0) (fun ns=>[none,some ⟨ns.getD 0 0,true,0,qA1 H⟩])),.g]) (more (fun n2=>fun _=>(.regn (rg [.g,.g,.g,.g,v1F,(.call [] 2 1 (fun ns=>vS (some ⟨ns.getD 0 0,0,none⟩) (qBL H.n+8) (qBL H.n+8+ns.getD 1 0)) (fun ns=>[some ⟨(g0 ns),true,0,spr (qBL H.n+8+(g1 ns)) (qBL H.n+8) (fun k=>u8 (qEL H.n k)) (u8 0)⟩])),(.callF [(2,false),(3,true)] 0 0 (fun _=>(vT #[])) (fun _=>[some ⟨n2,true,0,qA1 (qZy H)⟩,none]))]) (m2 fun n3 n4=>(.regn v1f (more (fun n5=>fun _=>(.reg (rg [.g]) (.cast 4 v2J (.inv [2,3,4,15] [0,1,2,3,4] 5 (qFJ c H n1 n2 n3 n4 n5) (qJN c H n1 n2 n3 n4 n5) (qF8 c H n1 n2 n3 n4 n5) ((0,(fun _=>0)):Nat×(Nat→UInt8)) (fun(x1:Nat×(Nat→UInt8))=>(.reg (rg [(aB (decide (x1.1<32)))]) (.br (.reg v00 (.reg (rg [.g,.g,.g,(aN (x1.1/4)),.g,.g,(.as (ptr n2 (0+(x1.1/4)*1))),(.oth [(2,true)] 0 0 (fun _=>(u32 ((qZy H).s (x1.1/4)))) (fun _=>[none])),.g,(aN (x1.1%4)),(aN ((x1.1%4)*8)),(aN (24-((x1.1%4)*8))),(aU (jCx H x1.1)),(.as (u8 ((jCx H x1.1).toUInt8))),(.as (ptr n5 (0+x1.1*1))),(.stc 4 (.tab x1.1 0) (qAd 32 (fun k=>u8 (upd x1.2 x1.1 ((jCx H x1.1).toUInt8) k))))]) (.reg (rg [(aN (x1.1+1)),.g]) .done))) (.cast 4 (qDs 32 (fun k=>u8 (x1.2 k))) v6G)))))))))))))))))) [(1,0)] [] rfl
  (have f0:qBL H.n≤64:=(qEn H.n).2;Eq.mp (by kernel_rfl) (fun(n1:Nat)=>aI kV1 (fun(n2:Nat)=>aI (sk (aI (aT (qBI.dark [true] (qU9 c H))) kV1)) (fun(n3 n4:Nat)=>aI (sK4 (aI (v3w c) (aI (aT (qT8 H.n)) (aI (aT (qOw (fun(x:Blk) (h:qHU x)=>h) n2 H n3 (qBL H.n+8) (qBL H.n+8+n4) (qEL H.n) ⟨n3,false,0,(v4A H n4)⟩ rfl rfl (fun w h=>qBw h) (show qBL H.n+8≤qBL H.n+8+n4 from by have ft:=(qEn H.n);omega) (show qBL H.n+8≤9223372036854775807 from by have ft:=(qEn H.n);omega))) tV)))) ((have ft:=(qEn H.n);fun(n5:Nat)=>aI kV1 (aI kV1 (aI v4s (aI (show(qFJ c H n1 n2 n3 n4 n5) ((0,(fun _=>0)):Nat×(Nat→UInt8)) from(show(0≤32)∧((fun _=>0)=qMl (wrH H (qEL H.n) (qBL H.n+8)).s 0) from by exact⟨by omega,qOo _⟩)) (aI (@rfl St ((qJN c H n1 n2 n3 n4 n5) ((0,(fun _=>0)):Nat×(Nat→UInt8)))) (fun(x1:Nat×(Nat→UInt8)) (hx1:(qFJ c H n1 n2 n3 n4 n5) x1)=>have B0:x1.1≤32:=hx1.1;have B1:x1.2=qMl (qZy H).s x1.1:=hx1.2;aI (aI (aT (@wP0 15  x1.1 32)) tV) (aT (aI (fun(h1:(decide (x1.1<32))=true)=>have f4:=(oT h1);aI kV2 (aI (sK3 (aI (aT (@wv0 20  x1.1 4 (show 0<4∧x1.1≤9223372036854775807 from by omega))) (sK2 (aI (aT (@wE0 23 21 n2 0 (x1.1/4) (show x1.1/4<8 from by omega))) (aI (aT (qW9 (P:=TP) (t:=126) (by kernel_rfl) (qZy H) n2 (x1.1/4) (show x1.1/4<8 from by omega))) (sk (aI (aT (@wQ0 26  x1.1 4 (show 0<4 from by omega))) (aI (aT (@qCV TP 3 3 (.tmp 27) (.const (.int .i64 8))  (x1.1%4) 8 (show(x1.1%4)*8≤9223372036854775807 from by omega))) (aI (aT (@wR0 28  24 ((x1.1%4)*8) (show((x1.1%4)*8)≤24∧24-((x1.1%4)*8)≤9223372036854775807 from by omega))) (aI (aT (@wp0 25 29 ((qZy H).s (x1.1/4)) .i64 (24-((x1.1%4)*8)))) (aI (aT (@wS0 30 (jCx H x1.1))) (aI (aT (@wT0 4 18 n5 0 x1.1 (show x1.1<32 from by omega))) (aI (aT (aI (show x1.1<32 from by omega) (aI (@rfl Value (ptr n5 (0+x1.1*1))) (qCo 32 u8 x1.2 x1.1 ((jCx H x1.1).toUInt8))))) tV))))))))))))) (aI (aI (aT (@wy0 15  x1.1 1 (show x1.1+1≤9223372036854775807 from by omega))) kV1) ((rnd (qFJ c H n1 n2 n3 n4 n5) (qJN c H n1 n2 n3 n4 n5) (qF8 c H n1 n2 n3 n4 n5) x1 ((x1.1+1,upd x1.2 x1.1 ((jCx H x1.1).toUInt8)):Nat×(Nat→UInt8)) (show(((x1.1+1)≤32)∧((upd x1.2 x1.1 ((qAF ((wrH H (qEL H.n) (qBL H.n+8)).s (x1.1/4)) (24-((x1.1%4)*8))).toUInt8))=qMl (wrH H (qEL H.n) (qBL H.n+8)).s (x1.1+1)))∧(32-(x1.1+1))<(32-x1.1) from by exact⟨⟨by omega,qOi B1⟩,by omega⟩)))))) (fun(h1:(decide (x1.1<32))=false)=>have f4:=(oF h1);aI (qLZ 32 (fun k=>u8 (x1.2 k))) (aI (aI (v30 n5) (v6d n1)) (aI (v0z n1) (eX (fun(ns:List Nat)=>ns.length=0∧((qBJ 32 (fun k=>u8 (x1.2 k))):Value)=(fun _=>qBJ 32 fun k=>u8 (qTh H k)) ns∧([some ⟨c,false,0,(qA1 H)⟩]:List (Option Blk))=(fun _=>[some ⟨c,false,0,(qA1 H)⟩]) ns) [] (aI v0b (aI ((show(qBJ 32 (fun k=>u8 (x1.2 k)))=qBJ 32 (fun k=>u8 (qTh H k)) from by have e0:x1.1=32:=(by omega);exact qZB H B1 e0)) (@rfl (List (Option Blk)) [some ⟨c,false,0,(qA1 H)⟩]))))))))))))))))))))
abbrev qTw (a:BytL) (b:Nat):=qAa ((UInt64.ofNat a.wn)*8) (56-(8*b))
abbrev qPv (a b:Nat):=ptr a (0+b*1)
def v49(b:BytL):=vS b.wa b.wn b.wc
def qG7 (s:Nat→UInt32) (b:BytL) (n1:Nat) (n2:Nat) (n3:Nat) (n4:Nat) (x1:Nat×(Nat→UInt32)):St:=⟨[(1,.v (v49 b)),(2,.v (v1M n1)),(4,.v (ptr n2 0)),(5,.v (ptr n3 0)),(6,.v (ptr n4 0)),(7,.v (nat x1.1))],[(0,some ⟨n1,true,0,(v42 s)⟩),(1,some ⟨n2,true,0,(.lit [(u32 0),(u32 0),(u32 0),(u32 0),(u32 0),(u32 0),(u32 0),(u32 0)])⟩),(2,some ⟨n3,true,0,(.lit [(u32 1116352408),(u32 1899447441),(u32 3049323471),(u32 3921009573),(u32 961987163),(u32 1508970993),(u32 2453635748),(u32 2870763221),(u32 3624381080),(u32 310598401),(u32 607225278),(u32 1426881987),(u32 1925078388),(u32 2162078206),(u32 2614888103),(u32 3248222580),(u32 3835390401),(u32 4022224774),(u32 264347078),(u32 604807628),(u32 770255983),(u32 1249150122),(u32 1555081692),(u32 1996064986),(u32 2554220882),(u32 2821834349),(u32 2952996808),(u32 3210313671),(u32 3336571891),(u32 3584528711),(u32 113926993),(u32 338241895),(u32 666307205),(u32 773529912),(u32 1294757372),(u32 1396182291),(u32 1695183700),(u32 1986661051),(u32 2177026350),(u32 2456956037),(u32 2730485921),(u32 2820302411),(u32 3259730800),(u32 3345764771),(u32 3516065817),(u32 3600352804),(u32 4094571909),(u32 275423344),(u32 430227734),(u32 506948616),(u32 659060556),(u32 883997877),(u32 958139571),(u32 1322822218),(u32 1537002063),(u32 1747873779),(u32 1955562222),(u32 2024104815),(u32 2227730452),(u32 2361852424),(u32 2428436474),(u32 2756734187),(u32 3204031479),(u32 3329325298)])⟩),(3,some ⟨n4,true,0,(qAd 64 (fun k=>u32 (x1.2 k)))⟩)],4⟩
def qDX (s:Nat→UInt32) (b:BytL) (n1:Nat) (n2:Nat) (n3:Nat) (n4:Nat) (x1:Nat×(Nat→UInt32)):Prop:=(x1.1≤16)∧(x1.2=rw1 b.wf x1.1)
def qEg (s:Nat→UInt32) (b:BytL) (n1:Nat) (n2:Nat) (n3:Nat) (n4:Nat) (x1:Nat×(Nat→UInt32)):Nat:=16-x1.1
def qGV (s:Nat→UInt32) (b:BytL) (n1:Nat) (n2:Nat) (n3:Nat) (n4:Nat) (x1:Nat×(Nat→UInt32)) (x2:Nat×(Nat→UInt32)):St:=⟨[(2,.v (v1M n1)),(4,.v (ptr n2 0)),(5,.v (ptr n3 0)),(6,.v (ptr n4 0)),(8,.v (nat x2.1))],[(0,some ⟨n1,true,0,(v42 s)⟩),(1,some ⟨n2,true,0,(.lit [(u32 0),(u32 0),(u32 0),(u32 0),(u32 0),(u32 0),(u32 0),(u32 0)])⟩),(2,some ⟨n3,true,0,(.lit [(u32 1116352408),(u32 1899447441),(u32 3049323471),(u32 3921009573),(u32 961987163),(u32 1508970993),(u32 2453635748),(u32 2870763221),(u32 3624381080),(u32 310598401),(u32 607225278),(u32 1426881987),(u32 1925078388),(u32 2162078206),(u32 2614888103),(u32 3248222580),(u32 3835390401),(u32 4022224774),(u32 264347078),(u32 604807628),(u32 770255983),(u32 1249150122),(u32 1555081692),(u32 1996064986),(u32 2554220882),(u32 2821834349),(u32 2952996808),(u32 3210313671),(u32 3336571891),(u32 3584528711),(u32 113926993),(u32 338241895),(u32 666307205),(u32 773529912),(u32 1294757372),(u32 1396182291),(u32 1695183700),(u32 1986661051),(u32 2177026350),(u32 2456956037),(u32 2730485921),(u32 2820302411),(u32 3259730800),(u32 3345764771),(u32 3516065817),(u32 3600352804),(u32 4094571909),(u32 275423344),(u32 430227734),(u32 506948616),(u32 659060556),(u32 883997877),(u32 958139571),(u32 1322822218),(u32 1537002063),(u32 1747873779),(u32 1955562222),(u32 2024104815),(u32 2227730452),(u32 2361852424),(u32 2428436474),(u32 2756734187),(u32 3204031479),(u32 3329325298)])⟩),(3,some ⟨n4,true,0,(v41 x2)⟩)],4⟩
def qDU (s:Nat→UInt32) (b:BytL) (n1:Nat) (n2:Nat) (n3:Nat) (n4:Nat) (x1:Nat×(Nat→UInt32)) (x2:Nat×(Nat→UInt32)):Prop:=(16≤x2.1)∧(x2.1≤64)∧(x2.2=sp2 b.wf (x2.1-16))
def qEp (s:Nat→UInt32) (b:BytL) (n1:Nat) (n2:Nat) (n3:Nat) (n4:Nat) (x1:Nat×(Nat→UInt32)) (x2:Nat×(Nat→UInt32)):Nat:=64-x2.1
def v38:=qAd 64 (fun k=>u32 (qHP k))
def qG0 (s:Nat→UInt32) (b:BytL) (n1:Nat) (n2:Nat) (n3:Nat) (n4:Nat) (x1:Nat×(Nat→UInt32)) (x2:Nat×(Nat→UInt32)) (n5:Nat) (x3:Nat×(Nat→UInt32)):St:=⟨[(2,.v (v1M n1)),(4,.v (ptr n2 0)),(5,.v (ptr n3 0)),(6,.v (ptr n4 0)),(11,.v (ptr n5 0)),(12,.v (nat x3.1))],[(0,some ⟨n1,true,0,(v42 s)⟩),(1,some ⟨n2,true,0,(.lit [(u32 0),(u32 0),(u32 0),(u32 0),(u32 0),(u32 0),(u32 0),(u32 0)])⟩),(2,some ⟨n3,true,0,v38⟩),(3,some ⟨n4,true,0,(v41 x2)⟩),(4,some ⟨n5,true,0,(qDs 8 (fun k=>u32 (x3.2 k)))⟩)],5⟩
def qDW (s:Nat→UInt32) (b:BytL) (n1:Nat) (n2:Nat) (n3:Nat) (n4:Nat) (x1:Nat×(Nat→UInt32)) (x2:Nat×(Nat→UInt32)) (n5:Nat) (x3:Nat×(Nat→UInt32)):Prop:=(x3.1≤64)∧(x3.2=qN4 s (qHC b.wf) x3.1)
def qEl (s:Nat→UInt32) (b:BytL) (n1:Nat) (n2:Nat) (n3:Nat) (n4:Nat) (x1:Nat×(Nat→UInt32)) (x2:Nat×(Nat→UInt32)) (n5:Nat) (x3:Nat×(Nat→UInt32)):Nat:=64-x3.1
def qGO (s:Nat→UInt32) (b:BytL) (n1:Nat) (n2:Nat) (n3:Nat) (n4:Nat) (x1:Nat×(Nat→UInt32)) (x2:Nat×(Nat→UInt32)) (n5:Nat) (x3:Nat×(Nat→UInt32)) (x4:Nat×(Nat→UInt32)):St:=⟨[(2,.v (v1M n1)),(4,.v (ptr n2 0)),(11,.v (ptr n5 0)),(19,.v (nat x4.1))],[(0,some ⟨n1,true,0,(v43 s)⟩),(1,some ⟨n2,true,0,(.lit [(u32 0),(u32 0),(u32 0),(u32 0),(u32 0),(u32 0),(u32 0),(u32 0)])⟩),(2,some ⟨n3,true,0,v38⟩),(3,some ⟨n4,true,0,(v41 x2)⟩),(4,some ⟨n5,true,0,(qAd 8 (fun k=>u32 (x4.2 k)))⟩)],5⟩
def qD4 (s:Nat→UInt32) (b:BytL) (n1:Nat) (n2:Nat) (n3:Nat) (n4:Nat) (x1:Nat×(Nat→UInt32)) (x2:Nat×(Nat→UInt32)) (n5:Nat) (x3:Nat×(Nat→UInt32)) (x4:Nat×(Nat→UInt32)):Prop:=(x4.1≤8)∧(x4.2=qVC s (qN4 s (qHC b.wf) 64) x4.1)
def qEo (s:Nat→UInt32) (b:BytL) (n1:Nat) (n2:Nat) (n3:Nat) (n4:Nat) (x1:Nat×(Nat→UInt32)) (x2:Nat×(Nat→UInt32)) (n5:Nat) (x3:Nat×(Nat→UInt32)) (x4:Nat×(Nat→UInt32)):Nat:=8-x4.1
def wU0(a:Nat):=@qCV TP 3 3 (.const (.int .i64 4)) (.tmp a)
def wV0(a b:Nat):=@qAX TP 29 5 (.tmp a) (.tmp b) 1 (by kernel_rfl) (by kernel_rfl)
def v1o(x3:Nat×(Nat→UInt32)):=rot (x3.2 4) 11
def v1C(x3:Nat×(Nat→UInt32)):=rot (x3.2 4) 6
def v1D(x3:Nat×(Nat→UInt32)):=rot (x3.2 4) 25
def v2z(b:BytL)(x1:Nat×(Nat→UInt32)):=b.wf ((4*x1.1)+1)
def v3c(x3:Nat×(Nat→UInt32)):=rot (x3.2 0) 13
def v3i(b:BytL)(x1:Nat×(Nat→UInt32)):=b.wf ((4*x1.1)+2)
def v3A(x3:Nat×(Nat→UInt32)):=rot (x3.2 0) 2
def v4m(x3:Nat×(Nat→UInt32)):=rot (x3.2 0) 22
def v4R:OpH:=.ld 4 (.lit 1)
def v4S:OpH:=.ld 4 (.lit 2)
def v5s(b:BytL)(x1:Nat×(Nat→UInt32)):=b.wf (4*x1.1)
def qUs (s:Nat→UInt32) (b:BytL) (hb:OkB b) (h64:64≤b.wn):qAt (qBi b) TP 75 [(qBJ 8 (fun k=>u32 (s k))),(Value.slice b.wa b.wn b.wc)] [] 0 (fun _=>qBJ 8 fun k=>u32 (qHF s b.wf k)) (fun _=>[]):=
 qAm (F:=(qBi b)) mix Tryz.func75 rfl rfl 400 (.regn v4Q (m2 fun n1 n2=>(.regn (rg [.g,.new,v1V]) (more (fun n3=>fun _=>(.regn v1f (more (fun n4=>fun _=>(.reg (rg [.g]) (.cast 3 v4k (.inv [1,2,4,5,6,7] [0,1,2,3] 4 (qDX s b n1 n2 n3 n4) (qG7 s b n1 n2 n3 n4) (qEg s b n1 n2 n3 n4) ((0,(fun _=>0)):Nat×(Nat→UInt32)) (fun(x1:Nat×(Nat→UInt32))=>(.reg (rg [.g,(aB (decide (x1.1<16)))]) (.br (.openr (qJz b) (.reg (rg [.g,.g,.g,(aN (4*x1.1)),(.as (ptr b.wb (b.wo+(4*x1.1)*1))),(.ld 4 (.tab (4*x1.1) 0)),(aU ((v5s b x1).toUInt32)),(aU (((v5s b x1).toUInt32)*16777216)),.g,.g,(aN (4*x1.1)),(aN ((4*x1.1)+1)),(.as (ptr b.wb (b.wo+((4*x1.1)+1)*1))),(.ld 4 (.tab ((4*x1.1)+1) 0)),(aU ((v2z b x1).toUInt32)),(aU (((v2z b x1).toUInt32)*65536)),(aU ((((v5s b x1).toUInt32)*16777216)+(((v2z b x1).toUInt32)*65536))),.g,.g,(aN (4*x1.1)),(aN ((4*x1.1)+2)),(.as (ptr b.wb (b.wo+((4*x1.1)+2)*1))),(.ld 4 (.tab ((4*x1.1)+2) 0)),(aU ((v3i b x1).toUInt32)),(aU (((v3i b x1).toUInt32)*256)),(aU (((((v5s b x1).toUInt32)*16777216)+(((v2z b x1).toUInt32)*65536))+(((v3i b x1).toUInt32)*256))),.g,.g,(aN (4*x1.1)),(aN ((4*x1.1)+3)),(.as (ptr b.wb (b.wo+((4*x1.1)+3)*1))),(.ld 4 (.tab ((4*x1.1)+3) 0)),(aU ((b.wf ((4*x1.1)+3)).toUInt32)),(aU ((((((v5s b x1).toUInt32)*16777216)+(((v2z b x1).toUInt32)*65536))+(((v3i b x1).toUInt32)*256))+((b.wf ((4*x1.1)+3)).toUInt32))),(.as (qPv n4 x1.1)),(.stc 3 (.tab x1.1 0) (qAd 64 (fun k=>u32 (upd x1.2 x1.1 ((((((v5s b x1).toUInt32)*16777216)+(((v2z b x1).toUInt32)*65536))+(((v3i b x1).toUInt32)*256))+((b.wf ((4*x1.1)+3)).toUInt32)) k))))]) (.reg (rg [.g,(aN (x1.1+1)),.g]) .done))) (.reg (rg [.g]) (.inv [2,4,5,6,8] [0,1,2,3] 4 (qDU s b n1 n2 n3 n4 x1) (qGV s b n1 n2 n3 n4 x1) (qEp s b n1 n2 n3 n4 x1) ((16,x1.2):Nat×(Nat→UInt32)) (fun(x2:Nat×(Nat→UInt32))=>(.reg (rg [.g,(aB (decide (x2.1<64)))]) (.br (.reg (rg [.g,(aN (x2.1-15)),(.as (ptr n4 (0+(x2.1-15)*1))),(.ld 3 (.tab (x2.1-15) 0)),.g]) (.reg (rg [.g,(aN (x2.1-2)),(.as (ptr n4 (0+(x2.1-2)*1))),(.ld 3 (.tab (x2.1-2) 0)),.g]) (.reg (rg [.g,.g,(aN (x2.1-16)),(.as (ptr n4 (0+(x2.1-16)*1))),(.ld 3 (.tab (x2.1-16) 0)),.g,(.call [] 0 0 (fun _=>(u32 (v0D x2))) (fun _=>[])),.g,(.call [] 0 0 (fun _=>(u32 (v0B x2))) (fun _=>[])),(aU ((v0D x2)^^^(v0B x2))),.g,(aU ((x2.2 (x2.1-15))/8)),(aU (((v0D x2)^^^(v0B x2))^^^((x2.2 (x2.1-15))/8))),(aU ((x2.2 (x2.1-16))+(((v0D x2)^^^(v0B x2))^^^((x2.2 (x2.1-15))/8)))),.g,(aN (x2.1-7)),(.as (ptr n4 (0+(x2.1-7)*1))),(.ld 3 (.tab (x2.1-7) 0)),(aU (((x2.2 (x2.1-16))+(((v0D x2)^^^(v0B x2))^^^((x2.2 (x2.1-15))/8)))+(x2.2 (x2.1-7)))),.g,(.call [] 0 0 (fun _=>(u32 (v12 x2))) (fun _=>[])),.g,(.call [] 0 0 (fun _=>(u32 (v13 x2))) (fun _=>[])),(aU ((v12 x2)^^^(v13 x2))),.g,(aU ((x2.2 (x2.1-2))/1024)),(aU (((v12 x2)^^^(v13 x2))^^^((x2.2 (x2.1-2))/1024))),(aU ((((x2.2 (x2.1-16))+(((v0D x2)^^^(v0B x2))^^^((x2.2 (x2.1-15))/8)))+(x2.2 (x2.1-7)))+(((v12 x2)^^^(v13 x2))^^^((x2.2 (x2.1-2))/1024)))),(.as (qPv n4 x2.1)),(.stc 3 (.tab x2.1 0) (qAd 64 (fun k=>u32 (upd x2.2 x2.1 ((((x2.2 (x2.1-16))+(((v0D x2)^^^(v0B x2))^^^((x2.2 (x2.1-15))/8)))+(x2.2 (x2.1-7)))+(((v12 x2)^^^(v13 x2))^^^((x2.2 (x2.1-2))/1024))) k))))]) (.reg (rg [.g,(aN (x2.1+1)),.g]) .done)))) (.regn v6V (more (fun n5=>fun _=>(.reg (rg [.g]) (.cast 2 v38 (.inv [2,4,5,6,11,12] [0,1,2,3,4] 5 (qDW s b n1 n2 n3 n4 x1 x2 n5) (qG0 s b n1 n2 n3 n4 x1 x2 n5) (qEl s b n1 n2 n3 n4 x1 x2 n5) ((0,s):Nat×(Nat→UInt32)) (fun(x3:Nat×(Nat→UInt32))=>(.reg (rg [.g,(aB (decide (x3.1<64)))]) (.br (.reg (rg [.g,(.ld 4 (.lit 4)),.g]) (.reg (rg [.g,v1L,.g]) (.reg (rg [.g,.g,(.ld 4 (.lit 5)),(aU ((x3.2 4)&&&(x3.2 5))),.g,(aU (4294967295-(x3.2 4))),.g,(.ld 4 (.lit 6)),(aU ((4294967295-(x3.2 4))&&&(x3.2 6))),(aU (((x3.2 4)&&&(x3.2 5))|||((4294967295-(x3.2 4))&&&(x3.2 6)))),.g]) (.reg (rg [.g,.g,v4R,(aU ((x3.2 0)&&&(x3.2 1))),.g,.g,v4S,(aU ((x3.2 0)&&&(x3.2 2))),(aU (((x3.2 0)&&&(x3.2 1))|||((x3.2 0)&&&(x3.2 2)))),.g,v4R,.g,v4S,(aU ((x3.2 1)&&&(x3.2 2))),(aU ((((x3.2 0)&&&(x3.2 1))|||((x3.2 0)&&&(x3.2 2)))|||((x3.2 1)&&&(x3.2 2)))),.g]) (.reg (rg [.g,(.ld 4 (.lit 7)),.g,(.call [] 0 0 (fun _=>(u32 (v1C x3))) (fun _=>[])),.g,(.call [] 0 0 (fun _=>(u32 (v1o x3))) (fun _=>[])),(aU ((v1C x3)^^^(v1o x3))),.g,(.call [] 0 0 (fun _=>(u32 (v1D x3))) (fun _=>[])),(aU (((v1C x3)^^^(v1o x3))^^^(v1D x3))),(aU ((x3.2 7)+(((v1C x3)^^^(v1o x3))^^^(v1D x3)))),.g,(aU (((x3.2 7)+(((v1C x3)^^^(v1o x3))^^^(v1D x3)))+(((x3.2 4)&&&(x3.2 5))|||((4294967295-(x3.2 4))&&&(x3.2 6))))),.g,(.as (qPv n3 x3.1)),(.ld 2 (.tab x3.1 0)),(aU ((((x3.2 7)+(((v1C x3)^^^(v1o x3))^^^(v1D x3)))+(((x3.2 4)&&&(x3.2 5))|||((4294967295-(x3.2 4))&&&(x3.2 6))))+(qHP x3.1))),.g,(.as (qPv n4 x3.1)),(.ld 3 (.tab x3.1 0)),(aU (((((x3.2 7)+(((v1C x3)^^^(v1o x3))^^^(v1D x3)))+(((x3.2 4)&&&(x3.2 5))|||((4294967295-(x3.2 4))&&&(x3.2 6))))+(qHP x3.1))+(x2.2 x3.1))),.g]) (.reg (rg [.g,(.call [] 0 0 (fun _=>(u32 (v3A x3))) (fun _=>[])),.g,(.call [] 0 0 (fun _=>(u32 (v3c x3))) (fun _=>[])),(aU ((v3A x3)^^^(v3c x3))),.g,(.call [] 0 0 (fun _=>(u32 (v4m x3))) (fun _=>[])),(aU (((v3A x3)^^^(v3c x3))^^^(v4m x3))),.g,(aU ((((v3A x3)^^^(v3c x3))^^^(v4m x3))+((((x3.2 0)&&&(x3.2 1))|||((x3.2 0)&&&(x3.2 2)))|||((x3.2 1)&&&(x3.2 2))))),.g]) (.reg (rg [.g,.g,(aU ((((((x3.2 7)+(((v1C x3)^^^(v1o x3))^^^(v1D x3)))+(((x3.2 4)&&&(x3.2 5))|||((4294967295-(x3.2 4))&&&(x3.2 6))))+(qHP x3.1))+(x2.2 x3.1))+((((v3A x3)^^^(v3c x3))^^^(v4m x3))+((((x3.2 0)&&&(x3.2 1))|||((x3.2 0)&&&(x3.2 2)))|||((x3.2 1)&&&(x3.2 2)))))),.g,v1L,.g,v4R,.g,v4S,.g,(.ld 4 (.lit 3)),.g,(aU ((x3.2 3)+(((((x3.2 7)+(((v1C x3)^^^(v1o x3))^^^(v1D x3)))+(((x3.2 4)&&&(x3.2 5))|||((4294967295-(x3.2 4))&&&(x3.2 6))))+(qHP x3.1))+(x2.2 x3.1)))),.g,(.ld 4 (.lit 4)),.g,(.ld 4 (.lit 5)),.g,(.ld 4 (.lit 6)),.g,v2F]) (.reg (rg [.g,(aN (x3.1+1)),.g]) .done)))))))) (.reg (rg [.g]) (.cast 0 (v43 s) (.cast 4 (qAd 8 (fun k=>u32 (x3.2 k))) (.inv [2,4,11,19] [0,1,2,3,4] 5 (qD4 s b n1 n2 n3 n4 x1 x2 n5 x3) (qGO s b n1 n2 n3 n4 x1 x2 n5 x3) (qEo s b n1 n2 n3 n4 x1 x2 n5 x3) ((0,x3.2):Nat×(Nat→UInt32)) (fun(x4:Nat×(Nat→UInt32))=>(.reg (rg [.g,(aB (decide (x4.1<8)))]) (.br (.reg (rg [.g,.g,(.as (qPv n5 x4.1)),(.ld 4 (.tab x4.1 0)),.g,(.as (qPv n1 x4.1)),(.ld 0 (.tab x4.1 0)),(aU ((x4.2 x4.1)+(s x4.1))),(.as (qPv n5 x4.1)),(.stc 4 (.tab x4.1 0) (qAd 8 (fun k=>u32 (upd x4.2 x4.1 ((x4.2 x4.1)+(s x4.1)) k))))]) (.reg (rg [.g,(aN (x4.1+1)),.g]) .done)) (.cast 4 (qDs 8 (fun k=>u32 (x4.2 k))) v6G)))))))))))))))))))))))))))))))))))) [(1,0)] [] rfl
  (have f0:=hb.len;Eq.mp (by kernel_rfl) (fun(n1 n2:Nat)=>aI kV2 (fun(n3:Nat)=>aI (sK2 (aI (v58 n3) tV)) (fun(n4:Nat)=>aI kV1 (aI kV1 (aI v4l (aI (show(qDX s b n1 n2 n3 n4) ((0,(fun _=>0)):Nat×(Nat→UInt32)) from(show(0≤16)∧((fun _=>0)=rw1 b.wf 0) from by exact⟨by omega,qWt _⟩)) (aI (@rfl St ((qG7 s b n1 n2 n3 n4) ((0,(fun _=>0)):Nat×(Nat→UInt32)))) (fun(x1:Nat×(Nat→UInt32)) (hx1:(qDX s b n1 n2 n3 n4) x1)=>have B0:x1.1≤16:=hx1.1;have B1:x1.2=rw1 b.wf x1.1:=hx1.2;aI (sk (aI (aT (@qAC TP 3 3 (.tmp 21) (.const (.int .i64 16))  x1.1 16)) tV)) (aT (aI (fun(h1:(decide (x1.1<16))=true)=>have f4:=(oT h1);aI (⟨(show 0<b.wn from by omega),rfl⟩:qBi b (qJz b)) (aI (sK3 (aI (aT (@wU0 27  4 x1.1 (show 4*x1.1≤9223372036854775807 from by omega))) (aI (aT (@wV0 26 28 b.wb b.wo b.wn b.wc (4*x1.1) b.wa (hb.ad (show 0<b.wn from by omega)) (show 4*x1.1<b.wn from by omega))) (aI (aT (aI (show 4*x1.1<b.wn from by omega) (@rfl Value (ptr b.wb (b.wo+(4*x1.1)*1))))) (aI (aT (@wx0 30 (v5s b x1))) (aI (aT (@qM5 TP 126 126 (.tmp 31) (.const (.int .u32 16777216)) ((v5s b x1).toUInt32) 16777216)) (sK2 (aI (aT (@wU0 34  4 x1.1 (show 4*x1.1≤9223372036854775807 from by omega))) (aI (aT (@wy0 35  (4*x1.1) 1 (show(4*x1.1)+1≤9223372036854775807 from by omega))) (aI (aT (@wV0 33 36 b.wb b.wo b.wn b.wc ((4*x1.1)+1) b.wa (hb.ad (show 0<b.wn from by omega)) (show(4*x1.1)+1<b.wn from by omega))) (aI (aT (aI (show(4*x1.1)+1<b.wn from by omega) (@rfl Value (ptr b.wb (b.wo+((4*x1.1)+1)*1))))) (aI (aT (@wx0 38 (v2z b x1))) (aI (aT (@qM5 TP 126 126 (.tmp 39) (.const (.int .u32 65536)) ((v2z b x1).toUInt32) 65536)) (aI (aT (@wr0 32 40 (((v5s b x1).toUInt32)*16777216) (((v2z b x1).toUInt32)*65536))) (sK2 (aI (aT (@wU0 43  4 x1.1 (show 4*x1.1≤9223372036854775807 from by omega))) (aI (aT (@qAe TP 3 3 (.tmp 44) (.const (.int .i64 2))  (4*x1.1) 2 (show(4*x1.1)+2≤9223372036854775807 from by omega))) (aI (aT (@wV0 42 45 b.wb b.wo b.wn b.wc ((4*x1.1)+2) b.wa (hb.ad (show 0<b.wn from by omega)) (show(4*x1.1)+2<b.wn from by omega))) (aI (aT (aI (show(4*x1.1)+2<b.wn from by omega) (@rfl Value (ptr b.wb (b.wo+((4*x1.1)+2)*1))))) (aI (aT (@wx0 47 (v3i b x1))) (aI (aT (@qM5 TP 126 126 (.tmp 48) (.const (.int .u32 256)) ((v3i b x1).toUInt32) 256)) (aI (aT (@wr0 41 49 ((((v5s b x1).toUInt32)*16777216)+(((v2z b x1).toUInt32)*65536)) (((v3i b x1).toUInt32)*256))) (sK2 (aI (aT (@wU0 52  4 x1.1 (show 4*x1.1≤9223372036854775807 from by omega))) (aI (aT (@qAe TP 3 3 (.tmp 53) (.const (.int .i64 3))  (4*x1.1) 3 (show(4*x1.1)+3≤9223372036854775807 from by omega))) (aI (aT (@wV0 51 54 b.wb b.wo b.wn b.wc ((4*x1.1)+3) b.wa (hb.ad (show 0<b.wn from by omega)) (show(4*x1.1)+3<b.wn from by omega))) (aI (aT (aI (show(4*x1.1)+3<b.wn from by omega) (@rfl Value (ptr b.wb (b.wo+((4*x1.1)+3)*1))))) (aI (aT (@wx0 56 (b.wf ((4*x1.1)+3)))) (aI (aT (@wr0 50 57 (((((v5s b x1).toUInt32)*16777216)+(((v2z b x1).toUInt32)*65536))+(((v3i b x1).toUInt32)*256)) ((b.wf ((4*x1.1)+3)).toUInt32))) (aI (aT (@ww0 6 25 n4 0 x1.1 (show x1.1<64 from by omega))) (aI (aT (aI (show x1.1<64 from by omega) (aI (@rfl Value (qPv n4 x1.1)) (qCo 64 u32 x1.2 x1.1 ((((((v5s b x1).toUInt32)*16777216)+(((v2z b x1).toUInt32)*65536))+(((v3i b x1).toUInt32)*256))+((b.wf ((4*x1.1)+3)).toUInt32)))))) tV))))))))))))))))))))))))))))))) (aI (sk (aI (aT (@wy0 23  x1.1 1 (show x1.1+1≤9223372036854775807 from by omega))) kV1)) ((rnd (qDX s b n1 n2 n3 n4) (qG7 s b n1 n2 n3 n4) (qEg s b n1 n2 n3 n4) x1 ((x1.1+1,upd x1.2 x1.1 ((((((v5s b x1).toUInt32)*16777216)+(((v2z b x1).toUInt32)*65536))+(((v3i b x1).toUInt32)*256))+((b.wf ((4*x1.1)+3)).toUInt32))):Nat×(Nat→UInt32)) (show(((x1.1+1)≤16)∧((upd x1.2 x1.1 ((((((b.wf (4*x1.1)).toUInt32)*16777216)+(((b.wf ((4*x1.1)+1)).toUInt32)*65536))+(((b.wf ((4*x1.1)+2)).toUInt32)*256))+((b.wf ((4*x1.1)+3)).toUInt32)))=rw1 b.wf (x1.1+1)))∧(16-(x1.1+1))<(16-x1.1) from by exact⟨⟨by omega,by rw[B1];exact qX0 _ _⟩,by omega⟩)))))) (fun(h1:(decide (x1.1<16))=false)=>have f4:=(oF h1);aI kV1 (aI (show(16≤16)∧(16≤64)∧(x1.2=sp2 b.wf (16-16)) from by exact⟨by omega,by omega,by rw[B1,show x1.1=16 by omega];exact jAw _⟩) (aI (@rfl St ((qGV s b n1 n2 n3 n4 x1) ((16,x1.2):Nat×(Nat→UInt32)))) (fun(x2:Nat×(Nat→UInt32)) (hx2:(qDU s b n1 n2 n3 n4 x1) x2)=>have C0:16≤x2.1:=hx2.1;have C1:x2.1≤64:=hx2.2.1;have C2:x2.2=sp2 b.wf (x2.1-16):=hx2.2.2;aI (sk (aI (aT (@wu0 60  x2.1 64)) tV)) (aT (aI (fun(h2:(decide (x2.1<64))=true)=>have f8:=(oT h2);aI (sk (aI (aT (@wz0 64  x2.1 15 (show 15≤x2.1∧x2.1-15≤9223372036854775807 from by omega))) (aI (aT (@ww0 6 65 n4 0 (x2.1-15) (show x2.1-15<64 from by omega))) (aI (aT (aI (show x2.1-15<64 from by omega) (@rfl Value (ptr n4 (0+(x2.1-15)*1))))) kV1)))) (aI (sk (aI (aT (@wA0 68  x2.1 2 (show 2≤x2.1∧x2.1-2≤9223372036854775807 from by omega))) (aI (aT (@ww0 6 69 n4 0 (x2.1-2) (show x2.1-2<64 from by omega))) (aI (aT (aI (show x2.1-2<64 from by omega) (@rfl Value (ptr n4 (0+(x2.1-2)*1))))) kV1)))) (aI (sK2 (aI (aT (@wB0 73  x2.1 16 (show 16≤x2.1∧x2.1-16≤9223372036854775807 from by omega))) (aI (aT (@ww0 6 74 n4 0 (x2.1-16) (show x2.1-16<64 from by omega))) (aI (aT (aI (show x2.1-16<64 from by omega) (@rfl Value (ptr n4 (0+(x2.1-16)*1))))) (sk (aI (aT (qXm (x2.2 (x2.1-15)))) (sk (aI (aT (qUd (x2.2 (x2.1-15)))) (aI (aT (@ws0 78 80 (v0D x2) (v0B x2))) (sk (aI (aT (@qQF TP 126 126 (.tmp 82) (.const (.int .u32 8)) (x2.2 (x2.1-15)) 8 (by decide))) (aI (aT (@ws0 81 83 ((v0D x2)^^^(v0B x2)) ((x2.2 (x2.1-15))/8))) (aI (aT (@wr0 76 84 (x2.2 (x2.1-16)) (((v0D x2)^^^(v0B x2))^^^((x2.2 (x2.1-15))/8)))) (sk (aI (aT (@wC0 86  x2.1 7 (show 7≤x2.1∧x2.1-7≤9223372036854775807 from by omega))) (aI (aT (@ww0 6 87 n4 0 (x2.1-7) (show x2.1-7<64 from by omega))) (aI (aT (aI (show x2.1-7<64 from by omega) (@rfl Value (ptr n4 (0+(x2.1-7)*1))))) (aI (aT (@wr0 85 89 ((x2.2 (x2.1-16))+(((v0D x2)^^^(v0B x2))^^^((x2.2 (x2.1-15))/8))) (x2.2 (x2.1-7)))) (sk (aI (aT (qTT (x2.2 (x2.1-2)))) (sk (aI (aT (qUG (x2.2 (x2.1-2)))) (aI (aT (@ws0 92 94 (v12 x2) (v13 x2))) (sk (aI (aT (@qQF TP 126 126 (.tmp 96) (.const (.int .u32 1024)) (x2.2 (x2.1-2)) 1024 (by decide))) (aI (aT (@ws0 95 97 ((v12 x2)^^^(v13 x2)) ((x2.2 (x2.1-2))/1024))) (aI (aT (@wr0 90 98 (((x2.2 (x2.1-16))+(((v0D x2)^^^(v0B x2))^^^((x2.2 (x2.1-15))/8)))+(x2.2 (x2.1-7))) (((v12 x2)^^^(v13 x2))^^^((x2.2 (x2.1-2))/1024)))) (aI (aT (@ww0 6 72 n4 0 x2.1 (show x2.1<64 from by omega))) (aI (aT (aI (show x2.1<64 from by omega) (aI (@rfl Value (qPv n4 x2.1)) (qCo 64 u32 x2.2 x2.1 ((((x2.2 (x2.1-16))+(((v0D x2)^^^(v0B x2))^^^((x2.2 (x2.1-15))/8)))+(x2.2 (x2.1-7)))+(((v12 x2)^^^(v13 x2))^^^((x2.2 (x2.1-2))/1024))))))) tV))))))))))))))))))))))))))))) (aI (sk (aI (aT (@wy0 62  x2.1 1 (show x2.1+1≤9223372036854775807 from by omega))) kV1)) ((rnd (qDU s b n1 n2 n3 n4 x1) (qGV s b n1 n2 n3 n4 x1) (qEp s b n1 n2 n3 n4 x1) x2 ((x2.1+1,upd x2.2 x2.1 ((((x2.2 (x2.1-16))+(((v0D x2)^^^(v0B x2))^^^((x2.2 (x2.1-15))/8)))+(x2.2 (x2.1-7)))+(((v12 x2)^^^(v13 x2))^^^((x2.2 (x2.1-2))/1024)))):Nat×(Nat→UInt32)) (show((16≤(x2.1+1))∧((x2.1+1)≤64)∧((upd x2.2 x2.1 ((((x2.2 (x2.1-16))+(((rot (x2.2 (x2.1-15)) 7)^^^(rot (x2.2 (x2.1-15)) 18))^^^((x2.2 (x2.1-15))/8)))+(x2.2 (x2.1-7)))+(((rot (x2.2 (x2.1-2)) 17)^^^(rot (x2.2 (x2.1-2)) 19))^^^((x2.2 (x2.1-2))/1024))))=sp2 b.wf ((x2.1+1)-16)))∧(64-(x2.1+1))<(64-x2.1) from by exact⟨⟨by omega,by omega,qXA C0 C2⟩,by omega⟩))))))) (fun(h2:(decide (x2.1<64))=false)=>have f8:=(oF h2);fun(n5:Nat)=>aI (aI (v0I n1) (sk (v6S n5))) (aI kV1 (aI (qEx 64 (fun k=>u32 (qHP k))) (aI (show(0≤64)∧(s=qN4 s (qHC b.wf) 0) from by exact⟨by omega,rfl⟩) (aI (@rfl St ((qG0 s b n1 n2 n3 n4 x1 x2 n5) ((0,s):Nat×(Nat→UInt32)))) (fun(x3:Nat×(Nat→UInt32)) (hx3:(qDW s b n1 n2 n3 n4 x1 x2 n5) x3)=>have D0:x3.1≤64:=hx3.1;have D1:x3.2=qN4 s (qHC b.wf) x3.1:=hx3.2;aI (sk (aI (aT (@wu0 102  x3.1 64)) tV)) (aT (aI (fun(h3:(decide (x3.1<64))=true)=>have f11:=(oT h3);aI (sk (aI (aT (ad n5 4)) kV1)) (aI (sk (aI (v30 n5) kV1)) (aI (sK2 (aI (aT (ad n5 5)) (aI (aT (@wt0 110 112 (x3.2 4) (x3.2 5))) (sk (aI (aT (@qWQ TP 126 126 (.const (.int .u32 4294967295)) (.tmp 114) 4294967295 (x3.2 4))) (sk (aI (aT (ad n5 6)) (aI (aT (@wt0 115 117 (4294967295-(x3.2 4)) (x3.2 6))) (aI (aT (@wo0 113 118 ((x3.2 4)&&&(x3.2 5)) ((4294967295-(x3.2 4))&&&(x3.2 6)))) kV1))))))))) (aI (sK2 (aI (aT (ad n5 1)) (aI (aT (@wt0 120 122 (x3.2 0) (x3.2 1))) (sK2 (aI (aT (ad n5 2)) (aI (aT (@wt0 124 126 (x3.2 0) (x3.2 2))) (aI (aT (@wo0 123 127 ((x3.2 0)&&&(x3.2 1)) ((x3.2 0)&&&(x3.2 2)))) (sk (aI (aT (ad n5 1)) (sk (aI (aT (ad n5 2)) (aI (aT (@wt0 130 132 (x3.2 1) (x3.2 2))) (aI (aT (@wo0 128 133 (((x3.2 0)&&&(x3.2 1))|||((x3.2 0)&&&(x3.2 2))) ((x3.2 1)&&&(x3.2 2)))) kV1))))))))))))) (aI (sk (aI (aT (ad n5 7)) (sk (aI (aT (qWP (x3.2 4))) (sk (aI (aT (qVs (x3.2 4))) (aI (aT (@ws0 138 140 (v1C x3) (v1o x3))) (sk (aI (aT (qWa (x3.2 4))) (aI (aT (@ws0 141 143 ((v1C x3)^^^(v1o x3)) (v1D x3))) (aI (aT (@wr0 136 144 (x3.2 7) (((v1C x3)^^^(v1o x3))^^^(v1D x3)))) (sk (aI (aT (@wr0 145 146 ((x3.2 7)+(((v1C x3)^^^(v1o x3))^^^(v1D x3))) (((x3.2 4)&&&(x3.2 5))|||((4294967295-(x3.2 4))&&&(x3.2 6))))) (sk (aI (aT (@ww0 5 148 n3 0 x3.1 (show x3.1<64 from by omega))) (aI (aT (aI (show x3.1<64 from by omega) (@rfl Value (qPv n3 x3.1)))) (aI (aT (@wr0 147 150 (((x3.2 7)+(((v1C x3)^^^(v1o x3))^^^(v1D x3)))+(((x3.2 4)&&&(x3.2 5))|||((4294967295-(x3.2 4))&&&(x3.2 6)))) (qHP x3.1))) (sk (aI (aT (@ww0 6 152 n4 0 x3.1 (show x3.1<64 from by omega))) (aI (aT (aI (show x3.1<64 from by omega) (@rfl Value (qPv n4 x3.1)))) (aI (aT (@wr0 151 154 ((((x3.2 7)+(((v1C x3)^^^(v1o x3))^^^(v1D x3)))+(((x3.2 4)&&&(x3.2 5))|||((4294967295-(x3.2 4))&&&(x3.2 6))))+(qHP x3.1)) (x2.2 x3.1))) kV1))))))))))))))))))))) (aI (sk (aI (aT (qXR (x3.2 0))) (sk (aI (aT (qVG (x3.2 0))) (aI (aT (@ws0 157 159 (v3A x3) (v3c x3))) (sk (aI (aT (qVx (x3.2 0))) (aI (aT (@ws0 160 162 ((v3A x3)^^^(v3c x3)) (v4m x3))) (sk (aI (aT (@wr0 163 164 (((v3A x3)^^^(v3c x3))^^^(v4m x3)) ((((x3.2 0)&&&(x3.2 1))|||((x3.2 0)&&&(x3.2 2)))|||((x3.2 1)&&&(x3.2 2))))) kV1)))))))))) (aI (sK2 (aI (aT (@wr0 166 167 (((((x3.2 7)+(((v1C x3)^^^(v1o x3))^^^(v1D x3)))+(((x3.2 4)&&&(x3.2 5))|||((4294967295-(x3.2 4))&&&(x3.2 6))))+(qHP x3.1))+(x2.2 x3.1)) ((((v3A x3)^^^(v3c x3))^^^(v4m x3))+((((x3.2 0)&&&(x3.2 1))|||((x3.2 0)&&&(x3.2 2)))|||((x3.2 1)&&&(x3.2 2)))))) (sk (aI (v30 n5) (sk (aI (aT (ad n5 1)) (sk (aI (aT (ad n5 2)) (sk (aI (aT (ad n5 3)) (sk (aI (aT (@wr0 176 177 (x3.2 3) (((((x3.2 7)+(((v1C x3)^^^(v1o x3))^^^(v1D x3)))+(((x3.2 4)&&&(x3.2 5))|||((4294967295-(x3.2 4))&&&(x3.2 6))))+(qHP x3.1))+(x2.2 x3.1)))) (sk (aI (aT (ad n5 4)) (sk (aI (aT (ad n5 5)) (sk (aI (aT (ad n5 6)) (sk (v6S n5)))))))))))))))))))) (aI (sk (aI (aT (@wy0 104  x3.1 1 (show x3.1+1≤9223372036854775807 from by omega))) kV1)) ((rnd (qDW s b n1 n2 n3 n4 x1 x2 n5) (qG0 s b n1 n2 n3 n4 x1 x2 n5) (qEl s b n1 n2 n3 n4 x1 x2 n5) x3 ((x3.1+1,(W8.get (W8.mk ((((((x3.2 7)+(((v1C x3)^^^(v1o x3))^^^(v1D x3)))+(((x3.2 4)&&&(x3.2 5))|||((4294967295-(x3.2 4))&&&(x3.2 6))))+(qHP x3.1))+(x2.2 x3.1))+((((v3A x3)^^^(v3c x3))^^^(v4m x3))+((((x3.2 0)&&&(x3.2 1))|||((x3.2 0)&&&(x3.2 2)))|||((x3.2 1)&&&(x3.2 2))))) (x3.2 0) (x3.2 1) (x3.2 2) ((x3.2 3)+(((((x3.2 7)+(((v1C x3)^^^(v1o x3))^^^(v1D x3)))+(((x3.2 4)&&&(x3.2 5))|||((4294967295-(x3.2 4))&&&(x3.2 6))))+(qHP x3.1))+(x2.2 x3.1))) (x3.2 4) (x3.2 5) (x3.2 6)))):Nat×(Nat→UInt32)) (show(((x3.1+1)≤64)∧((W8.get (W8.mk ((((((x3.2 7)+(((rot (x3.2 4) 6)^^^(rot (x3.2 4) 11))^^^(rot (x3.2 4) 25)))+(((x3.2 4)&&&(x3.2 5))|||((4294967295-(x3.2 4))&&&(x3.2 6))))+(qHP x3.1))+(x2.2 x3.1))+((((rot (x3.2 0) 2)^^^(rot (x3.2 0) 13))^^^(rot (x3.2 0) 22))+((((x3.2 0)&&&(x3.2 1))|||((x3.2 0)&&&(x3.2 2)))|||((x3.2 1)&&&(x3.2 2))))) (x3.2 0) (x3.2 1) (x3.2 2) ((x3.2 3)+(((((x3.2 7)+(((rot (x3.2 4) 6)^^^(rot (x3.2 4) 11))^^^(rot (x3.2 4) 25)))+(((x3.2 4)&&&(x3.2 5))|||((4294967295-(x3.2 4))&&&(x3.2 6))))+(qHP x3.1))+(x2.2 x3.1))) (x3.2 4) (x3.2 5) (x3.2 6)))=qN4 s (qHC b.wf) (x3.1+1)))∧(64-(x3.1+1))<(64-x3.1) from by exact⟨⟨by omega,by rw[jBp,D1,C2,show x2.1-16=48 by omega]<;>rfl⟩,by omega⟩))))))))))) (fun(h3:(decide (x3.1<64))=false)=>have f11:=(oF h3);aI kV1 (aI (qEx 8 (fun k=>u32 (s k))) (aI (qEx 8 (fun k=>u32 (x3.2 k))) (aI (show(0≤8)∧(x3.2=qVC s (qN4 s (qHC b.wf) 64) 0) from by exact⟨by omega,by rw[D1,show x3.1=64 by omega]<;>rfl⟩) (aI (@rfl St ((qGO s b n1 n2 n3 n4 x1 x2 n5 x3) ((0,x3.2):Nat×(Nat→UInt32)))) (fun(x4:Nat×(Nat→UInt32)) (hx4:(qD4 s b n1 n2 n3 n4 x1 x2 n5 x3) x4)=>have E0:x4.1≤8:=hx4.1;have E1:x4.2=qVC s (qN4 s (qHC b.wf) 64) x4.1:=hx4.2;aI (sk (aI (aT (@wD0 186  x4.1 8)) tV)) (aT (aI (fun(h4:(decide (x4.1<8))=true)=>have f14:=(oT h4);aI (sK2 (aI (aT (@wE0 11 191 n5 0 x4.1 (show x4.1<8 from by omega))) (aI (aT (aI (show x4.1<8 from by omega) (@rfl Value (qPv n5 x4.1)))) (sk (aI (aT (@wE0 2 194 n1 0 x4.1 (show x4.1<8 from by omega))) (aI (aT (aI (show x4.1<8 from by omega) (@rfl Value (qPv n1 x4.1)))) (aI (aT (@wr0 193 196 (x4.2 x4.1) (s x4.1))) (aI (aT (@wE0 11 190 n5 0 x4.1 (show x4.1<8 from by omega))) (aI (aT (aI (show x4.1<8 from by omega) (aI (@rfl Value (qPv n5 x4.1)) (qCo 8 u32 x4.2 x4.1 ((x4.2 x4.1)+(s x4.1)))))) tV))))))))) (aI (sk (aI (aT (@wy0 188  x4.1 1 (show x4.1+1≤9223372036854775807 from by omega))) kV1)) ((rnd (qD4 s b n1 n2 n3 n4 x1 x2 n5 x3) (qGO s b n1 n2 n3 n4 x1 x2 n5 x3) (qEo s b n1 n2 n3 n4 x1 x2 n5 x3) x4 ((x4.1+1,upd x4.2 x4.1 ((x4.2 x4.1)+(s x4.1))):Nat×(Nat→UInt32)) (show(((x4.1+1)≤8)∧((upd x4.2 x4.1 ((x4.2 x4.1)+(s x4.1)))=qVC s (qN4 s (qHC b.wf) 64) (x4.1+1)))∧(8-(x4.1+1))<(8-x4.1) from by exact⟨⟨by omega,by rw[E1]<;>rfl⟩,by omega⟩))))) (fun(h4:(decide (x4.1<8))=false)=>have f14:=(oF h4);aI (qLZ 8 (fun k=>u32 (x4.2 k))) (aI (aI (v30 n5) (v6R n2)) (aI (v4r n2) (eX (fun(ns:List Nat)=>ns.length=0∧((qBJ 8 (fun k=>u32 (x4.2 k))):Value)=(fun _=>qBJ 8 fun k=>u32 (qHF s b.wf k)) ns∧([]:List (Option Blk))=(fun _=>[]) ns) [] (aI v0b (aI ((show(qBJ 8 (fun k=>u32 (x4.2 k)))=qBJ 8 (fun k=>u32 (qHF s b.wf k)) from by have e0:x4.1=8:=(by omega);rw[E1,e0]<;>rfl)) v0f)))))))))))))))))))))))))))))))))))))))
def jBd {f g:Nat→UInt8} {n L N:Nat} (hL:L=qEJ n) (hN:N=L) (h:∀k,k<L→g k=qS4 f n k):∀k,k<N→g k=qMm f n k:=fun k hk=>by
 rw[h k (by omega),qUx (by omega)]
def qZD {f g:Nat→UInt8} {n L N i:Nat} (hL:L=qEJ n) (hN:N=L+i) (hi:i<8) (h:∀k,k<N→g k=qMm f n k):∀k,k<N+1→qAj g N (fun _=>(qAa (UInt64.ofNat n*8) (56-8*i)).toUInt8) k=qMm f n k:=fun k hk=>by
 unfold qAj;by_cases h1:k<N
 ·rw[if_pos h1,h k h1]
 ·have e:k=qEJ n+i:=by omega
  rw[if_neg h1,e,qXL hi];unfold jE7;rw[UInt64.mul_comm 8]
def qNz (b:BytL) (n1:Nat) (n2:Nat) (n3:Nat) (n4:Nat) (n5:Nat) (n6:Nat) (n7:Nat) (x1:Nat×Nat×(Nat→UInt8)×Nat):St:=⟨[(0,.v (v49 b)),(2,.v (v1M n1)),(3,.v (vS (some ⟨x1.2.2.2,0,none⟩) x1.1 (x1.1+x1.2.1)))],[(0,some ⟨n1,true,0,(.lit [(u8 0),(u8 0),(u8 0),(u8 0),(u8 0),(u8 0),(u8 0),(u8 0),(u8 0),(u8 0),(u8 0),(u8 0),(u8 0),(u8 0),(u8 0),(u8 0),(u8 0),(u8 0),(u8 0),(u8 0),(u8 0),(u8 0),(u8 0),(u8 0),(u8 0),(u8 0),(u8 0),(u8 0),(u8 0),(u8 0),(u8 0),(u8 0)])⟩),(2,some ⟨x1.2.2.2,true,0,(spr (x1.1+x1.2.1) x1.1 (fun k=>u8 (x1.2.2.1 k)) (u8 0))⟩),(3,some ⟨n5,true,0,(.lit [(u8 128)])⟩)],4⟩
def qI5 (b:BytL) (n1:Nat) (n2:Nat) (n3:Nat) (n4:Nat) (n5:Nat) (n6:Nat) (n7:Nat) (x1:Nat×Nat×(Nat→UInt8)×Nat):Prop:=(b.wn+1≤x1.1)∧(x1.1≤qEJ b.wn)∧(∀k,k<x1.1→(x1.2.2.1) k=qS4 b.wf b.wn k)
def qI7 (b:BytL) (n1:Nat) (n2:Nat) (n3:Nat) (n4:Nat) (n5:Nat) (n6:Nat) (n7:Nat) (x1:Nat×Nat×(Nat→UInt8)×Nat):Nat:=qEJ b.wn-x1.1
def v1u(x2:Nat×Nat×Nat×(Nat→UInt8)×Nat):=spr (x2.2.1+x2.2.2.1) x2.2.1 (fun k=>u8 (x2.2.2.2.1 k)) (u8 0)
def v2W(x2:Nat×Nat×Nat×(Nat→UInt8)×Nat):=vS (some ⟨x2.2.2.2.2,0,none⟩) x2.2.1 (x2.2.1+x2.2.2.1)
def qNO (b:BytL) (n1:Nat) (n2:Nat) (n3:Nat) (n4:Nat) (n5:Nat) (n6:Nat) (n7:Nat) (x1:Nat×Nat×(Nat→UInt8)×Nat) (x2:Nat×Nat×Nat×(Nat→UInt8)×Nat):St:=⟨[(2,.v (v1M n1)),(3,.v (v2W x2)),(4,.v (u64 ((uO b.wn)*8))),(5,.v (nat x2.1))],[(0,some ⟨n1,true,0,(.lit [(u8 0),(u8 0),(u8 0),(u8 0),(u8 0),(u8 0),(u8 0),(u8 0),(u8 0),(u8 0),(u8 0),(u8 0),(u8 0),(u8 0),(u8 0),(u8 0),(u8 0),(u8 0),(u8 0),(u8 0),(u8 0),(u8 0),(u8 0),(u8 0),(u8 0),(u8 0),(u8 0),(u8 0),(u8 0),(u8 0),(u8 0),(u8 0)])⟩),(2,some ⟨x2.2.2.2.2,true,0,(v1u x2)⟩),(3,some ⟨n5,true,0,(.lit [(u8 128)])⟩)],4⟩
def qI8 (b:BytL) (n1:Nat) (n2:Nat) (n3:Nat) (n4:Nat) (n5:Nat) (n6:Nat) (n7:Nat) (x1:Nat×Nat×(Nat→UInt8)×Nat) (x2:Nat×Nat×Nat×(Nat→UInt8)×Nat):Prop:=(x2.1≤8)∧(x2.2.1=x1.1+x2.1)∧(∀k,k<x2.2.1→(x2.2.2.2.1) k=qMm b.wf b.wn k)
def qIC (b:BytL) (n1:Nat) (n2:Nat) (n3:Nat) (n4:Nat) (n5:Nat) (n6:Nat) (n7:Nat) (x1:Nat×Nat×(Nat→UInt8)×Nat) (x2:Nat×Nat×Nat×(Nat→UInt8)×Nat):Nat:=8-x2.1
def qNn (b:BytL) (n1:Nat) (n2:Nat) (n3:Nat) (n4:Nat) (n5:Nat) (n6:Nat) (n7:Nat) (x1:Nat×Nat×(Nat→UInt8)×Nat) (x2:Nat×Nat×Nat×(Nat→UInt8)×Nat) (n14:Nat) (x3:Nat×(Nat→UInt32)):St:=⟨[(2,.v (v1M n1)),(3,.v (v2W x2)),(6,.v (ptr n14 0)),(7,.v (nat x3.1))],[(0,some ⟨n1,true,0,(.lit [(u8 0),(u8 0),(u8 0),(u8 0),(u8 0),(u8 0),(u8 0),(u8 0),(u8 0),(u8 0),(u8 0),(u8 0),(u8 0),(u8 0),(u8 0),(u8 0),(u8 0),(u8 0),(u8 0),(u8 0),(u8 0),(u8 0),(u8 0),(u8 0),(u8 0),(u8 0),(u8 0),(u8 0),(u8 0),(u8 0),(u8 0),(u8 0)])⟩),(2,some ⟨x2.2.2.2.2,true,0,(v1u x2)⟩),(3,some ⟨n5,true,0,(.lit [(u8 128)])⟩),(4,some ⟨n14,true,0,(qDs 8 (fun k=>u32 (x3.2 k)))⟩)],5⟩
def qIU (b:BytL) (n1:Nat) (n2:Nat) (n3:Nat) (n4:Nat) (n5:Nat) (n6:Nat) (n7:Nat) (x1:Nat×Nat×(Nat→UInt8)×Nat) (x2:Nat×Nat×Nat×(Nat→UInt8)×Nat) (n14:Nat) (x3:Nat×(Nat→UInt32)):Prop:=(x3.1%64=0)∧(x3.1≤x2.2.1)∧(x3.2=qJB (qMm b.wf b.wn) (x3.1/64))
def qJg (b:BytL) (n1:Nat) (n2:Nat) (n3:Nat) (n4:Nat) (n5:Nat) (n6:Nat) (n7:Nat) (x1:Nat×Nat×(Nat→UInt8)×Nat) (x2:Nat×Nat×Nat×(Nat→UInt8)×Nat) (n14:Nat) (x3:Nat×(Nat→UInt32)):Nat:=x2.2.1-x3.1
def qM4 (b:BytL) (n1:Nat) (n2:Nat) (n3:Nat) (n4:Nat) (n5:Nat) (n6:Nat) (n7:Nat) (x1:Nat×Nat×(Nat→UInt8)×Nat) (x2:Nat×Nat×Nat×(Nat→UInt8)×Nat) (n14:Nat) (x3:Nat×(Nat→UInt32)) (n15:Nat) (x4:Nat×(Nat→UInt8)):St:=⟨[(2,.v (v1M n1)),(6,.v (ptr n14 0)),(8,.v (ptr n15 0)),(9,.v (nat x4.1))],[(0,some ⟨n1,true,0,(.lit [(u8 0),(u8 0),(u8 0),(u8 0),(u8 0),(u8 0),(u8 0),(u8 0),(u8 0),(u8 0),(u8 0),(u8 0),(u8 0),(u8 0),(u8 0),(u8 0),(u8 0),(u8 0),(u8 0),(u8 0),(u8 0),(u8 0),(u8 0),(u8 0),(u8 0),(u8 0),(u8 0),(u8 0),(u8 0),(u8 0),(u8 0),(u8 0)])⟩),(2,some ⟨x2.2.2.2.2,true,0,(v1u x2)⟩),(3,some ⟨n5,true,0,(.lit [(u8 128)])⟩),(4,some ⟨n14,true,0,(qAd 8 (fun k=>u32 (x3.2 k)))⟩),(5,some ⟨n15,true,0,(qAd 32 (fun k=>u8 (x4.2 k)))⟩)],6⟩
def qJc (b:BytL) (n1:Nat) (n2:Nat) (n3:Nat) (n4:Nat) (n5:Nat) (n6:Nat) (n7:Nat) (x1:Nat×Nat×(Nat→UInt8)×Nat) (x2:Nat×Nat×Nat×(Nat→UInt8)×Nat) (n14:Nat) (x3:Nat×(Nat→UInt32)) (n15:Nat) (x4:Nat×(Nat→UInt8)):Prop:=(x4.1≤32)∧(x4.2=qMl x3.2 x4.1)
def qIx (b:BytL) (n1:Nat) (n2:Nat) (n3:Nat) (n4:Nat) (n5:Nat) (n6:Nat) (n7:Nat) (x1:Nat×Nat×(Nat→UInt8)×Nat) (x2:Nat×Nat×Nat×(Nat→UInt8)×Nat) (n14:Nat) (x3:Nat×(Nat→UInt32)) (n15:Nat) (x4:Nat×(Nat→UInt8)):Nat:=32-x4.1
def wW0(a:Nat):=@qCV TP 3 3 (.const (.int .i64 8)) (.tmp a)
def wX0(a:Nat):=@qAe TP 3 3 (.tmp a) (.const (.int .i64 64))
def v2a(x3:Nat×(Nat→UInt32))(x4:Nat×(Nat→UInt8)):=qAF (x3.2 (x4.1/4)) (24-(8*(x4.1%4)))
def v4a(b:BytL):=qAj (fun _=>0) 0 b.wf
def v4B(b:BytL)(x2:Nat×Nat×Nat×(Nat→UInt8)×Nat):=u8 ((qTw b x2.1).toUInt8)
def v4T:OpH:=.st 5 (.lit 0)
def jE6 (b:BytL) (hb:OkB b) (h0:0<b.wn) (hl:b.wn≤1000000):qAt (qBi b) TP 50 [(Value.slice b.wa b.wn b.wc)] [] 0 (fun _=>qBJ 32 fun k=>u8 (qIq b.wf b.wn k)) (fun _=>[]):=
 qAm (F:=(qBi b)) mix Tryz.func50 rfl rfl 400 (.regn v1f (more (fun n1=>fun _=>(.openr (qJz b) (.regn (rg [v5Y,.g,(.oth [(2,false),(1,true)] 2 0 (fun ns=>vS (some ⟨(g0 ns),0,none⟩) (0+b.wn) (0+b.wn+(g1 ns))) (fun ns=>[some ⟨(g0 ns),true,0,(spr (0+b.wn+(g1 ns)) (0+b.wn) (fun k=>u8 (qAj (fun _=>0) 0 b.wf k)) (u8 0))⟩,none])),(.oth [] 1 1 (fun ns=>vS (some ⟨ns.getD 0 0,0,none⟩) 1 1) (fun ns=>[some ⟨ns.getD 0 0,true,0,.lit [(u8 128)]⟩])),(.oth [(2,false),(3,true)] 2 0 (fun ns=>vS (some ⟨(g0 ns),0,none⟩) (0+b.wn+1) (0+b.wn+1+(g1 ns))) (fun ns=>[some ⟨(g0 ns),true,0,(spr (0+b.wn+1+(g1 ns)) (0+b.wn+1) (fun k=>u8 (qAj (v4a b) (0+b.wn) (fun _=>128) k)) (u8 0))⟩,none])),.g]) (m6 fun n2 n3 n4 n5 n6 n7=>(.inv [0,2,3] [0,2,3] 4 (qI5 b n1 n2 n3 n4 n5 n6 n7) (qNz b n1 n2 n3 n4 n5 n6 n7) (qI7 b n1 n2 n3 n4 n5 n6 n7) ((0+b.wn+1,n7,qAj (v4a b) (0+b.wn) (fun _=>128),n6):Nat×Nat×(Nat→UInt8)×Nat) (fun(x1:Nat×Nat×(Nat→UInt8)×Nat)=>(.reg (rg [.g,(aN x1.1),(aN (x1.1%64)),(aB (!(decide ((x1.1%64)=56))))]) (.br (.regn (rg [.g,(.oth [] 1 1 (fun ns=>vS (some ⟨ns.getD 0 0,0,none⟩) 1 1) (fun ns=>[some ⟨ns.getD 0 0,true,0,.lit [(u8 0)]⟩])),(.oth [(2,false),(4,true)] 2 0 (fun ns=>vS (some ⟨(g0 ns),0,none⟩) (x1.1+1) (x1.1+1+(g1 ns))) (fun ns=>[some ⟨(g0 ns),true,0,(spr (x1.1+1+(g1 ns)) (x1.1+1) (fun k=>u8 (qAj x1.2.2.1 x1.1 (fun _=>0) k)) (u8 0))⟩,none])),.g]) (m3 fun n8 n9 n10=>.done)) (.reg (rg [.g,(aN b.wn),(aQ (uO b.wn)),(aQ ((uO b.wn)*8)),.g]) (.reg (rg [.g]) (.inv [2,3,4,5] [0,2,3] 4 (qI8 b n1 n2 n3 n4 n5 n6 n7 x1) (qNO b n1 n2 n3 n4 n5 n6 n7 x1) (qIC b n1 n2 n3 n4 n5 n6 n7 x1) ((0,x1.1,x1.2.1,x1.2.2.1,x1.2.2.2):Nat×Nat×Nat×(Nat→UInt8)×Nat) (fun(x2:Nat×Nat×Nat×(Nat→UInt8)×Nat)=>(.reg (rg [.g,(aB (decide (x2.1<8)))]) (.br (.regn (rg [.g,.g,.g,(aN (8*x2.1)),(aN (56-(8*x2.1))),(aQ (qTw b x2.1)),(.as (v4B b x2)),(.oth [] 1 1 (fun ns=>vS (some ⟨ns.getD 0 0,0,none⟩) 1 1) (fun ns=>[some ⟨ns.getD 0 0,true,0,.lit [(v4B b x2)]⟩])),(.oth [(2,false),(4,true)] 2 0 (fun ns=>vS (some ⟨(g0 ns),0,none⟩) (x2.2.1+1) (x2.2.1+1+(g1 ns))) (fun ns=>[some ⟨(g0 ns),true,0,(spr (x2.2.1+1+(g1 ns)) (x2.2.1+1) (fun k=>u8 (qAj x2.2.2.2.1 x2.2.1 (fun _=>((qTw b x2.1).toUInt8)) k)) (u8 0))⟩,none])),.g]) (m3 fun n11 n12 n13=>(.reg (rg [.g,(aN (x2.1+1)),.g]) .done))) (.regn (rg [.g,.new,v2F]) (more (fun n14=>fun _=>(.reg (rg [.g]) (.inv [2,3,6,7] [0,2,3,4] 5 (qIU b n1 n2 n3 n4 n5 n6 n7 x1 x2 n14) (qNn b n1 n2 n3 n4 n5 n6 n7 x1 x2 n14) (qJg b n1 n2 n3 n4 n5 n6 n7 x1 x2 n14) ((0,qQt):Nat×(Nat→UInt32)) (fun(x3:Nat×(Nat→UInt32))=>(.reg (rg [.g,.g,(aN x2.2.1),(aB (decide (x3.1<x2.2.1)))]) (.br (.reg (rg [v1L,.g,.g,.g,(aN (x3.1+64)),(.as (vS (some ⟨x2.2.2.2.2,x3.1,none⟩) 64 ((x2.2.1+x2.2.2.1)-x3.1))),(.callF [(2,true)] 0 0 (fun _=>(qBJ 8 (fun k=>u32 (qHF x3.2 (qR5 x2.2.2.2.2 x3.1 64 ((x2.2.1+x2.2.2.1)-x3.1) x2.2.2.2.1).wf k)))) (fun _=>[none])),v2F]) (.reg (rg [.g,(aN (x3.1+64)),.g]) .done)) (.regn (rg [.g,.new,v4T]) (more (fun n15=>fun _=>(.reg (rg [.g]) (.cast 4 (qAd 8 (fun k=>u32 (x3.2 k))) (.cast 5 v2J (.inv [2,6,8,9] [0,2,3,4,5] 6 (qJc b n1 n2 n3 n4 n5 n6 n7 x1 x2 n14 x3 n15) (qM4 b n1 n2 n3 n4 n5 n6 n7 x1 x2 n14 x3 n15) (qIx b n1 n2 n3 n4 n5 n6 n7 x1 x2 n14 x3 n15) ((0,(fun _=>0)):Nat×(Nat→UInt8)) (fun(x4:Nat×(Nat→UInt8))=>(.reg (rg [.g,(aB (decide (x4.1<32)))]) (.br (.reg (rg [.g,.g,(aN (x4.1/4)),(.as (ptr n14 (0+(x4.1/4)*1))),(.ld 4 (.tab (x4.1/4) 0)),.g,(aN (x4.1%4)),(aN (8*(x4.1%4))),(aN (24-(8*(x4.1%4)))),(aU (v2a x3 x4)),(.as (u8 ((v2a x3 x4).toUInt8))),(.as (qPv n15 x4.1)),(.stc 5 (.tab x4.1 0) (qAd 32 (fun k=>u8 (upd x4.2 x4.1 ((v2a x3 x4).toUInt8) k))))]) (.reg (rg [.g,(aN (x4.1+1)),.g]) .done)) (.cast 5 (qDs 32 (fun k=>u8 (x4.2 k))) (.reg (rg [(.ld 5 (.lit 0)),v19]) .done)))))))))))))))))))))))))))))))))))) [(0,0)] [] rfl
  (have f2:qEJ b.wn%64=56∧b.wn+1≤qEJ b.wn∧qEJ b.wn≤b.wn+64:=(qXt (n:=b.wn) (by omega));Eq.mp (by kernel_rfl) (fun(n1:Nat)=>aI kV1 (aI (⟨(show 0<b.wn from by omega),rfl⟩:qBi b (qJz b)) (fun(n2 n3 n4 n5 n6 n7:Nat)=>aI (aI v1r (sk (aI (aT (qAu.dark [false,true] (qSW (P:=TP) (t:=29) (ty:=29) (e:=5) (by kernel_rfl) qDK n2 0 0 b.wb b.wo 0 b.wn b.wc u8 (fun _=>0) b.wf (qAd b.wn (fun k=>u8 (b.wf k))) (fun j hj=>by rw[Nat.zero_add];exact qAH hj) (fun _=>rfl) (show(0+b.wn)*1≤140737488355328∧0+b.wn≤9223372036854775807 from by omega) (hb.ad (show 0<b.wn from by omega))))) (aI (aT (qAO (P:=TP) (t:=29) (e:=5) qDK 1 #[(0,(u8 128))] #[(u8 128)] (by kernel_rfl) (by decide) (by kernel_rfl))) (aI (aT (qAu.dark [false,true] (qAZ (P:=TP) (t:=29) (ty:=29) (e:=5) (by kernel_rfl) qDK n3 (0+b.wn) n4 n5 0 0 1 1 u8 (v4a b) (fun _=>128) (.lit [(u8 128)]) (qBy (u8 128)) (fun _=>rfl) (show(0+b.wn+1)*1≤140737488355328∧0+b.wn+1≤9223372036854775807 from by omega)))) kV1))))) (aI (show(qI5 b n1 n2 n3 n4 n5 n6 n7) ((0+b.wn+1,n7,qAj (qAj (fun _=>0) 0 b.wf) (0+b.wn) (fun _=>128),n6):Nat×Nat×(Nat→UInt8)×Nat) from(show(b.wn+1≤(0+b.wn+1))∧((0+b.wn+1)≤qEJ b.wn)∧(∀k,k<(0+b.wn+1)→((qAj (qAj (fun _=>0) 0 b.wf) (0+b.wn) (fun _=>128))) k=qS4 b.wf b.wn k) from by exact⟨by omega,by omega,jAp⟩)) (aI (@rfl St ((qNz b n1 n2 n3 n4 n5 n6 n7) ((0+b.wn+1,n7,qAj (v4a b) (0+b.wn) (fun _=>128),n6):Nat×Nat×(Nat→UInt8)×Nat))) (fun(x1:Nat×Nat×(Nat→UInt8)×Nat) (hx1:(qI5 b n1 n2 n3 n4 n5 n6 n7) x1)=>have B0:b.wn+1≤x1.1:=hx1.1;have B1:x1.1≤qEJ b.wn:=hx1.2.1;have B2:∀k,k<x1.1→(x1.2.2.1) k=qS4 b.wf b.wn k:=hx1.2.2;aI (sk (aI (aT (@wG0 15 (some ⟨x1.2.2.2,0,none⟩) x1.1 (x1.1+x1.2.1))) (aI (aT (@qL2 TP 3 3 (.tmp 16) (.const (.int .i64 64))  x1.1 64 (show 0<64 from by omega))) (aI (aT (@qJK TP 3 3 (.tmp 17) (.const (.int .i64 56))  (x1.1%64) 56)) tV)))) (aT (aI (fun(h1:(!(decide ((x1.1%64)=56)))=true)=>have f6:¬((x1.1%64)=56):=(oF (qBr h1));fun(n8 n9 n10:Nat)=>aI (sk (aI (aT (qAO (P:=TP) (t:=29) (e:=5) qDK 1 #[(0,(u8 0))] #[(u8 0)] (by kernel_rfl) (by decide) (by kernel_rfl))) (aI (aT (qAu.dark [false,true] (qAZ (P:=TP) (t:=29) (ty:=29) (e:=5) (by kernel_rfl) qDK x1.2.2.2 x1.1 x1.2.1 n8 0 0 1 1 u8 x1.2.2.1 (fun _=>0) (.lit [(u8 0)]) (qBy (u8 0)) (fun _=>rfl) (show(x1.1+1)*1≤140737488355328∧x1.1+1≤9223372036854775807 from by omega)))) kV1))) ((rnd (qI5 b n1 n2 n3 n4 n5 n6 n7) (qNz b n1 n2 n3 n4 n5 n6 n7) (qI7 b n1 n2 n3 n4 n5 n6 n7) x1 ((x1.1+1,n10,qAj x1.2.2.1 x1.1 (fun _=>0),n9):Nat×Nat×(Nat→UInt8)×Nat) (show(qI5 b n1 n2 n3 n4 n5 n6 n7) ((x1.1+1,n10,qAj x1.2.2.1 x1.1 (fun _=>0),n9):Nat×Nat×(Nat→UInt8)×Nat)∧(qI7 b n1 n2 n3 n4 n5 n6 n7) ((x1.1+1,n10,qAj x1.2.2.1 x1.1 (fun _=>0),n9):Nat×Nat×(Nat→UInt8)×Nat)<(qI7 b n1 n2 n3 n4 n5 n6 n7) x1 from(show((b.wn+1≤(x1.1+1))∧((x1.1+1)≤qEJ b.wn)∧(∀k,k<(x1.1+1)→((qAj x1.2.2.1 x1.1 (fun _=>0))) k=qS4 b.wf b.wn k))∧(qEJ b.wn-(x1.1+1))<(qEJ b.wn-x1.1) from by exact⟨⟨by omega,by omega,jBw B0 B2⟩,by omega⟩))))) (fun(h1:(!(decide ((x1.1%64)=56)))=false)=>have f6:((x1.1%64)=56):=(oT (qAQ h1));aI (sk (aI (aT (@wG0 22 b.wa b.wn b.wc)) (aI (aT (@wL0 23 b.wn)) (aI (aT (@qCh TP 23 23 (.tmp 24) (.const (.int .u64 8)) (uO b.wn) 8)) kV1)))) (aI kV1 (aI (show(0≤8)∧(x1.1=x1.1+0)∧(∀k,k<x1.1→(x1.2.2.1) k=qMm b.wf b.wn k) from by exact⟨Nat.zero_le _,rfl,jBd (by omega) rfl B2⟩) (aI (@rfl St ((qNO b n1 n2 n3 n4 n5 n6 n7 x1) ((0,x1.1,x1.2.1,x1.2.2.1,x1.2.2.2):Nat×Nat×Nat×(Nat→UInt8)×Nat))) (fun(x2:Nat×Nat×Nat×(Nat→UInt8)×Nat) (hx2:(qI8 b n1 n2 n3 n4 n5 n6 n7 x1) x2)=>have E0:x2.1≤8:=hx2.1;have E1:x2.2.1=x1.1+x2.1:=hx2.2.1;have E2:∀k,k<x2.2.1→(x2.2.2.2.1) k=qMm b.wf b.wn k:=hx2.2.2;aI (sk (aI (aT (@wD0 26  x2.1 8)) tV)) (aT (aI (fun(h2:(decide (x2.1<8))=true)=>have f10:=(oT h2);fun(n11 n12 n13:Nat)=>aI (sK3 (aI (aT (@wW0 32  8 x2.1 (show 8*x2.1≤9223372036854775807 from by omega))) (aI (aT (@qAD TP 3 3 (.const (.int .i64 56)) (.tmp 33)  56 (8*x2.1) (show(8*x2.1)≤56∧56-(8*x2.1)≤9223372036854775807 from by omega))) (aI (aT (@wN0 31 34 ((uO b.wn)*8) .i64 (56-(8*x2.1)))) (aI (aT (@wO0 35 (qTw b x2.1))) (aI (aT (qAO (P:=TP) (t:=29) (e:=5) qDK 1 #[(0,(v4B b x2))] #[(v4B b x2)] (by kernel_rfl) (by decide) (by kernel_rfl))) (aI (aT (qAu.dark [false,true] (qAZ (P:=TP) (t:=29) (ty:=29) (e:=5) (by kernel_rfl) qDK x2.2.2.2.2 x2.2.1 x2.2.2.1 n11 0 0 1 1 u8 x2.2.2.2.1 (fun _=>((qTw b x2.1).toUInt8)) (.lit [(v4B b x2)]) (qBy (v4B b x2)) (fun _=>rfl) (show(x2.2.1+1)*1≤140737488355328∧x2.2.1+1≤9223372036854775807 from by omega)))) kV1))))))) (aI (sk (aI (aT (@wy0 28  x2.1 1 (show x2.1+1≤9223372036854775807 from by omega))) kV1)) ((rnd (qI8 b n1 n2 n3 n4 n5 n6 n7 x1) (qNO b n1 n2 n3 n4 n5 n6 n7 x1) (qIC b n1 n2 n3 n4 n5 n6 n7 x1) x2 ((x2.1+1,x2.2.1+1,n13,qAj x2.2.2.2.1 x2.2.1 (fun _=>((qTw b x2.1).toUInt8)),n12):Nat×Nat×Nat×(Nat→UInt8)×Nat) (show(((x2.1+1)≤8)∧((x2.2.1+1)=x1.1+(x2.1+1))∧(∀k,k<(x2.2.1+1)→((qAj x2.2.2.2.1 x2.2.1 (fun _=>((qAa ((uO b.wn)*8) (56-(8*x2.1))).toUInt8)))) k=qMm b.wf b.wn k))∧(8-(x2.1+1))<(8-x2.1) from by exact⟨⟨by omega,by omega,qZD (by omega) E1 (by omega) E2⟩,by omega⟩))))) (fun(h2:(decide (x2.1<8))=false)=>have f10:=(oF h2);fun(n14:Nat)=>aI (sK2 (aI (aT (ad n14 0)) tV)) (aI kV1 (aI (show(0%64=0)∧(0≤x2.2.1)∧(qQt=qJB (qMm b.wf b.wn) (0/64)) from by exact⟨rfl,by omega,rfl⟩) (aI (@rfl St ((qNn b n1 n2 n3 n4 n5 n6 n7 x1 x2 n14) ((0,qQt):Nat×(Nat→UInt32)))) (fun(x3:Nat×(Nat→UInt32)) (hx3:(qIU b n1 n2 n3 n4 n5 n6 n7 x1 x2 n14) x3)=>have C0:x3.1%64=0:=hx3.1;have C1:x3.1≤x2.2.1:=hx3.2.1;have C2:x3.2=qJB (qMm b.wf b.wn) (x3.1/64):=hx3.2.2;aI (sK2 (aI (aT (@wG0 41 (some ⟨x2.2.2.2.2,0,none⟩) x2.2.1 (x2.2.1+x2.2.2.1))) (aI (aT (@qAC TP 3 3 (.tmp 40) (.tmp 42)  x3.1 x2.2.1)) tV))) (aT (aI (fun(h3:(decide (x3.1<x2.2.1))=true)=>have f14:=(oT h3);aI (aI (aT (ad n14 0)) (sK3 (aI (aT (@wX0 49  x3.1 64 (show x3.1+64≤9223372036854775807 from by omega))) (aI (aT (@qSy TP 29 5 (.tmp 47) (.tmp 48) (.tmp 50) (by kernel_rfl) (by kernel_rfl) x2.2.2.2.2 x2.2.1 (x2.2.1+x2.2.2.1) x3.1 (x3.1+64) 64 (show x3.1+64=x3.1+64∧x3.1+64≤x2.2.1+x2.2.2.1∧x3.1<x2.2.1+x2.2.2.1 from by omega))) (aI (aT (qBI.toF (F:=(qBi b)) (qAt.read (cs:=[⟨x2.2.2.2.2,false,0,(spr (x2.2.1+x2.2.2.1) x2.2.1 (fun k=>u8 (x2.2.2.2.1 k)) (u8 0))⟩]) (qUs x3.2 (qR5 x2.2.2.2.2 x3.1 64 ((x2.2.1+x2.2.2.1)-x3.1) x2.2.2.2.1) (qRS (show 64≤(x2.2.1+x2.2.2.1)-x3.1 from by omega) (by decide)) (Nat.le_refl _)) (qSp (show x3.1+64≤x2.2.1 from by omega)) (by simp)))) (aI (aT (ad n14 0)) tV)))))) (aI (sk (aI (aT (@wX0 44  x3.1 64 (show x3.1+64≤9223372036854775807 from by omega))) kV1)) ((rnd (qIU b n1 n2 n3 n4 n5 n6 n7 x1 x2 n14) (qNn b n1 n2 n3 n4 n5 n6 n7 x1 x2 n14) (qJg b n1 n2 n3 n4 n5 n6 n7 x1 x2 n14) x3 ((x3.1+64,(qHF x3.2 (qR5 x2.2.2.2.2 x3.1 64 ((x2.2.1+x2.2.2.1)-x3.1) x2.2.2.2.1).wf)):Nat×(Nat→UInt32)) (show(((x3.1+64)%64=0)∧((x3.1+64)≤x2.2.1)∧((qHF x3.2 (qR5 x2.2.2.2.2 x3.1 64 ((x2.2.1+x2.2.2.1)-x3.1) x2.2.2.2.1).wf)=qJB (qMm b.wf b.wn) ((x3.1+64)/64)))∧(x2.2.1-(x3.1+64))<(x2.2.1-x3.1) from by exact⟨⟨by omega,by omega,qYB C0 (by omega) C2 E2⟩,by omega⟩))))) (fun(h3:(decide (x3.1<x2.2.1))=false)=>have f14:=(oF h3);fun(n15:Nat)=>aI (sK2 (aI (aT (ad n15 0)) tV)) (aI kV1 (aI (qEx 8 (fun k=>u32 (x3.2 k))) (aI v4s (aI (show(qJc b n1 n2 n3 n4 n5 n6 n7 x1 x2 n14 x3 n15) ((0,(fun _=>0)):Nat×(Nat→UInt8)) from(show(0≤32)∧((fun _=>0)=qMl x3.2 0) from by exact⟨by omega,qOo _⟩)) (aI (@rfl St ((qM4 b n1 n2 n3 n4 n5 n6 n7 x1 x2 n14 x3 n15) ((0,(fun _=>0)):Nat×(Nat→UInt8)))) (fun(x4:Nat×(Nat→UInt8)) (hx4:(qJc b n1 n2 n3 n4 n5 n6 n7 x1 x2 n14 x3 n15) x4)=>have D0:x4.1≤32:=hx4.1;have D1:x4.2=qMl x3.2 x4.1:=hx4.2;aI (sk (aI (aT (@wP0 54  x4.1 32)) tV)) (aT (aI (fun(h4:(decide (x4.1<32))=true)=>have f17:=(oT h4);aI (sK2 (aI (aT (@wv0 59  x4.1 4 (show 0<4∧x4.1≤9223372036854775807 from by omega))) (aI (aT (@wE0 6 60 n14 0 (x4.1/4) (show x4.1/4<8 from by omega))) (aI (aT (aI (show x4.1/4<8 from by omega) (@rfl Value (ptr n14 (0+(x4.1/4)*1))))) (sk (aI (aT (@wQ0 63  x4.1 4 (show 0<4 from by omega))) (aI (aT (@wW0 64  8 (x4.1%4) (show 8*(x4.1%4)≤9223372036854775807 from by omega))) (aI (aT (@wR0 65  24 (8*(x4.1%4)) (show(8*(x4.1%4))≤24∧24-(8*(x4.1%4))≤9223372036854775807 from by omega))) (aI (aT (@wp0 62 66 (x3.2 (x4.1/4)) .i64 (24-(8*(x4.1%4))))) (aI (aT (@wS0 67 (v2a x3 x4))) (aI (aT (@wT0 8 58 n15 0 x4.1 (show x4.1<32 from by omega))) (aI (aT (aI (show x4.1<32 from by omega) (aI (@rfl Value (qPv n15 x4.1)) (qCo 32 u8 x4.2 x4.1 ((v2a x3 x4).toUInt8))))) tV)))))))))))) (aI (sk (aI (aT (@wy0 56  x4.1 1 (show x4.1+1≤9223372036854775807 from by omega))) kV1)) ((rnd (qJc b n1 n2 n3 n4 n5 n6 n7 x1 x2 n14 x3 n15) (qM4 b n1 n2 n3 n4 n5 n6 n7 x1 x2 n14 x3 n15) (qIx b n1 n2 n3 n4 n5 n6 n7 x1 x2 n14 x3 n15) x4 ((x4.1+1,upd x4.2 x4.1 ((v2a x3 x4).toUInt8)):Nat×(Nat→UInt8)) (show(((x4.1+1)≤32)∧((upd x4.2 x4.1 ((qAF (x3.2 (x4.1/4)) (24-(8*(x4.1%4)))).toUInt8))=qMl x3.2 (x4.1+1)))∧(32-(x4.1+1))<(32-x4.1) from by exact⟨⟨by omega,qSP D1⟩,by omega⟩))))) (fun(h4:(decide (x4.1<32))=false)=>have f17:=(oF h4);aI (qLZ 32 (fun k=>u8 (x4.2 k))) (aI (aI (aT (ad n15 0)) (v6d n1)) (aI (v0z n1) (eX (fun(ns:List Nat)=>ns.length=0∧((qBJ 32 (fun k=>u8 (x4.2 k))):Value)=(fun _=>qBJ 32 fun k=>u8 (qIq b.wf b.wn k)) ns∧([]:List (Option Blk))=(fun _=>[]) ns) [] (aI v0b (aI ((show(qBJ 32 (fun k=>u8 (x4.2 k)))=qBJ 32 (fun k=>u8 (qIq b.wf b.wn k)) from by exact jAI D1 (by omega) C2 (by omega))) v0f))))))))))))))))))))))))))))))))))))))
end Go.Proofs.YtmdpendnbkajdaaGreatDoor
end
section
namespace Go.Eng
open Go.WideShapes Go.ChangeShapes Go.ChangeAt
section
variable {α β:Type} {P:Program} {mt kt et:TypeId} {kv:α→Value} {ev:β→Value} {z:β} {eqb:α→α→Bool}
theorem qMX {kd:TypeDesc} (hs:∀k h,Instr.sameNow kd (kv k) (kv h)=some (eqb k h)) (k:α):∀(l:List (α×β)) (n i:Nat),Instr.findNow kd (kv k) (qBZ kv ev l n) i=some ((qFN eqb k l i).map fun p=>(p.1,ev p.2))
 |[],_,_=>rfl
 |(h,x)::r,n,i=>by
  simp only[qBZ,Instr.findNow,hs,qFN];cases e:eqb k h with
  |true=>simp
  |false=>simpa using qMX hs k r (n+1) (i+1)
theorem qNI {kd:TypeDesc} (hm:P.underlying mt=some (.map kt et)) (hk:P.underlying kt=some kd) (hs:∀k h,Instr.sameNow kd (kv k) (kv h)=some (eqb k h))
  (chk:∀em k w,(Instr.checkKey em 10000 kt (kv k)).run P w=.ok () w) (eqr:∀k h w,(Op.equal kt (kv k) (kv h)).run P w=.ok (eqb k h) w) (eqv:∀k h,eqb k h=true→Instr.sameBits 10000 (kv h) (kv k)=true) (zer:∀w,(zeroValue et).run P w=.ok (ev z) w):
  MapT P mt kt et kv ev z eqb:=⟨hm,chk,fun k l n w=>MapKept.run_findKey hk (qMX hs k l n 0),eqr,eqv,zer⟩
end
section
variable {P:Program} {mt kt et:TypeId} {β:Type} {ev:β→Value} {z:β}
theorem qQZ (hm:P.underlying mt=some (.map kt et)) (hk:P.underlying kt=some (.int .i64)) (hz:∀w,(zeroValue et).run P w=.ok (ev z) w):MapT P mt kt et int ev z (fun a b:Int=>a==b):=
 qNI hm hk (fun _ _=>rfl) (fun em k w=>by unfold Instr.checkKey;simp[run_underlying hk,int]) (fun k h w=>by
  have:qAb P (Op.equal kt (int k) (int h))=some (k==h):=by
   show qAb P (Op.equalIn (9999+1) kt (.int .i64 k) (.int .i64 h))=_;unfold Op.equalIn;rw[qAh,qAi hk];rfl
  exact qAW this w) (fun k h e=>by rw[eq_of_beq e];simp[Instr.sameBits,int]) hz
theorem qT2 (hm:P.underlying mt=some (.map kt et)) (hk:P.underlying kt=some .bool) (hz:∀w,(zeroValue et).run P w=.ok (ev z) w):MapT P mt kt et Value.bool ev z (fun a b:Bool=>a==b):=
 qNI hm hk (fun _ _=>rfl) (fun em k w=>by unfold Instr.checkKey;simp[run_underlying hk]) (fun k h w=>by
  have:qAb P (Op.equal kt (.bool k) (.bool h))=some (k==h):=by
   show qAb P (Op.equalIn (9999+1) kt (.bool k) (.bool h))=_;unfold Op.equalIn;rw[qAh,qAi hk];rfl
  exact qAW this w) (fun k h e=>by rw[eq_of_beq e];simp[Instr.sameBits]) hz
end
def sR (f g:Nat→UInt8):Bool:=(List.range 32).all fun i=>f i==g i
def qDf (f:Nat→UInt8):Value:=qBJ 32 fun k=>u8 (f k)
def qG4 {f g:Nat→UInt8}:sR f g=true↔∀i,i<32→f i=g i:=by
 simp[sR,List.all_eq_true]
def qEu (f:Nat→UInt8):sR f f=true:=qG4.2 fun _ _=>rfl
def qLk {f g:Nat→UInt8} (h:sR f g=true):sR g f=true:=qG4.2 fun i hi=>(qG4.1 h i hi).symm
def qIz {f g h:Nat→UInt8} (a:sR f g=true) (b:sR g h=true):sR f h=true:=qG4.2 fun i hi=>(qG4.1 a i hi).trans (qG4.1 b i hi)
def jAR {f g:Nat→UInt8} (h:sR f g=true):qDf f=qDf g:=by
 unfold qDf qBJ;congr 1;rw[show(List.range 32).map (fun k=>u8 (f k))=(List.range 32).map (fun k=>u8 (g k)) from List.map_congr_left fun k hk=>by rw[qG4.1 h k (List.mem_range.1 hk)]]
theorem qQ5 {P:Program} {α:Type} {f:α→PUnit→Sem (ForInStep PUnit)} (w:World):∀(l:List α),(∀x∈l,(f x ⟨⟩).run P w=.ok (.yield ⟨⟩) w)→(forIn l PUnit.unit f).run P w=.ok PUnit.unit w
 |[],_=>rfl
 |x::l,h=>by
  rw[List.forIn_cons];simp only[Sem.run_bind,h x (.head _),Result.andThen_ok];exact qQ5 w l fun y hy=>h y (.tail _ hy)
def jBO {P:Program} {t e:TypeId} (ht:P.underlying t=some (.array 32 e)) (he:P.underlying e=some (.int .u8)) (hs:qBT P e=some 1) (em:Bool) (x:Nat→UInt8) (w:World):(Instr.checkKey em 10000 t (qDf x)).run P w=.ok () w:=by
 have hsz:(sizeOf e).run P w=.ok 1 w:=qAW (qA7 hs) w;have hc:∀k a,(Instr.checkKey em 9999 e (.int k a)).run P w=.ok () w:=fun k a=>by
  unfold Instr.checkKey;simp[run_underlying he]
 have hp:∀i,i<32→(part e ((List.range 32).map fun k=>u8 (x k)).toArray i).run P w=.ok (u8 (x i)) w:=fun i hi=>qOS w he (by simp[hi])
 unfold Instr.checkKey;simp only[Sem.run_bind,run_underlying ht,Result.andThen_ok,qDf,qBJ,Std.Legacy.Range.forIn_eq_forIn_range',Std.Legacy.Range.size];rw[qQ5 w _ fun i hi=>?_]
 ·rfl
 have hi':i<32:=by
  simpa using hi
 simp only[Sem.run_bind,hsz,Result.andThen_ok,Nat.mul_one,hp i hi'];unfold u8;simp only[hc,Result.andThen_ok];rfl
def qLM {P:Program} {t e:TypeId} (ht:P.underlying t=some (.array 32 e)) (he:P.underlying e=some (.int .u8)) (hs:qBT P e=some 1) (f g:Nat→UInt8):
  qAb P (Op.equal t (qDf f) (qDf g))=some (sR f g):=by
 have h:=qHO (P:=P) 9998 ((List.range 32).map fun k=>((f k).toNat:Int)) ((List.range 32).map fun k=>((g k).toNat:Int)) ht he hs (by simp) (by simp)
 have e1:∀q:Nat→UInt8,(((List.range 32).map fun k=>((q k).toNat:Int)).map (Value.int .u8)).toArray=((List.range 32).map fun k=>u8 (q k)).toArray:=fun q=>by
  rw[List.map_map];rfl
 rw[e1,e1] at h;show qAb P (Op.equalIn (9998+2) t (qBJ 32 _) (qBJ 32 _))=_;rw[show(qBJ 32 fun k=>u8 (f k))=.agg ((List.range 32).map fun k=>u8 (f k)).toArray from rfl,show(qBJ 32 fun k=>u8 (g k))=.agg ((List.range 32).map fun k=>u8 (g k)).toArray from rfl,h]
 congr 1;rw[Bool.eq_iff_iff,List.all_eq_true,qG4];constructor
 ·intro h1 k hk
  have h2:=h1 k (List.mem_range.2 hk);simp[List.getD,hk] at h2;exact UInt8.toNat_inj.1 (by omega)
 ·intro h1 k hk
  have hk':=List.mem_range.1 hk;simp[List.getD,hk',h1 k hk']
def qO0 (f:Nat→UInt8):Instr.sameBits 10000 (qDf f) (qDf f)=true:=by
 have h:∀l:List Value,(∀v∈l,Instr.sameBits 9999 v v=true)→(l.zip l).all (fun(x,y)=>Instr.sameBits 9999 x y)=true:=fun l=>by
  induction l with
  |nil=>intro _;rfl
  |cons v l ih=>intro hv;simp only[List.zip_cons_cons,List.all_cons,hv v (.head _),Bool.true_and];exact ih fun u hu=>hv u (.tail _ hu)
 show(_ == _ &&(List.zip _ _).all _)=true;rw[beq_self_eq_true,Bool.true_and];refine h _ fun v hv=>?_
 obtain⟨k,_,rfl⟩:=List.mem_map.1 hv;simp[Instr.sameBits,u8]
def qWR {P:Program} {mt kt et e:TypeId} {β:Type} {ev:β→Value} {z:β} (hm:P.underlying mt=some (.map kt et)) (ht:P.underlying kt=some (.array 32 e)) (he:P.underlying e=some (.int .u8)) (hs:qBT P e=some 1) (hz:∀w,(zeroValue et).run P w=.ok (ev z) w):MapT P mt kt et qDf ev z sR:=
 have eqr:∀k h w,(Op.equal kt (qDf k) (qDf h)).run P w=.ok (sR k h) w:=fun k h w=>qAW (qLM ht he hs k h) w
 ⟨hm,fun em k w=>jBO ht he hs em k w,fun k l n w=>(run_findKey_eq w (by rw[ht]) _ _).trans (qML eqr k w l n 0),eqr,fun k h e=>by rw[jAR e];exact qO0 h,hz⟩
def qU2 {P:Program} {t e t':TypeId} {x y:Operand} (ht:P.underlying t=some (.array 32 e)) (he:P.underlying e=some (.int .u8)) (hs:qBT P e=some 1) (hg:P.eqGuardType P.depth t=false) (f g:Nat→UInt8):
  qB2 P (.binOp .eql t x y t') [qDf f,qDf g] (.bool (sR f g)):=qAw (qOs hg) (by
 show qAb P (do pure (Value.bool (←Op.equal t (qDf f) (qDf g))))=_
 rw[qAh,qLM ht he hs];rfl)
def jAO {P:Program} {t e t':TypeId} {x y:Operand} (ht:P.underlying t=some (.array 32 e)) (he:P.underlying e=some (.int .u8)) (hs:qBT P e=some 1) (hg:P.eqGuardType P.depth t=false) (f g:Nat→UInt8):
  qB2 P (.binOp .neq t x y t') [qDf f,qDf g] (.bool (!(sR f g))):=qAw (qOs hg) (by
 show qAb P (do pure (Value.bool (!(←Op.equal t (qDf f) (qDf g)))))=_
 rw[qAh,qLM ht he hs];rfl)
end Go.Eng
end
section
namespace Go.Eng
open Go.WideShapes Go.ChangeMaps
def qBs (o:List Nat) (n:Nat):Bool:=(List.range n).any fun i=>!o.contains i
def pk (o:List Nat) (n c:Nat):Nat:=if c<n∧o.contains c=false then c else((List.range n).find? fun i=>!o.contains i).getD 0
def qD8 {o:List Nat} {n:Nat} (h:qBs o n=true) (c:Nat):pk o n c<n∧o.contains (pk o n c)=false:=by
 unfold pk;split
 ·rename_i hc;exact hc
 ·obtain⟨i,h1,h2⟩:=List.any_eq_true.1 h
  cases hf:(List.range n).find? (fun i=>!o.contains i) with
  |none=>have:=List.find?_eq_none.1 hf i h1;exact absurd h2 this
  |some j=>
   have h3:=List.find?_some hf;have h4:=List.mem_of_find?_eq_some hf;exact⟨List.mem_range.1 h4,by simpa using h3⟩
def qUn {o:List Nat} {n c:Nat} (h:c<n) (h2:o.contains c=false):pk o n c=c:=if_pos ⟨h,h2⟩
def qKN {o:List Nat} {n:Nat} (h:qBs o n=false):∀i,i<n→o.contains i=true:=fun i hi=>by
 cases hc:o.contains i with
 |true=>rfl
 |false=>
  have:qBs o n=true:=List.any_eq_true.2 ⟨i,List.mem_range.2 hi,by rw[hc];rfl⟩
  rw[h] at this;cases this
def qFv (o:List Nat) (n:Nat):Nat:=((List.range n).filter fun i=>!o.contains i).length
def qHx {o:List Nat} {n j:Nat} (h:j<n) (h2:o.contains j=false):qFv (o++[j]) n<qFv o n:=by
 unfold qFv;refine filter_lt (fun i=>!o.contains i) (fun i=>!(o++[j]).contains i) (fun x hx=>?_) j (by rw[h2];rfl) (by simp) _ (List.mem_range.2 h)
 simp at hx ⊢;exact hx.1
def itC (bm n:Nat) (o:List Nat):qAL:=.map (.o (.mapIter (some bm) n o.toArray n)) 0
def qAL.clk:qAL→Nat
 |.map _ c=>c
 | _=>0
def itB:List Blk→qAL
 |b:: _=>itC b.name b.cont.clk []
 |[]=>.lit []
def qAc.darkV {F:Blk→Prop} {P:Program} {f:FuncId} {args:List Value} {bs:List (Option Blk)} {k:Nat} {v:List Nat→Value} {out:List Nat→List (Option Blk)} (fl:List Bool) (h:qAc F P f args bs k v out):
  qAc F P f args bs k v (fun ns=>dkn fl (out ns)):=fun w hb ha hF=>Calls.mono (h w hb ha hF) fun _ _ ⟨ns,h1,h2,h3⟩=>⟨ns,h1,h2,h3.sub (qH8 fl (out ns))⟩
def qAu.valE {P:Program} {s:Sem Next} {bs:List Blk} {k:Nat} {a b:Value} {out:List Nat→List (Option Blk)} (h:qAu P s bs k (fun _=>a) out) (e:a=b):qAu P s bs k (fun _=>b) out:=e▸h
def qBp {α β:Type} (d:α×β) (l:List (α×β)) (i:Nat):α×β:=l.getD i d
section
variable {α β:Type} {P:Program} {mt kt et:TypeId} {kv:α→Value} {ev:β→Value} {z:β} {eqb:α→α→Bool}
theorem qO1:∀(l:List (α×β)) (n:Nat),(qBZ kv ev l n).map (·.born)=List.range' n l.length
 |[],_=>rfl
 |(h,x)::r,n=>by simp[qBZ,List.range'_succ,qO1 r (n+1)]
theorem qKQ {l:List (α×β)} {e:MapEntry} (he:e∈qBZ kv ev l 0):∃j h x,l[j]?=some (h,x)∧e=⟨kv h,ev x,j⟩:=by
 obtain⟨j,hj,he⟩:=List.getElem_of_mem he;have hl:j<l.length:=by rw[←qOX (kv:=kv) (ev:=ev) l 0];exact hj
 refine⟨j,l[j].1,l[j].2,by simp[hl],?_⟩
 have:=qHc (kv:=kv) (ev:=ev) l 0 j l[j].1 l[j].2 (by simp[hl])
 rw[List.getElem?_eq_getElem hj] at this;rw[←he];simpa using Option.some.inj this
def qVp (t:TypeId) (x:Value):Sem Next:=do pure (.value (←Instr.range t x))
def qPo (x:Value) (ty:TypeId):Sem Next:=do pure (.value (←Instr.next x false ty))
def qY1 (x:Value):Sem Next:=do pure (.value (←Instr.entry x))
theorem qRd (hm:P.underlying mt=some (.map kt et)) (b:Nat) (own:Bool) (l:List (α×β)):
  qAu P (qVp mt (.map (some b))) [⟨b,own,0,qPw kv ev l⟩] 1 (fun ns=>ptr (ns.getD 0 0) 0) (fun ns=>[none,some ⟨ns.getD 0 0,true,0,itC b l.length []⟩]):=by
 intro w hall ha;have hb:=(hall _ (List.mem_singleton.2 rfl)).objm rfl;obtain⟨h1,h2⟩:=qF9 w (.mapIter (some b) l.length #[] l.length);refine⟨[w.heap.size],w.alloc (.mapIter (some b) l.length #[] l.length),rfl,.inl (qAA ?_),⟨fun p c hpc=>?_,fun p p' c d hpp hc hd ho=>?_,⟨rfl,rfl,rfl,by simp,fun j hj _=>h2 j hj,fun j hj=>?_,fun p c hpc ho=>?_⟩⟩⟩
 ·exact run_range_map w mt kt et b _ _ hm hb
 ·rcases p with _ | _ |p
  ·simp[lM] at hpc
  ·injection hpc with hpc;subst hpc
   exact⟨by simp,(fun o v ho=>by cases ho),(fun _ o v ho=>by cases ho),h1⟩
  ·simp[lM] at hpc
 ·rcases p with _ | _ |p
  ·simp[lM] at hc
  ·rcases p' with _ | _ |p'
   ·simp[lM] at hd
   ·exact absurd rfl hpp
   ·simp[lM] at hd
  ·simp[lM] at hc
 ·obtain⟨p,c,hpc,ho,hjk⟩:=hj
  rcases p with _ | _ |p
  ·simp[lM] at hpc
  ·injection hpc with hpc;subst hpc;exact .inr (Nat.le_of_eq hjk)
  ·simp[lM] at hpc
 ·rcases p with _ | _ |p
  ·simp[lM] at hpc
  ·injection hpc with hpc;subst hpc;cases ho
  ·simp[lM] at hpc
theorem qRz {r:Nat} {x x':qAL} {B:Blk} {w w':World} (hr:qAn ⟨r,true,0,x⟩ w) (h1:w'.os=w.os) (h2:w'.output=w.output) (h3:w'.tape=w.tape) (h4:w.heap.size≤w'.heap.size) (h5:∀j,j≠r→w'.heap[j]?=w.heap[j]?)
  (hx:qAn ⟨r,true,0,x'⟩ w') (hh:∀k,(Blk.mk r true 0 x).has k↔r=k:=by intro k;exact Iff.rfl) (hh':∀k,(Blk.mk r true 0 x').has k↔r=k:=by intro k;exact Iff.rfl):qC4 (lM ([⟨r,true,0,x⟩,B].map some)) w (lM [some ⟨r,true,0,x'⟩,none]) w':=by
 refine⟨fun p c hpc=>?_,fun p p' c d hpp hc hd ho=>?_,⟨h1,h2,h3,h4,fun j hj hn=>h5 j fun e=>hn ⟨0,_,rfl,rfl,(hh j).2 e.symm⟩,fun j hj=>?_,fun p c hpc ho=>?_⟩⟩
 ·rcases p with _ | _ |p
  ·injection hpc with hpc;subst hpc;exact hx
  ·simp[lM] at hpc
  ·simp[lM] at hpc
 ·rcases p with _ | _ |p
  ·rcases p' with _ | _ |p'
   ·exact absurd rfl hpp
   ·simp[lM] at hd
   ·simp[lM] at hd
  ·simp[lM] at hc
  ·simp[lM] at hc
 ·obtain⟨p,c,hpc,ho,hjk⟩:=hj
  rcases p with _ | _ |p
  ·injection hpc with hpc;subst hpc;exact .inl ⟨0,_,rfl,rfl,(hh j).2 ((hh' j).1 hjk)⟩
  ·simp[lM] at hpc
  ·simp[lM] at hpc
 ·rcases p with _ | _ |p
  ·injection hpc with hpc;subst hpc;cases ho
  ·simp[lM] at hpc
  ·simp[lM] at hpc
theorem qCN {bs:List Blk} {w:World} (k:Nat):qC4 (lM (bs.map some)) w (lM (List.replicate k none)) w:=
 have hn:∀p c,lM (List.replicate k (none:Option Blk)) p≠some c:=fun p c h=>by
  unfold lM at h;rw[List.getElem?_replicate] at h;by_cases hk:p<k
  ·rw[if_pos hk] at h;cases h
  ·rw[if_neg hk] at h;cases h
 ⟨fun p c hpc=>absurd hpc (hn p c),fun p p' c d hpp hc=>absurd hc (hn p c),⟨rfl,rfl,rfl,Nat.le_refl _,fun _ _ _=>rfl,fun j hj=>by obtain⟨p,c,hpc,_⟩:=hj;exact absurd hpc (hn p c),fun p c hpc=>absurd hpc (hn p c)⟩⟩
theorem qQW {l:List (α×β)} {o:List Nat}:(leftOf (qBZ kv ev l 0).toArray o.toArray).size=0↔qBs o l.length=false:=by
 unfold leftOf;constructor
 ·intro h
  have h2:Array.filter (fun e=>!o.toArray.contains e.born) (qBZ kv ev l 0).toArray=#[]:=Array.eq_empty_of_size_eq_zero h
  rw[Array.filter_eq_empty_iff] at h2;cases hu:qBs o l.length with
  |false=>rfl
  |true=>
   obtain⟨i,h3,h4⟩:=List.any_eq_true.1 hu;have hi:=List.mem_range.1 h3;have:=qHc (kv:=kv) (ev:=ev) l 0 i l[i].1 l[i].2 (by simp[hi])
   have hm:(⟨kv l[i].1,ev l[i].2,0+i⟩:MapEntry)∈(qBZ kv ev l 0).toArray:=by simpa using List.mem_of_getElem? this
   have h5:=h2 _ hm;simp at h5 h4;exact absurd h5 h4
 ·intro h
  have hs:=qKN h;have:Array.filter (fun e=>!o.toArray.contains e.born) (qBZ kv ev l 0).toArray=#[]:=by
   rw[Array.filter_eq_empty_iff];intro e he;obtain⟨j,h',x,h1,rfl⟩:=qKQ (by simpa using he)
   have hj:j<l.length:=(List.getElem?_eq_some_iff.1 h1).1;have:=hs j hj;simp at this ⊢;exact this
  rw[this];rfl
theorem qRG (ty r b:Nat) (own:Bool) (l:List (α×β)) (o:List Nat) (d:α×β) (hu:qBs o l.length=true):
  qAu P (qPo (ptr r 0) ty) [⟨r,true,0,itC b l.length o⟩,⟨b,own,0,qPw kv ev l⟩] 1
   (fun ns=>.tuple #[.bool true,kv (qBp d l (pk o l.length (ns.getD 0 0))).1,ev (qBp d l (pk o l.length (ns.getD 0 0))).2]) (fun ns=>[some ⟨r,true,0,itC b l.length (o++[pk o l.length (ns.getD 0 0)])⟩,none]):=by
 intro w hall ha;have hH:=hall _ (List.mem_cons_self ..);have hr:=hH.objm rfl;have hb:=(hall _ (List.mem_cons_of_mem _ (List.mem_singleton.2 rfl))).objm rfl;have hr':w.heap[r]?=some (.mapIter (some b) l.length o.toArray l.length):=hr;have hb':w.heap[b]?=some (.map (qBZ kv ev l 0).toArray l.length):=hb;have hold:∀x∈(qBZ kv ev l 0).toArray.toList,x.born<l.length:=fun x hx=>by
  obtain⟨j,h,y,h1,rfl⟩:=qKQ (by simpa using hx)
  exact(List.getElem?_eq_some_iff.1 h1).1
 rcases run_next_at (P:=P) w ty r b l.length l.length o.toArray _ _ hr' hb' hold (Nat.le_refl _) with⟨h0,_⟩|⟨e,he,w1,hw1,hrun⟩
 ·rw[qQW.1 h0] at hu;cases hu
 obtain⟨he1,he2⟩:=mem_left he;obtain⟨j,h,x,hj,rfl⟩:=qKQ (by simpa using he1)
 have hjl:j<l.length:=(List.getElem?_eq_some_iff.1 hj).1;have hjo:o.contains j=false:=by simpa using he2
 have hpk:=qUn hjl hjo;have hat:qBp d l j=(h,x):=by unfold qBp;rw[List.getD_eq_getElem?_getD,hj];rfl
 have hb1:w1.heap=w.heap:=by rcases hw1 with rfl|rfl<;>rfl
 have hro:w1.heap[r]?=some (.mapIter (some b) l.length o.toArray l.length):=by rw[hb1];exact hr'
 obtain⟨s1,s2⟩:=qLz (o':=.mapIter (some b) l.length (o.toArray.push j) l.length) hro;refine⟨[j],setBlock w1 r (.mapIter (some b) l.length (o.toArray.push j) l.length),rfl,.inl (qAA (hrun.trans ?_)),qRz hH ?_ ?_ ?_ ?_ (fun i hi=>?_) ?_⟩
 ·show _=Result.ok (Value.tuple #[Value.bool true,kv (qBp d l (pk o l.length j)).1,ev (qBp d l (pk o l.length j)).2]) _
  rw[hpk,hat]
 ·rcases hw1 with rfl|rfl<;>rfl
 ·rcases hw1 with rfl|rfl<;>rfl
 ·rcases hw1 with rfl|rfl<;>rfl
 ·simp[setBlock,hb1]
 ·have:=s2 i hi
  rw[hb1] at this;simpa[setBlock,hb1] using this
 ·refine⟨?_,(fun o v ho=>by cases ho),(fun _ o v ho=>by cases ho),?_⟩
  ·have:=hH.lt;simpa[setBlock,hb1] using this
  ·show(w1.heap.setIfInBounds r _)[r]?= _
   rw[s1];show _=some (Obj.mapIter (some b) l.length (o++[pk o l.length j]).toArray l.length);rw[hpk];simp
theorem qN5 (ty r b:Nat) (ow own:Bool) (l:List (α×β)) (o:List Nat) (hu:qBs o l.length=false):
  qAu P (qPo (ptr r 0) ty) [⟨r,ow,0,itC b l.length o⟩,⟨b,own,0,qPw kv ev l⟩] 0 (fun _=>.tuple #[.bool false]) (fun _=>[none,none]):=by
 intro w hall ha;have hr:=(hall _ (List.mem_cons_self ..)).objm rfl;have hb:=(hall _ (List.mem_cons_of_mem _ (List.mem_singleton.2 rfl))).objm rfl;have hold:∀x∈(qBZ kv ev l 0).toArray.toList,x.born<l.length:=fun x hx=>by
  obtain⟨j,h,y,h1,rfl⟩:=qKQ (by simpa using hx)
  exact(List.getElem?_eq_some_iff.1 h1).1
 have h0:(leftOf (qBZ kv ev l 0).toArray o.toArray).size=0:=qQW.2 hu;rcases run_next_at (P:=P) w ty r b l.length l.length o.toArray _ _ hr hb hold (Nat.le_refl _) with⟨_,h1⟩|⟨e,he,_⟩
 ·exact⟨[],w,rfl,.inl (qAA h1),qCN 2⟩
 ·have:(leftOf (qBZ kv ev l 0).toArray o.toArray)=#[]:=Array.eq_empty_of_size_eq_zero h0
  rw[this] at he;simp at he
theorem qQH (r b:Nat) (ow own:Bool) (l:List (α×β)) (o:List Nat) (j:Nat) (d:α×β) (hj:j<l.length):
  qAu P (qY1 (ptr r 0)) [⟨r,ow,0,itC b l.length (o++[j])⟩,⟨b,own,0,qPw kv ev l⟩] 0 (fun _=>.tuple #[kv (qBp d l j).1,ev (qBp d l j).2]) (fun _=>[none,none]):=by
 intro w hall ha;have hr:=(hall _ (List.mem_cons_self ..)).objm rfl;have hb:=(hall _ (List.mem_cons_of_mem _ (List.mem_singleton.2 rfl))).objm rfl;have he:=qHc (kv:=kv) (ev:=ev) l 0 j l[j].1 l[j].2 (by simp[hj])
 have hat:qBp d l j=l[j]:=by unfold qBp;simp[List.getD_eq_getElem?_getD,hj]
 have hr2:w.heap[r]?=some (.mapIter (some b) l.length (o.toArray.push (⟨kv l[j].1,ev l[j].2,0+j⟩:MapEntry).born) l.length):=by
  have:w.heap[r]?=some (.mapIter (some b) l.length (o++[j]).toArray l.length):=hr
  rw[this];simp
 refine⟨[],w,rfl,.inl (qAA ?_),qCN 2⟩;rw[hat];exact run_entry_at (P:=P) w r b l.length o.toArray _ _ _ hr2 hb (List.mem_of_getElem? he) (by rw[show(qBZ kv ev l 0).toArray.toList=qBZ kv ev l 0 by simp,qO1];exact List.nodup_range')
theorem qJD (M:MapT P mt kt et kv ev z eqb) (b:Nat) (own:Bool) (l:List (α×β)) (k:α):
  qAu P (qLC mt (.map (some b)) (kv k) false) [⟨b,own,0,qPw kv ev l⟩] 0 (fun _=>ev ((qAs eqb k l).getD z)) (fun _=>[none]):=by
 intro w hall ha;have hb:=(hall _ (List.mem_singleton.2 rfl)).objm rfl;refine⟨[],w,rfl,.inl (qAA ?_),qCN 1⟩;simp only at hb;unfold Instr.lookup;simp only[Sem.run_bind,run_underlying M.hm,Result.andThen_ok,qLP hb,Sem.run_pure,M.chk,qGW M];have hE:=qQz (eqb:=eqb) k l 0;cases hf:qFN eqb k l 0 with
 |none=>
  rw[hf] at hE;simp only[Option.map_none] at hE;rw[←hE];simp[M.zer]
 |some q=>
  rw[hf] at hE;simp only[Option.map_some] at hE;rw[←hE];simp
theorem jBM (k:α) (x:β) (l:List (α×β)):(qCw eqb k x l).length=match qFN eqb k l 0 with|some _=>l.length|none=>l.length+1:=by
 cases hf:qFN eqb k l 0 with
 |none=>exact(qL4 (kv:=fun _=>Value.bool true) (ev:=fun _=>Value.bool true) k x l 0 0 hf).2
 |some q=>exact(qK6 (kv:=fun _=>Value.bool true) (ev:=fun _=>Value.bool true) k x l 0 0 q.1 q.2 hf).2
end
end Go.Eng
end
section
namespace Go.Eng
set_option linter.unusedSectionVars false
def qHD (f:Nat→Nat):Nat→Nat
 |0=>0
 |k+1=>qHD f k+f k
theorem qJZ {f g:Nat→Nat}:∀n,(∀i,i<n→f i=g i)→qHD f n=qHD g n
 |0,_=>rfl
 |n+1,h=>by simp only[qHD];rw[qJZ n fun i hi=>h i (by omega),h n (by omega)]
theorem qNe {f g:Nat→Nat}:∀n,(∀i,i<n→f i≤g i)→qHD f n≤qHD g n
 |0,_=>Nat.le_refl _
 |n+1,h=>by simp only[qHD];have:=qNe n fun i hi=>h i (by omega);have:=h n (by omega);omega
theorem qRo (f g:Nat→Nat):∀n,qHD (fun i=>f i+g i) n=qHD f n+qHD g n
 |0=>rfl
 |n+1=>by simp only[qHD];rw[qRo f g n];omega
theorem qTq (s:Nat→UInt64):∀n,qLy s n=qHD (fun i=>(s i).toNat) n
 |0=>rfl
 |n+1=>by simp only[qLy,qHD];rw[qTq s n]
def qMj (f:Nat→Nat):List Nat→Nat
 |[]=>0
 |i::o=>f i+qMj f o
def qV5 {f:Nat→Nat} {a b:List Nat} (h:a.Perm b):qMj f a=qMj f b:=by
 induction h with
 |nil=>rfl
 |cons x _ ih=>simp only[qMj,ih]
 |swap x y l=>simp only[qMj];omega
 |trans _ _ i1 i2=>exact i1.trans i2
def qMM {f:Nat→Nat} {a:Nat} {l:List Nat} (h:a∈l):qMj f l=f a+qMj f (l.erase a):=(qV5 (List.perm_cons_erase h)).trans rfl
theorem qNC (f:Nat→Nat):∀(n:Nat) (l:List Nat),l.Nodup→(∀x∈l,x<n)→qMj f l≤qHD f n
 |0,l,_,h=>by
  cases l with
  |nil=>exact Nat.le_refl _
  |cons x l=>exact absurd (h x (.head _)) (by omega)
 |n+1,l,hn,h=>by
  simp only[qHD];by_cases hm:n∈l
  ·rw[qMM hm]
   have:=qNC f n (l.erase n) (hn.erase n) fun x hx=>by
    have h1:=h x (List.mem_of_mem_erase hx);have h2:x≠n:=fun e=>by subst e;exact(hn.mem_erase_iff.1 hx).1 rfl
    omega
   omega
  ·have :=qNC f n l hn fun x hx=>by
    have h1:=h x hx;have h2:x≠n:=fun e=>hm (e▸hx)
    omega
   omega
theorem qPY (f:Nat→Nat):∀(n:Nat) (l:List Nat),l.Nodup→(∀x,x∈l↔x<n)→qMj f l=qHD f n
 |0,l,_,h=>by
  cases l with
  |nil=>rfl
  |cons x l=>exact absurd ((h x).1 (.head _)) (by omega)
 |n+1,l,hn,h=>by
  have hm:n∈l:=(h n).2 (by omega)
  rw[qMM hm,qPY f n (l.erase n) (hn.erase n) fun x=>by
   rw[hn.mem_erase_iff,h x];omega]
  simp only[qHD];omega
def jD7:Nat→Nat→List Nat
 |0,_=>[]
 |k+1,c=>if c=0 then[] else(c%64-1)::jD7 k (c/64)
def qWk:List Nat→Nat
 |[]=>0
 |x::l=>(x+1)+64*qWk l
theorem qVF:∀(l:List Nat) (k:Nat),l.length≤k→(∀x∈l,x<63)→jD7 k (qWk l)=l
 |[],k,_,_=>by cases k<;>rfl
 |x::l,0,h,_=>by simp at h
 |x::l,k+1,h,hx=>by
  have h1:=hx x (.head _);have e:qWk (x::l)=(x+1)+64*qWk l:=rfl;rw[e];unfold jD7;rw[if_neg (by omega),show((x+1)+64*qWk l)%64-1=x by omega,show((x+1)+64*qWk l)/64=qWk l by omega,qVF l k (by simpa using h) fun y hy=>hx y (.tail _ hy)]
structure OrdN (n:Nat) (o:List Nat):Prop where
 nd:o.Nodup
 lt:∀x∈o,x<n
structure qTn (n:Nat) (o:List Nat):Prop extends OrdN n o where
 all:qBs o n=false
def qTn.mem {n:Nat} {o:List Nat} (h:qTn n o) (x:Nat):x∈o↔x<n:=⟨h.lt x,fun hx=>by simpa using qKN h.all x hx⟩
def OrdN.nil (n:Nat):OrdN n []:=⟨List.nodup_nil,by simp⟩
def OrdN.snoc {n:Nat} {o:List Nat} (h:OrdN n o) (hu:qBs o n=true) (c:Nat):OrdN n (o++[pk o n c]):=by
 obtain⟨h1,h2⟩:=qD8 hu c;refine⟨List.nodup_append.2 ⟨h.nd,by simp,fun a ha b hb=>?_⟩,fun x hx=>?_⟩
 ·simp at hb h2;subst hb
  exact fun e=>h2 (e▸ha)
 ·rcases List.mem_append.1 hx with hx|hx
  ·exact h.lt x hx
  ·simp at hx;omega
open Classical in
noncomputable def qXO (n c:Nat):List Nat:=if qTn n (jD7 n c) then jD7 n c else List.range n
def qSR (n:Nat):qTn n (List.range n):=⟨⟨List.nodup_range,fun x hx=>List.mem_range.1 hx⟩,by
 cases h:qBs (List.range n) n with
 |false=>rfl
 |true=>
  obtain⟨i,h1,h2⟩:=List.any_eq_true.1 h;simp at h1 h2;omega⟩
def jAJ (n c:Nat):qTn n (qXO n c):=by
 unfold qXO;split
 ·assumption
 ·exact qSR n
def qL3 {n:Nat} {o:List Nat} (h:OrdN n o):o.length≤n:=by
 have h1:=qNC (fun _=>1) n o h.nd h.lt
 have h2:∀l:List Nat,qMj (fun _=>1) l=l.length:=fun l=>by
  induction l with
  |nil=>rfl
  |cons x l ih=>simp only[qMj,ih,List.length_cons];omega
 have h3:∀k,qHD (fun _=>1) k=k:=fun k=>by
  induction k with
  |zero=>rfl
  |succ k ih=>simp only[qHD,ih]
 rw[h2,h3] at h1;exact h1
def qWs {n:Nat} {o:List Nat} (h:qTn n o) (hn:n≤63):qXO n (qWk o)=o:=by
 unfold qXO;rw[qVF o n (qL3 h.toOrdN) fun x hx=>by have:=h.lt x hx;omega,if_pos h]
section
variable {κ:Type} (eqb:κ→κ→Bool) (key:Nat→κ) (st:Nat→UInt64)
def gm (o:List Nat):List (κ×UInt64):=o.foldl (fun m i=>qCw eqb (key i) ((qAs eqb (key i) m).getD 0+st i) m) []
theorem jAU (o:List Nat) (j:Nat):gm eqb key st (o++[j])=qCw eqb (key j) ((qAs eqb (key j) (gm eqb key st o)).getD 0+st j) (gm eqb key st o):=by
 unfold gm;rw[List.foldl_append];rfl
end
structure Eqv {κ:Type} (eqb:κ→κ→Bool):Prop where
 refl:∀a,eqb a a=true
 symm:∀a b,eqb a b=true→eqb b a=true
 trans:∀a b c,eqb a b=true→eqb b c=true→eqb a c=true
def jBB {κ:Type} [BEq κ] [LawfulBEq κ]:Eqv (fun a b:κ=>a==b):=⟨fun a=>by simp,fun a b h=>by simpa using(eq_of_beq h).symm,fun a b c h k=>by simpa using(eq_of_beq h).trans (eq_of_beq k)⟩
def qIk:Eqv sR:=⟨qEu,fun _ _=>qLk,fun _ _ _=>qIz⟩
section
variable {κ β:Type} {eqb:κ→κ→Bool} (E:Eqv eqb)
include E
theorem Eqv.comm (a b:κ):eqb a b=eqb b a:=Bool.eq_iff_iff.2 ⟨E.symm a b,E.symm b a⟩
theorem Eqv.left {a b:κ} (h:eqb a b=true) (c:κ):eqb a c=eqb b c:=Bool.eq_iff_iff.2 ⟨fun k=>E.trans b a c (E.symm a b h) k,fun k=>E.trans a b c h k⟩
theorem qJp {a b:κ} (h:eqb a b=true):∀m:List (κ×β),qAs eqb a m=qAs eqb b m
 |[]=>rfl
 |(k,x)::m=>by simp only[qAs,E.left h k,qJp h m]
theorem qIO (k:κ) (x:β):∀m:List (κ×β),qAs eqb k (qCw eqb k x m)=some x
 |[]=>by simp[qCw,qAs,E.refl]
 |(h,y)::m=>by
  simp only[qCw];by_cases e:eqb k h=true
  ·simp[e,qAs,E.refl]
  ·simp[e,qAs,qIO k x m]
theorem qHK {a k:κ} (h:eqb a k=false) (x:β):∀m:List (κ×β),qAs eqb a (qCw eqb k x m)=qAs eqb a m
 |[]=>by simp[qCw,qAs,h]
 |(b,y)::m=>by
  simp only[qCw];by_cases e:eqb k b=true
  ·have :eqb a b=false:=by
    cases hc:eqb a b with
    |false=>rfl
    |true=>rw[E.trans a b k hc (E.symm k b e)] at h;cases h
   simp[e,qAs,h,this]
  ·simp only[e,qAs]
   by_cases e2:eqb a b=true
   ·simp[e2,qAs]
   ·simp[e2,qAs,qHK h x m]
theorem jA6 (key:Nat→κ) (st:Nat→UInt64) (k:κ):∀o:List Nat,((qAs eqb k (gm eqb key st o)).getD 0).toNat=qMj (fun i=>if eqb k (key i)=true then(st i).toNat else 0) o%2^64:=by
 have key':∀(o:List Nat) (m:List (κ×UInt64)),((qAs eqb k (o.foldl (fun m i=>qCw eqb (key i) ((qAs eqb (key i) m).getD 0+st i) m) m)).getD 0).toNat=(((qAs eqb k m).getD 0).toNat+qMj (fun i=>if eqb k (key i)=true then(st i).toNat else 0) o)%2^64:=by
  intro o;induction o with
  |nil=>intro m;simp only[List.foldl_nil,qMj,Nat.add_zero];exact(Nat.mod_eq_of_lt (UInt64.toNat_lt _)).symm
  |cons i o ih=>
   intro m;rw[List.foldl_cons,ih];simp only[qMj];by_cases e:eqb k (key i)=true
   ·rw[qJp E e,qIO E,←qJp E e,if_pos e]
    simp only[Option.getD_some,UInt64.toNat_add];omega
   ·rw[qHK E (by simpa using e),if_neg e,Nat.zero_add]
 intro o;have:=key' o [];rw[show qAs eqb k ([]:List (κ×UInt64))=none from rfl,show((none:Option UInt64).getD 0).toNat=0 from rfl,Nat.zero_add] at this;exact this
def KD (eqb:κ→κ→Bool) (m:List (κ×β)):Prop:=m.Pairwise fun a b=>eqb a.1 b.1=false
theorem qQo {k:κ} {x:β} {m:List (κ×β)} {p:κ×β} (h:p∈qCw eqb k x m):p=(k,x)∨p∈m:=by
 induction m with
 |nil=>simp[qCw] at h;exact .inl h
 |cons q m ih=>
  obtain⟨b,y⟩:=q;simp only[qCw] at h;by_cases e:eqb k b=true
  ·simp only[e,if_true] at h
   rcases List.mem_cons.1 h with h|h
   ·exact .inl h
   ·exact .inr (.tail _ h)
  ·simp only[e] at h
   rcases List.mem_cons.1 h with h|h
   ·exact .inr (h▸.head _)
   ·rcases ih h with h|h
    ·exact .inl h
    ·exact .inr (.tail _ h)
theorem KD.put {k:κ} {x:β} {m:List (κ×β)} (h:KD eqb m):KD eqb (qCw eqb k x m):=by
 induction m with
 |nil=>simp[qCw,KD]
 |cons q m ih=>
  obtain⟨b,y⟩:=q;obtain⟨h1,h2⟩:=List.pairwise_cons.1 h;simp only[qCw];by_cases e:eqb k b=true
  ·simp only[e,if_true]
   refine List.pairwise_cons.2 ⟨fun p hp=>?_,h2⟩
   show eqb k p.1=false;rw[E.left e];exact h1 p hp
  ·simp only[e]
   refine List.pairwise_cons.2 ⟨fun p hp=>?_,ih h2⟩
   rcases qQo E hp with rfl|hp
   ·show eqb b k=false
    rw[E.comm];simpa using e
   ·exact h1 p hp
theorem KD.find {m:List (κ×β)} (h:KD eqb m) {k:κ} {x:β} (hm:(k,x)∈m):qAs eqb k m=some x:=by
 induction m with
 |nil=>cases hm
 |cons q m ih=>
  obtain⟨b,y⟩:=q;obtain⟨h1,h2⟩:=List.pairwise_cons.1 h;rcases List.mem_cons.1 hm with e|hm
  ·injection e with e1 e2;subst e1;subst e2
   simp[qAs,E.refl]
  ·have:=h1 _ hm
   simp only at this;simp[qAs,E.comm k b,this,ih h2 hm]
theorem qRy {m:List (κ×β)} {k:κ} {x:β} (h:qAs eqb k m=some x):∃p∈m,eqb k p.1=true∧p.2=x:=by
 induction m with
 |nil=>cases h
 |cons q m ih=>
  obtain⟨b,y⟩:=q;simp only[qAs] at h;by_cases e:eqb k b=true
  ·simp[e] at h;exact⟨(b,y),.head _,e,h⟩
  ·simp[e] at h
   obtain⟨p,hp,h⟩:=ih h;exact⟨p,.tail _ hp,h⟩
end
end Go.Eng
end
section
namespace Go.Eng
def eqI (a b:Int):Bool:=a==b
def eqT (a b:Bool):Bool:=a==b
def jGz:Eqv eqT:=jBB
abbrev Fst:=List (Int×(Nat→UInt8))
def d0:Int×(Nat→UInt8):=(0,fun _=>0)
def kF (F:Fst) (i:Nat):Int:=(qBp d0 F i).1
def vF (F:Fst) (i:Nat):Nat→UInt8:=(qBp d0 F i).2
def sF (s:Nat→UInt64) (F:Fst) (i:Nat):UInt64:=s (kF F i).toNat
def qB5 (l:Fst):qAL:=qPw int qDf l
def qEj (l:List (Int×Unit)):qAL:=qPw int ev0 l
def qWN (l:List (Bool×UInt64)):qAL:=qPw Value.bool u64 l
def qF1 (p a:UInt64):Bool:=decide (a.toNat<3*p.toNat)
def qWm (s:Nat→UInt64) (F:Fst) (v:Nat→UInt8):Nat:=qHD (fun i=>if sR (vF F i) v=true then(sF s F i).toNat else 0) F.length
def jFO (s:Nat→UInt64) (F:Fst):Nat:=qHD (fun i=>(sF s F i).toNat) F.length
def forV (s:Nat→UInt64) (F:Fst) (v:Nat→UInt8):UInt64:=UInt64.ofNat (qWm s F v)
def qTD (s:Nat→UInt64) (F:Fst) (v:Nat→UInt8) (o:List Nat):=gm eqT (fun i=>sR (vF F i) v) (sF s F) o
structure VOk (n:Nat) (s:Nat→UInt64) (F:Fst):Prop where
 good:n≤40∧qLy s n<2^63
 key:∀i,i<F.length→0≤kF F i∧(kF F i).toNat<n
 inj:∀i j,i<F.length→j<F.length→kF F i=kF F j→i=j
def VOk.nil {n:Nat} {s:Nat→UInt64} (h:n≤40∧qLy s n<2^63):VOk n s []:=⟨h,fun i hi=>by simp at hi,fun i j hi=>by simp at hi⟩
def qAJ (n:Nat) (s:Nat→UInt64) (F:Fst) (who:Int) (v:Nat→UInt8):Int:=
 if who<0∨(n:Int)≤who then 1 else if s who.toNat=0 then 51 else match qAs eqI who F with
 |none=>0
 |some w=>if sR w v=true then 13 else 52
def qBo (n:Nat) (s:Nat→UInt64) (F:Fst) (who:Int) (v:Nat→UInt8):Fst:=if qAJ n s F who v=0 then qCw eqI who v F else F
def qBX (n:Nat) (s:Nat→UInt64) (F:Fst) (A:List (Int×Unit)) (who:Int) (v:Nat→UInt8):List (Int×Unit):=if qAJ n s F who v=52 then qCw eqI who () A else A
theorem qN0 {α β:Type} {eqb:α→α→Bool} {k:α} {x:β}:∀{m:List (α×β)},qAs eqb k m=none→qCw eqb k x m=m++[(k,x)]
 |[],_=>rfl
 |(h,y)::m,e=>by
  simp only[qAs] at e;by_cases c:eqb k h=true
  ·simp[c] at e
  ·simp[c] at e
   simp[qCw,c,qN0 e]
theorem qLI {α β:Type} {eqb:α→α→Bool} {k:α}:∀{m:List (α×β)},qAs eqb k m=none→∀p∈m,eqb k p.1=false
 |[],_,p,hp=>by cases hp
 |(h,y)::m,e,p,hp=>by
  simp only[qAs] at e;by_cases c:eqb k h=true
  ·simp[c] at e
  ·simp[c] at e
   rcases List.mem_cons.1 hp with rfl|hp
   ·simpa using c
   ·exact qLI e p hp
def qRQ {α β:Type} {d:α×β} {l:List (α×β)} {i:Nat} (h:i<l.length):qBp d l i∈l:=by
 unfold qBp;rw[List.getD_eq_getElem?_getD,List.getElem?_eq_getElem h];exact List.getElem_mem h
def qUC {α β:Type} {d:α×β} {l r:List (α×β)} {i:Nat} (h:i<l.length):qBp d (l++r) i=qBp d l i:=by
 unfold qBp;rw[List.getD_eq_getElem?_getD,List.getD_eq_getElem?_getD,List.getElem?_append_left h]
def qTH {α β:Type} {d x:α×β} {l:List (α×β)}:qBp d (l++[x]) l.length=x:=by
 unfold qBp;rw[List.getD_eq_getElem?_getD];simp
section
variable {n:Nat} {s:Nat→UInt64} {F:Fst}
theorem qFE {who:Int} {v:Nat→UInt8} (h:qAJ n s F who v=0):qBo n s F who v=F++[(who,v)]∧0≤who∧who.toNat<n∧s who.toNat≠0∧qAs eqI who F=none:=by
 have hF:qBo n s F who v=qCw eqI who v F:=if_pos h;unfold qAJ at h;split at h
 ·cases h
 split at h
 ·cases h
 split at h
 ·rename_i h1 h2 _ h3
  exact⟨hF.trans (qN0 h3),by omega,by omega,h2,h3⟩
 ·split at h<;>cases h
theorem VOk.vote (h:VOk n s F) (who:Int) (v:Nat→UInt8):VOk n s (qBo n s F who v):=by
 by_cases e:qAJ n s F who v=0
 ·obtain⟨e1,h1,h2,h3,h4⟩:=qFE e
  rw[e1];have hne:∀i,i<F.length→kF F i≠who:=fun i hi c=>by
   have:=qLI h4 _ (qRQ (d:=d0) hi);have h5:(qBp d0 F i).1=who:=c;rw[h5] at this;simp[eqI] at this
  have hk:∀i,i<F.length→kF (F++[(who,v)]) i=kF F i:=fun i hi=>by unfold kF;rw[qUC hi]
  have hl:kF (F++[(who,v)]) F.length=who:=by unfold kF;rw[qTH]
  refine⟨h.good,fun i hi=>?_,fun i j hi hj=>?_⟩
  ·simp at hi
   by_cases c:i=F.length
   ·subst c;rw[hl];exact⟨h1,h2⟩
   ·rw[hk i (by omega)];exact h.key i (by omega)
  ·simp at hi hj
   by_cases c:i=F.length
   ·by_cases c2:j=F.length
    ·omega
    ·rw[c,hl,hk j (by omega)];exact fun x=>absurd x.symm (hne j (by omega))
   ·by_cases c2:j=F.length
    ·rw[c2,hl,hk i (by omega)];exact fun x=>absurd x (hne i (by omega))
    ·rw[hk i (by omega),hk j (by omega)];exact h.inj i j (by omega) (by omega)
 ·have:qBo n s F who v=F:=if_neg e
  rw[this];exact h
theorem qRu {f:Nat→Nat} {g:Nat→Nat}:∀l:List Nat,qMj f (l.map g)=qMj (fun i=>f (g i)) l
 |[]=>rfl
 |i::l=>by simp only[List.map_cons,qMj,qRu l]
theorem qRY (f:Nat→Nat) (n:Nat):qMj f (List.range n)=qHD f n:=qPY f n _ List.nodup_range fun x=>List.mem_range
theorem VOk.any_le (h:VOk n s F):jFO s F≤qLy s n:=by
 have h1:qMj (fun k=>(s k).toNat) ((List.range F.length).map fun i=>(kF F i).toNat)≤qHD (fun k=>(s k).toNat) n:=by
  refine qNC _ n _ (List.pairwise_map.2 (List.Pairwise.imp_of_mem (fun{a b} ha hb hab=>?_) (List.nodup_range (n:=F.length)))) fun x hx=>?_
  ·have ha':=List.mem_range.1 ha;have hb':=List.mem_range.1 hb
   intro e;have:=h.key a ha';have:=h.key b hb';exact hab (h.inj a b ha' hb' (by omega))
  ·obtain⟨i,hi,rfl⟩:=List.mem_map.1 hx
   exact(h.key i (List.mem_range.1 hi)).2
 rw[qRu,qRY] at h1;rw[qTq];exact h1
theorem qMG (v:Nat→UInt8):qWm s F v≤jFO s F:=qNe _ fun i _=>by split<;>omega
theorem VOk.lt (h:VOk n s F):jFO s F<2^63:=Nat.lt_of_le_of_lt h.any_le h.good.2
theorem VOk.forV (h:VOk n s F) (v:Nat→UInt8):(forV s F v).toNat=qWm s F v:=by
 have:=qMG (s:=s) (F:=F) v;have:=h.lt;unfold Go.Eng.forV;rw[UInt64.toNat_ofNat'];exact Nat.mod_eq_of_lt (by omega)
theorem VOk.all (h:VOk n s F):(qBM s n).a.toNat=qLy s n:=by
 have hv:=qNA s n (by have:=h.good.1;omega)
 rw[N4.a_of_lt (by have:=h.good.2;omega),hv]
theorem qXb {f:Nat→Nat} {o:List Nat} {m:Nat} (h:qTn m o):qMj f o=qHD f m:=qPY f m o h.nd h.mem
theorem jAf (h:VOk n s F) (v:Nat→UInt8) {o:List Nat} (ho:qTn F.length o):(qAs eqT true (qTD s F v o)).getD 0=Go.Eng.forV s F v:=by
 apply UInt64.toNat_inj.1;rw[h.forV];unfold qTD;rw[jA6 jGz,qXb ho,show(fun i=>if eqT true (sR (vF F i) v)=true then(sF s F i).toNat else 0)=(fun i=>if sR (vF F i) v=true then(sF s F i).toNat else 0) from funext fun i=>by cases sR (vF F i) v<;>rfl]
 exact Nat.mod_eq_of_lt (Nat.lt_of_le_of_lt (qMG (s:=s) (F:=F) v) (Nat.lt_trans h.lt (by decide)))
end
end Go.Eng
namespace Go.Eng
def VOk.len {n:Nat} {s:Nat→UInt64} {F:Fst} (h:VOk n s F):F.length≤40:=by
 have h1:OrdN n ((List.range F.length).map fun i=>(kF F i).toNat):=by
  refine⟨List.pairwise_map.2 (List.Pairwise.imp_of_mem (fun{a b} ha hb hab=>?_) (List.nodup_range (n:=F.length))),fun x hx=>?_⟩
  ·have ha':=List.mem_range.1 ha;have hb':=List.mem_range.1 hb
   intro e;have:=h.key a ha';have:=h.key b hb';exact hab (h.inj a b ha' hb' (by omega))
  ·obtain⟨i,hi,rfl⟩:=List.mem_map.1 hx
   exact(h.key i (List.mem_range.1 hi)).2
 have h2:=qL3 h1;have:=h.good.1;simp at h2;omega
def qW8 {p a:UInt64}:decide (qPu (qMi (qBq p) (qBq 3)).lo (qBq a)>0)=qF1 p a:=by
 have hp:=p.toNat_lt;have ha:=a.toNat_lt;have e:∀x y:UInt64,(qMi (qBq x) (qBq y)).lo.val=x.toNat*y.toNat:=fun x y=>by
  have h1:=qX7 (qBq x) (qBq y);rw[qHq,qHq] at h1;have hx:=x.toNat_lt;have hy:=y.toNat_lt;have hm:x.toNat*y.toNat<2^128:=Nat.lt_of_lt_of_le (Nat.mul_lt_mul'' hx hy) (by decide)
  have hl:=(qMi (qBq x) (qBq y)).lo.val_lt;have hv:(qMi (qBq x) (qBq y)).val=(qMi (qBq x) (qBq y)).lo.val+2^256*(qMi (qBq x) (qBq y)).hi.val:=rfl;have hz:(qMi (qBq x) (qBq y)).hi.val=0:=by
   rcases Nat.eq_zero_or_pos (qMi (qBq x) (qBq y)).hi.val with h0|h0
   ·exact h0
   ·have:=Nat.mul_le_mul_left (2^256) h0;omega
  omega
 unfold qF1;rw[qZM,e,qHq,show(3:UInt64).toNat=3 from rfl];have:(ord (p.toNat*3) a.toNat>0)↔a.toNat<3*p.toNat:=by
  unfold ord;split<;>(try split)<;>omega
 exact decide_eq_decide.2 this
end Go.Eng
namespace Go.Eng
section
variable {n:Nat} {s:Nat→UInt64} {F:Fst} {A:List (Int×Unit)} {who:Int} {v:Nat→UInt8}
theorem qHo {e:Int} (h:qAJ n s F who v=e) (h0:e≠0) (h52:e≠52):qBo n s F who v=F∧qBX n s F A who v=A:=
 ⟨if_neg (by rw[h];exact h0),if_neg (by rw[h];exact h52)⟩
theorem qUm (h:who<0∨(n:Int)≤who):qAJ n s F who v=1:=if_pos h
theorem qPR (h:¬(who<0∨(n:Int)≤who)) (h0:(s who.toNat==0)=true):qAJ n s F who v=51:=by
 unfold qAJ;rw[if_neg h,if_pos (eq_of_beq h0)]
theorem qUt (h:¬(who<0∨(n:Int)≤who)) (h0:(s who.toNat==0)=false) (hf:(qAs eqI who F).isSome=false):qAJ n s F who v=0:=by
 unfold qAJ;rw[if_neg h,if_neg (by simpa using h0)]
 cases hc:qAs eqI who F with
 |none=>rfl
 |some w=>rw[hc] at hf;cases hf
theorem qPE (h:¬(who<0∨(n:Int)≤who)) (h0:(s who.toNat==0)=false) (hf:(qAs eqI who F).isSome=true) (hs:sR ((qAs eqI who F).getD fun _=>0) v=true):qAJ n s F who v=13:=by
 unfold qAJ;rw[if_neg h,if_neg (by simpa using h0)]
 cases hc:qAs eqI who F with
 |none=>rw[hc] at hf;cases hf
 |some w=>rw[hc] at hs;exact if_pos hs
theorem qP1 (h:¬(who<0∨(n:Int)≤who)) (h0:(s who.toNat==0)=false) (hf:(qAs eqI who F).isSome=true) (hs:sR ((qAs eqI who F).getD fun _=>0) v=false):qAJ n s F who v=52:=by
 unfold qAJ;rw[if_neg h,if_neg (by simpa using h0)]
 cases hc:qAs eqI who F with
 |none=>rw[hc] at hf;cases hf
 |some w=>rw[hc] at hs;exact if_neg (by rw[show sR w v=false from hs];decide)
theorem qP4 (h:qAJ n s F who v=0):qBo n s F who v=qCw eqI who v F∧qBX n s F A who v=A:=⟨if_pos h,if_neg (by rw[h];decide)⟩
theorem qM1 (h:qAJ n s F who v=52):qBo n s F who v=F∧qBX n s F A who v=qCw eqI who () A:=⟨if_neg (by rw[h];decide),if_pos h⟩
end
end Go.Eng
namespace Go.Eng
def jA7 (l:List UInt64):Nat→UInt64:=fun k=>l.getD k 0
def qUE (l:List UInt64):∀j v,(qAd l.length fun k=>u64 (jA7 l k)).get j=some v→(qAL.lit (l.map u64)).get j=some v:=fun j v hj=>by
 by_cases h:j<l.length
 ·rw[qAH h] at hj
  injection hj with hj;subst hj;show(l.map u64)[j]?= _;simp[jA7,h]
 ·rw[qBf h] at hj;cases hj
end Go.Eng
end
section
namespace Go.Eng
open Go.WideShapes Go.ChangeShapes Go.ChangeAt Go.ChangeMaps
def eqW (a b:UInt64):Bool:=a==b
def qH3 {a b:UInt64}:eqW a b=true↔a=b:=beq_iff_eq
def jF8 (a b:UInt64):((a.toNat:Int)==(b.toNat:Int))=eqW a b:=by
 rw[Bool.eq_iff_iff,qH3,beq_iff_eq];exact⟨fun h=>UInt64.toNat_inj.1 (by omega),fun h=>by rw[h]⟩
section
variable {α β:Type}
def qB3 (kv:α→Value) (ev:β→Value) (D:List Nat):List (α×β)→Nat→List MapEntry
 |[],_=>[]
 |(k,x)::r,i=>if D.contains i=true then qB3 kv ev D r (i+1) else⟨kv k,ev x,i⟩::qB3 kv ev D r (i+1)
def qA9 (kv:α→Value) (ev:β→Value) (D:List Nat) (l:List (α×β)):qAL:=.map (qB3 kv ev D l 0).toArray l.length
theorem qOR (kv:α→Value) (ev:β→Value):∀(l:List (α×β)) (i:Nat),qB3 kv ev [] l i=qBZ kv ev l i
 |[],_=>rfl
 |(k,x)::r,i=>by simp only[qB3,qBZ];rw[qOR kv ev r (i+1)];rfl
theorem qQS (kv:α→Value) (ev:β→Value) (l:List (α×β)):qA9 kv ev [] l=qPw kv ev l:=by unfold qA9 qPw;rw[qOR]
def qGd (eqb:α→α→Bool) (k:α) (D:List Nat):List (α×β)→Nat→Nat→Option (Nat×Nat×β)
 |[],_,_=>none
 |(h,x)::r,i,q=>if D.contains i=true then qGd eqb k D r (i+1) q else if eqb k h=true then some (q,i,x) else qGd eqb k D r (i+1) (q+1)
def qDE (eqb:α→α→Bool) (k:α) (D:List Nat) (l:List (α×β)):Option β:=(qGd eqb k D l 0 0).map fun p=>p.2.2
def qBn (D:List Nat) (n:Nat):Nat:=((List.range n).filter fun i=>!D.contains i).length
variable {P:Program} {mt kt et:TypeId} {kv:α→Value} {ev:β→Value} {z:β} {eqb:α→α→Bool}
theorem qLp {kd:TypeDesc} (hs:∀k h,Instr.sameNow kd (kv k) (kv h)=some (eqb k h)) (k:α) (D:List Nat):∀(l:List (α×β)) (i q:Nat),Instr.findNow kd (kv k) (qB3 kv ev D l i) q=some ((qGd eqb k D l i q).map fun p=>(p.1,ev p.2.2))
 |[],_,_=>rfl
 |(h,x)::r,i,q=>by
  simp only[qB3,qGd];by_cases hD:D.contains i=true
  ·rw[if_pos hD,if_pos hD];exact qLp hs k D r (i+1) q
  ·rw[if_neg hD,if_neg hD]
   simp only[Instr.findNow,hs];cases e:eqb k h with
   |true=>simp
   |false=>simpa using qLp hs k D r (i+1) (q+1)
structure qZ5 (P:Program) (mt kt et:TypeId) (kv:α→Value) (ev:β→Value) (z:β) (eqb:α→α→Bool):Prop extends MapT P mt kt et kv ev z eqb where
 fndP:∀k D (l:List (α×β)) w,(Instr.findKey kt (kv k) (qB3 kv ev D l 0)).run P w=.ok ((qGd eqb k D l 0 0).map fun p=>(p.1,ev p.2.2)) w
theorem qFI (D:List Nat):∀{l:List (α×β)} {i:Nat} {e:MapEntry},e∈qB3 kv ev D l i→∃j h x,l[j]?=some (h,x)∧D.contains (i+j)=false∧e=⟨kv h,ev x,i+j⟩
 |[],_,e,he=>by cases he
 |(h,x)::r,i,e,he=>by
  simp only[qB3] at he;by_cases hD:D.contains i=true
  ·rw[if_pos hD] at he
   obtain⟨j,h',x',h1,h2,h3⟩:=qFI D he;exact⟨j+1,h',x',by simpa using h1,by rw[show i+(j+1)=i+1+j by omega];exact h2,by rw[show i+(j+1)=i+1+j by omega];exact h3⟩
  ·rw[if_neg hD] at he
   rcases List.mem_cons.1 he with rfl|he
   ·exact⟨0,h,x,rfl,by simpa using hD,rfl⟩
   ·obtain⟨j,h',x',h1,h2,h3⟩:=qFI D he
    exact⟨j+1,h',x',by simpa using h1,by rw[show i+(j+1)=i+1+j by omega];exact h2,by rw[show i+(j+1)=i+1+j by omega];exact h3⟩
theorem qNo (D:List Nat):∀{l:List (α×β)} {i j:Nat} {h:α} {x:β},l[j]?=some (h,x)→D.contains (i+j)=false→(⟨kv h,ev x,i+j⟩:MapEntry)∈qB3 kv ev D l i
 |[],_,_,_,_,e,_=>by simp at e
 |(h0,x0)::r,i,0,h,x,e,hD=>by
  simp at e;obtain⟨rfl,rfl⟩:=e;simp only[qB3];rw[if_neg (by simpa using hD)];exact .head _
 |(h0,x0)::r,i,j+1,h,x,e,hD=>by
  have:=qNo D (l:=r) (i:=i+1) (j:=j) (by simpa using e) (by rw[show i+1+j=i+(j+1) by omega];exact hD)
  rw[show i+1+j=i+(j+1) by omega] at this
  simp only[qB3];by_cases h1:D.contains i=true
  ·rw[if_pos h1];exact this
  ·rw[if_neg h1];exact .tail _ this
theorem qHt (D:List Nat):∀(l:List (α×β)) (i:Nat),(qB3 kv ev D l i).map (·.born)=(List.range' i l.length).filter fun j=>!D.contains j
 |[],_=>rfl
 |(h,x)::r,i=>by
  simp only[qB3,List.length_cons,List.range'_succ,List.filter_cons];by_cases hD:D.contains i=true
  ·rw[if_pos hD,qHt D r (i+1),hD];rfl
  ·rw[if_neg hD]
   have hD':D.contains i=false:=by simpa using hD
   simp only[List.map_cons,qHt D r (i+1),hD'];rfl
theorem qUl (D:List Nat) (l:List (α×β)):(qB3 kv ev D l 0).length=qBn D l.length:=by
 have:=congrArg List.length (qHt (kv:=kv) (ev:=ev) D l 0);rw[List.length_map,←List.range_eq_range'] at this;exact this
theorem qFV (M:qZ5 P mt kt et kv ev z eqb) (b:Nat) (own:Bool) (D:List Nat) (l:List (α×β)) (k:α):
  qAu P (qLC mt (.map (some b)) (kv k) true) [⟨b,own,0,qA9 kv ev D l⟩] 0 (fun _=>.tuple #[ev ((qDE eqb k D l).getD z),.bool (qDE eqb k D l).isSome]) (fun _=>[none]):=by
 intro w hall ha;have hb:=(hall _ (List.mem_singleton.2 rfl)).objm rfl;refine⟨[],w,rfl,.inl (qAA ?_),qCN 1⟩;simp only at hb;unfold Instr.lookup qDE;simp only[Sem.run_bind,run_underlying M.hm,Result.andThen_ok,qLP hb,Sem.run_pure,M.chk,M.fndP];cases hf:qGd eqb k D l 0 0 with
 |none=>simp[M.zer]
 |some q=>simp
theorem qL6 (M:qZ5 P mt kt et kv ev z eqb) (b:Nat) (own:Bool) (D:List Nat) (l:List (α×β)) (k:α):
  qAu P (qLC mt (.map (some b)) (kv k) false) [⟨b,own,0,qA9 kv ev D l⟩] 0 (fun _=>ev ((qDE eqb k D l).getD z)) (fun _=>[none]):=by
 intro w hall ha;have hb:=(hall _ (List.mem_singleton.2 rfl)).objm rfl;refine⟨[],w,rfl,.inl (qAA ?_),qCN 1⟩;simp only at hb;unfold Instr.lookup qDE;simp only[Sem.run_bind,run_underlying M.hm,Result.andThen_ok,qLP hb,Sem.run_pure,M.chk,M.fndP];cases hf:qGd eqb k D l 0 0 with
 |none=>simp[M.zer]
 |some q=>simp
theorem qPz (M:MapT P mt kt et kv ev z eqb) (k:α):qAu P (qLC mt (.map none) (kv k) false) [] 0 (fun _=>ev z) (fun _=>[]):=by
 intro w hall ha;refine⟨[],w,rfl,.inl (qAA ?_),⟨fun p b h=>?_,fun p q b c _ h=>?_,Adv.refl _ _⟩⟩
 ·unfold Instr.lookup
  have h:=M.fnd k [] 0 w;simp only[qBZ] at h;simp only[Sem.run_bind,run_underlying M.hm,Result.andThen_ok,Sem.run_pure,M.chk];have h':(Instr.findKey kt (kv k) (#[]:Array MapEntry).toList).run P w=.ok none w:=h;rw[h'];simp[M.zer]
 ·simp[lM] at h
 ·simp[lM] at h
def qY4 (t ty:TypeId) (x:Value):Sem Next:=do pure (.value (←Builtin.len_ #[t] ty #[x]))
theorem qPa (hm:P.underlying mt=some (.map kt et)) (ty b:Nat) (own:Bool) (D:List Nat) (l:List (α×β)):
  qAu P (qY4 mt ty (.map (some b))) [⟨b,own,0,qA9 kv ev D l⟩] 0 (fun _=>nat (qBn D l.length)) (fun _=>[none]):=by
 intro w hall ha;have hb:=(hall _ (List.mem_singleton.2 rfl)).objm rfl;simp only at hb;refine⟨[],w,rfl,.inl (qAA ?_),qCN 1⟩;have hb':w.heap[b]?=some (.map (qB3 kv ev D l 0).toArray l.length):=hb;unfold Builtin.len_;simp[run_underlying hm,qLP hb',qUl,nat,goInt]
theorem qLS (hm:P.underlying mt=some (.map kt et)) (b:Nat) (own:Bool) (D:List Nat) (l:List (α×β)):
  qAu P (qVp mt (.map (some b))) [⟨b,own,0,qA9 kv ev D l⟩] 1 (fun ns=>ptr (ns.getD 0 0) 0) (fun ns=>[none,some ⟨ns.getD 0 0,true,0,itC b l.length []⟩]):=by
 intro w hall ha;have hb:=(hall _ (List.mem_singleton.2 rfl)).objm rfl;obtain⟨h1,h2⟩:=qF9 w (.mapIter (some b) l.length #[] l.length);refine⟨[w.heap.size],w.alloc (.mapIter (some b) l.length #[] l.length),rfl,.inl (qAA ?_),⟨fun p c hpc=>?_,fun p p' c d hpp hc hd ho=>?_,⟨rfl,rfl,rfl,by simp,fun j hj _=>h2 j hj,fun j hj=>?_,fun p c hpc ho=>?_⟩⟩⟩
 ·exact run_range_map w mt kt et b _ _ hm hb
 ·rcases p with _ | _ |p
  ·simp[lM] at hpc
  ·injection hpc with hpc;subst hpc
   exact⟨by simp,(fun o v ho=>by cases ho),(fun _ o v ho=>by cases ho),h1⟩
  ·simp[lM] at hpc
 ·rcases p with _ | _ |p
  ·simp[lM] at hc
  ·rcases p' with _ | _ |p'
   ·simp[lM] at hd
   ·exact absurd rfl hpp
   ·simp[lM] at hd
  ·simp[lM] at hc
 ·obtain⟨p,c,hpc,ho,hjk⟩:=hj
  rcases p with _ | _ |p
  ·simp[lM] at hpc
  ·injection hpc with hpc;subst hpc;exact .inr (Nat.le_of_eq hjk)
  ·simp[lM] at hpc
 ·rcases p with _ | _ |p
  ·simp[lM] at hpc
  ·injection hpc with hpc;subst hpc;cases ho
  ·simp[lM] at hpc
def qJT (S D o:List Nat):Prop:=∀i,S.contains i=(D.contains i||o.contains i)
theorem qJT.nil (D:List Nat):qJT D D []:=fun i=>by simp
theorem qOz {l:List (α×β)} {S D o:List Nat} (hS:qJT S D o):(leftOf (qB3 kv ev D l 0).toArray o.toArray).size=0↔qBs S l.length=false:=by
 unfold leftOf;constructor
 ·intro h
  have h2:Array.filter (fun e=>!o.toArray.contains e.born) (qB3 kv ev D l 0).toArray=#[]:=Array.eq_empty_of_size_eq_zero h
  rw[Array.filter_eq_empty_iff] at h2;cases hu:qBs S l.length with
  |false=>rfl
  |true=>
   obtain⟨i,h3,h4⟩:=List.any_eq_true.1 hu;have hi:=List.mem_range.1 h3;have h5:S.contains i=false:=by simpa using h4
   rw[hS i] at h5;have h6:D.contains i=false:=by cases hc:D.contains i<;>rw[hc] at h5<;>first|rfl|cases h5
   have h7:o.contains i=false:=by rw[h6] at h5;simpa using h5
   have hm:=qNo (kv:=kv) (ev:=ev) D (l:=l) (i:=0) (j:=i) (h:=l[i].1) (x:=l[i].2) (by simp[hi]) (by rw[Nat.zero_add];exact h6)
   rw[Nat.zero_add] at hm;have h8:=h2 _ (by simpa using hm)
   simp at h8 h7;exact absurd h8 h7
 ·intro h
  have hs:=qKN h;have:Array.filter (fun e=>!o.toArray.contains e.born) (qB3 kv ev D l 0).toArray=#[]:=by
   rw[Array.filter_eq_empty_iff];intro e he;obtain⟨j,h',x,h1,h2,rfl⟩:=qFI D (by simpa using he)
   have hj:j<l.length:=(List.getElem?_eq_some_iff.1 h1).1;have h3:=hs j hj;rw[hS j] at h3;rw[Nat.zero_add] at h2;rw[h2,Bool.false_or] at h3;simp at h3 ⊢;exact h3
  rw[this];rfl
theorem qPi (ty r b:Nat) (own:Bool) (l:List (α×β)) (S D o:List Nat) (d:α×β) (hS:qJT S D o) (hu:qBs S l.length=true):
  qAu P (qPo (ptr r 0) ty) [⟨r,true,0,itC b l.length o⟩,⟨b,own,0,qA9 kv ev D l⟩] 1
   (fun ns=>.tuple #[.bool true,kv (qBp d l (pk S l.length (ns.getD 0 0))).1,ev (qBp d l (pk S l.length (ns.getD 0 0))).2]) (fun ns=>[some ⟨r,true,0,itC b l.length (o++[pk S l.length (ns.getD 0 0)])⟩,none]):=by
 intro w hall ha;have hH:=hall _ (List.mem_cons_self ..);have hr:=hH.objm rfl;have hb:=(hall _ (List.mem_cons_of_mem _ (List.mem_singleton.2 rfl))).objm rfl;have hr':w.heap[r]?=some (.mapIter (some b) l.length o.toArray l.length):=hr;have hb':w.heap[b]?=some (.map (qB3 kv ev D l 0).toArray l.length):=hb;have hold:∀x∈(qB3 kv ev D l 0).toArray.toList,x.born<l.length:=fun x hx=>by
  obtain⟨j,h,y,h1,_,rfl⟩:=qFI D (by simpa using hx)
  have:=(List.getElem?_eq_some_iff.1 h1).1;show 0+j<l.length;omega
 rcases run_next_at (P:=P) w ty r b l.length l.length o.toArray _ _ hr' hb' hold (Nat.le_refl _) with⟨h0,_⟩|⟨e,he,w1,hw1,hrun⟩
 ·rw[(qOz hS).1 h0] at hu;cases hu
 obtain⟨he1,he2⟩:=mem_left he;obtain⟨j,h,x,hj,hjD,rfl⟩:=qFI D (by simpa using he1)
 have hjl:j<l.length:=(List.getElem?_eq_some_iff.1 hj).1;have hjo:o.contains j=false:=by simpa using he2
 have hjS:S.contains j=false:=by rw[Nat.zero_add] at hjD;rw[hS j,hjD,hjo];rfl
 have hpk:=qUn hjl hjS;have hat:qBp d l j=(h,x):=by unfold qBp;rw[List.getD_eq_getElem?_getD,hj];rfl
 have hb1:w1.heap=w.heap:=by rcases hw1 with rfl|rfl<;>rfl
 have hro:w1.heap[r]?=some (.mapIter (some b) l.length o.toArray l.length):=by rw[hb1];exact hr'
 obtain⟨s1,s2⟩:=qLz (o':=.mapIter (some b) l.length (o.toArray.push (0+j)) l.length) hro;refine⟨[j],setBlock w1 r (.mapIter (some b) l.length (o.toArray.push (0+j)) l.length),rfl,.inl (qAA (hrun.trans ?_)),qRz hH ?_ ?_ ?_ ?_ (fun i hi=>?_) ?_⟩
 ·show _=Result.ok (Value.tuple #[Value.bool true,kv (qBp d l (pk S l.length j)).1,ev (qBp d l (pk S l.length j)).2]) _
  rw[hpk,hat]
 ·rcases hw1 with rfl|rfl<;>rfl
 ·rcases hw1 with rfl|rfl<;>rfl
 ·rcases hw1 with rfl|rfl<;>rfl
 ·simp[setBlock,hb1]
 ·have:=s2 i hi
  rw[hb1] at this;simpa[setBlock,hb1] using this
 ·refine⟨?_,(fun o v ho=>by cases ho),(fun _ o v ho=>by cases ho),?_⟩
  ·have:=hH.lt;simpa[setBlock,hb1] using this
  ·show(w1.heap.setIfInBounds r _)[r]?= _
   rw[s1];show _=some (Obj.mapIter (some b) l.length (o++[pk S l.length j]).toArray l.length);rw[hpk];simp
theorem qJR (ty r b:Nat) (ow own:Bool) (l:List (α×β)) (S D o:List Nat) (hS:qJT S D o) (hu:qBs S l.length=false):
  qAu P (qPo (ptr r 0) ty) [⟨r,ow,0,itC b l.length o⟩,⟨b,own,0,qA9 kv ev D l⟩] 0 (fun _=>.tuple #[.bool false]) (fun _=>[none,none]):=by
 intro w hall ha;have hr:=(hall _ (List.mem_cons_self ..)).objm rfl;have hb:=(hall _ (List.mem_cons_of_mem _ (List.mem_singleton.2 rfl))).objm rfl;have hold:∀x∈(qB3 kv ev D l 0).toArray.toList,x.born<l.length:=fun x hx=>by
  obtain⟨j,h,y,h1,_,rfl⟩:=qFI D (by simpa using hx)
  have:=(List.getElem?_eq_some_iff.1 h1).1;show 0+j<l.length;omega
 have h0:(leftOf (qB3 kv ev D l 0).toArray o.toArray).size=0:=(qOz hS).2 hu;rcases run_next_at (P:=P) w ty r b l.length l.length o.toArray _ _ hr hb hold (Nat.le_refl _) with⟨_,h1⟩|⟨e,he,_⟩
 ·exact⟨[],w,rfl,.inl (qAA h1),qCN 2⟩
 ·have:(leftOf (qB3 kv ev D l 0).toArray o.toArray)=#[]:=Array.eq_empty_of_size_eq_zero h0
  rw[this] at he;simp at he
theorem qOZ (r b:Nat) (ow own:Bool) (l:List (α×β)) (D o:List Nat) (j:Nat) (d:α×β) (hj:j<l.length) (hD:D.contains j=false):
  qAu P (qY1 (ptr r 0)) [⟨r,ow,0,itC b l.length (o++[j])⟩,⟨b,own,0,qA9 kv ev D l⟩] 0 (fun _=>.tuple #[kv (qBp d l j).1,ev (qBp d l j).2]) (fun _=>[none,none]):=by
 intro w hall ha;have hr:=(hall _ (List.mem_cons_self ..)).objm rfl;have hb:=(hall _ (List.mem_cons_of_mem _ (List.mem_singleton.2 rfl))).objm rfl;have he:=qNo (kv:=kv) (ev:=ev) D (l:=l) (i:=0) (j:=j) (h:=l[j].1) (x:=l[j].2) (by simp[hj]) (by rw[Nat.zero_add];exact hD)
 have hat:qBp d l j=l[j]:=by unfold qBp;simp[List.getD_eq_getElem?_getD,hj]
 have hr2:w.heap[r]?=some (.mapIter (some b) l.length (o.toArray.push (⟨kv l[j].1,ev l[j].2,0+j⟩:MapEntry).born) l.length):=by
  have:w.heap[r]?=some (.mapIter (some b) l.length (o++[j]).toArray l.length):=hr
  rw[this];simp
 refine⟨[],w,rfl,.inl (qAA ?_),qCN 2⟩;rw[hat];refine run_entry_at (P:=P) w r b l.length o.toArray _ _ _ hr2 hb (by simpa using he) ?_
 rw[show(qB3 kv ev D l 0).toArray.toList=qB3 kv ev D l 0 by simp,qHt]
 exact List.Pairwise.filter _ List.nodup_range'
theorem qI0 {k:α} {D:List Nat}:∀{l:List (α×β)} {i q p j:Nat} {x:β},qGd eqb k D l i q=some (p,j,x)→q≤p∧i≤j∧(qB3 kv ev D l i).eraseIdx (p-q)=qB3 kv ev (D++[j]) l i∧∃h,l[j-i]?=some (h,x)∧eqb k h=true∧D.contains j=false
 |[],_,_,_,_,_,e=>by cases e
 |(h,y)::r,i,q,p,j,x,e=>by
  simp only[qGd] at e;by_cases hD:D.contains i=true
  ·rw[if_pos hD] at e
   obtain⟨h1,h2,h3,h',h4,h5,h6⟩:=qI0 e;refine⟨h1,by omega,?_,h',by rw[show j-i=(j-(i+1))+1 by omega];simpa using h4,h5,h6⟩
   simp only[qB3];rw[if_pos hD,if_pos (by simp at hD ⊢;exact .inl hD)];exact h3
  ·rw[if_neg hD] at e
   have hD':D.contains i=false:=by simpa using hD
   by_cases he:eqb k h=true
   ·rw[if_pos he] at e
    injection e with e;injection e with e1 e2;injection e2 with e2 e3;subst e1;subst e2;subst e3;refine⟨Nat.le_refl _,Nat.le_refl _,?_,h,by simp,he,hD'⟩
    simp only[qB3];rw[if_neg hD,if_pos (by simp),Nat.sub_self]
    show qB3 kv ev D r (i+1)=_;have:∀(r:List (α×β)) (m:Nat),i<m→qB3 kv ev D r m=qB3 kv ev (D++[i]) r m:=fun r=>by
     induction r with
     |nil=>intro m _;rfl
     |cons z r ih=>
      obtain⟨a,b⟩:=z;intro m hm;simp only[qB3];rw[List.contains_append,show([i]:List Nat).contains m=false by simp;omega,Bool.or_false,ih (m+1) (by omega)]
    exact this r (i+1) (by omega)
   ·rw[if_neg he] at e
    obtain⟨h1,h2,h3,h',h4,h5,h6⟩:=qI0 e;refine⟨by omega,by omega,?_,h',by rw[show j-i=(j-(i+1))+1 by omega];simpa using h4,h5,h6⟩
    simp only[qB3];rw[if_neg hD,if_neg (by rw[List.contains_append,hD',show([j]:List Nat).contains i=false by simp;omega];decide),show p-q=(p-(q+1))+1 by omega,List.eraseIdx_cons_succ,h3]
def qYR (t k ty:TypeId) (x y:Value):Sem Next:=do pure (.value (←Builtin.delete_ #[t,k] ty #[x,y]))
theorem qU6 (M:qZ5 P mt kt et kv ev z eqb) (tk ty b:Nat) (D:List Nat) (l:List (α×β)) (k:α) (p j:Nat) (x:β) (hf:qGd eqb k D l 0 0=some (p,j,x)):
  qAu P (qYR mt tk ty (.map (some b)) (kv k)) [⟨b,true,0,qA9 kv ev D l⟩] 0 (fun _=>.tuple #[]) (fun _=>[some ⟨b,true,0,qA9 kv ev (D++[j]) l⟩]):=by
 intro w hall ha;have hH:=hall _ (List.mem_singleton.2 rfl);have hb:=hH.objm rfl;simp only at hb;have hb':w.heap[b]?=some (.map (qB3 kv ev D l 0).toArray l.length):=hb;obtain⟨_,_,h3,_⟩:=qI0 (kv:=kv) (ev:=ev) hf;refine⟨[],_,rfl,.inl (qAA ?_),qRe hH⟩;unfold Builtin.delete_;simp only[Sem.run_bind,List.getElem?_toArray,List.getElem?_cons_zero,List.getElem?_cons_succ,run_underlying M.hm,Result.andThen_ok,qLP hb',M.chk,M.fndP,hf,Option.map_some,qRB _ hb',Sem.run_pure];simp only[Nat.sub_zero] at h3;rw[←h3];simp[OC.obj]
end
section
variable {P:Program} {mt kt et:TypeId} {β:Type} {ev:β→Value} {z:β}
theorem qW7 (hm:P.underlying mt=some (.map kt et)) (hk:P.underlying kt=some (.int .u64)) (hz:∀w,(zeroValue et).run P w=.ok (ev z) w):qZ5 P mt kt et u64 ev z eqW:=
 have hs:∀k h:UInt64,Instr.sameNow (.int .u64) (u64 k) (u64 h)=some (eqW k h):=fun k h=>by rw[←jF8];rfl
 {qNI hm hk hs (fun em k w=>by unfold Instr.checkKey;simp[run_underlying hk,u64]) (fun k h w=>by
   have:qAb P (Op.equal kt (u64 k) (u64 h))=some (eqW k h):=by
    show qAb P (Op.equalIn (9999+1) kt (.int .u64 k.toNat) (.int .u64 h.toNat))=_;unfold Op.equalIn;rw[qAh,qAi hk,←jF8];rfl
   exact qAW this w) (fun k h e=>by rw[qH3.1 e];simp[Instr.sameBits,u64]) hz with
  fndP:=fun k D l w=>MapKept.run_findKey hk (qLp hs k D l 0 0)}
end
end Go.Eng
namespace Go.Eng
open Go.WideShapes Go.ChangeShapes Go.ChangeAt Go.ChangeMaps
def jFm (_:Unit):qAL:=.map (.o (.mapIter none 0 #[] 0)) 0
def qTx {P:Program} {mt kt et:TypeId} (hm:P.underlying mt=some (.map kt et)):qAu P (qVp mt (.map none)) [] 1 (fun ns=>ptr (ns.getD 0 0) 0) (fun ns=>[some ⟨ns.getD 0 0,true,0,jFm ()⟩]):=by
 intro w hall ha;obtain⟨h1,h2⟩:=qF9 w (.mapIter none 0 #[] 0);refine⟨[w.heap.size],w.alloc (.mapIter none 0 #[] 0),rfl,.inl (qAA ?_),⟨fun p c hpc=>?_,fun p p' c d hpp hc hd ho=>?_,⟨rfl,rfl,rfl,by simp,fun j hj _=>h2 j hj,fun j hj=>?_,fun p c hpc ho=>?_⟩⟩⟩
 ·exact run_range_nilMap w mt kt et hm
 ·rcases p with _ |p
  ·injection hpc with hpc;subst hpc
   exact⟨by simp,(fun o v ho=>by cases ho),(fun _ o v ho=>by cases ho),h1⟩
  ·simp[lM] at hpc
 ·rcases p with _ |p
  ·rcases p' with _ |p'
   ·exact absurd rfl hpp
   ·simp[lM] at hd
  ·simp[lM] at hc
 ·obtain⟨p,c,hpc,ho,hjk⟩:=hj
  rcases p with _ |p
  ·injection hpc with hpc;subst hpc;exact .inr (Nat.le_of_eq hjk)
  ·simp[lM] at hpc
 ·rcases p with _ |p
  ·injection hpc with hpc;subst hpc;cases ho
  ·simp[lM] at hpc
def qVw {P:Program} (ty r:Nat) (ow:Bool):qAu P (qPo (ptr r 0) ty) [⟨r,ow,0,jFm ()⟩] 0 (fun _=>.tuple #[.bool false]) (fun _=>[none]):=by
 intro w hall ha;have hr:=(hall _ (List.mem_singleton.2 rfl)).objm rfl;refine⟨[],w,rfl,.inl (qAA ?_),qCN 1⟩;have hr':w.heap[r]?=some (.mapIter none 0 #[] 0):=hr;show(Instr.next (.pointer (some ⟨r,0,none⟩)) false ty).run P w=_;simp[Instr.next,getObj,Sem.run,hr']
def qTs {n i:Nat} {g:Nat→Value} (h:i<n):(qDs n g).get i=some (g i):=by
 rw[←qKG];exact qAH h
end Go.Eng
namespace Go.Eng
open Go.WideShapes Go.ChangeShapes Go.ChangeAt Go.ChangeMaps
section
variable {α β:Type} {kv:α→Value} {ev:β→Value}
theorem qLc {D E:List Nat}:∀(l:List (α×β)) (i:Nat),(∀j,j<i+l.length→D.contains j=E.contains j)→qB3 kv ev D l i=qB3 kv ev E l i
 |[],_,_=>rfl
 |(k,x)::r,i,h=>by
  simp only[qB3];rw[h i (by simp),qLc r (i+1) fun j hj=>h j (by simp at hj ⊢;omega)]
theorem qSV {D E:List Nat} {l:List (α×β)} (h:∀j,j<l.length→D.contains j=E.contains j):qA9 kv ev D l=qA9 kv ev E l:=by
 unfold qA9;rw[qLc l 0 fun j hj=>h j (by omega)]
theorem qHT (D:List Nat) (n:Nat):qBn D n≤n:=by
 unfold qBn;exact Nat.le_trans (List.length_filter_le _ _) (by simp)
end
def qKO (p:Nat→Bool) (o:List Nat):qJT o (o.filter p) o:=fun i=>by
 cases h:o.contains i with
 |true=>simp
 |false=>
  have:(o.filter p).contains i=false:=by
   simp at h ⊢;exact fun z=>absurd z h
  rw[this];rfl
def qNE {S D o:List Nat} (h:qJT S D o) {j:Nat} (hj:S.contains j=false):D.contains j=false:=by
 have:=h j;rw[hj] at this;cases hd:D.contains j with
 |false=>rfl
 |true=>rw[hd] at this;simp at this
section
variable {β:Type}
def d0W:UInt64×Option (Nat×Nat):=(0,none)
theorem qLs {d:UInt64×β} {D:List Nat}:∀{l:List (UInt64×β)} {i q j:Nat},(l.map (·.1)).Nodup→j<l.length→D.contains (i+j)=false→∃p,qGd eqW (l.getD j d).1 D l i q=some (p,i+j,(l.getD j d).2)
 |[],_,_,_,_,h,_=>absurd h (Nat.not_lt_zero _)
 |(h,x)::r,i,q,0,hn,_,hD=>⟨q,by
  simp only[qGd,List.getD_cons_zero];rw[if_neg (by simpa using hD),if_pos (qH3.2 rfl)];rfl⟩
 |(h,x)::r,i,q,j+1,hn,hj,hD=>by
  have hn':=List.nodup_cons.1 (by simpa using hn:(h::r.map (·.1)).Nodup)
  have hj':j<r.length:=by simpa using hj
  have hne:eqW (r.getD j d).1 h=false:=by
   cases e:eqW (r.getD j d).1 h with
   |false=>rfl
   |true=>
    exfalso;have:=qH3.1 e;refine hn'.1 (this▸List.mem_map.2 ⟨r[j],List.getElem_mem hj',?_⟩);simp[List.getD_eq_getElem?_getD,hj']
  simp only[qGd,List.getD_cons_succ];by_cases hi:D.contains i=true
  ·rw[if_pos hi]
   obtain⟨p,hp⟩:=qLs (d:=d) (D:=D) (l:=r) (i:=i+1) (q:=q) (j:=j) hn'.2 hj' (by rw[show i+1+j=i+(j+1) by omega];exact hD)
   exact⟨p,by rw[hp,show i+1+j=i+(j+1) by omega]⟩
  ·rw[if_neg hi,if_neg (by rw[hne];decide)]
   obtain⟨p,hp⟩:=qLs (d:=d) (D:=D) (l:=r) (i:=i+1) (q:=q+1) (j:=j) hn'.2 hj' (by rw[show i+1+j=i+(j+1) by omega];exact hD)
   exact⟨p,by rw[hp,show i+1+j=i+(j+1) by omega]⟩
theorem qUQ {P:Program} {mt kt et:TypeId} {ev:β→Value} {z:β} (M:qZ5 P mt kt et u64 ev z eqW) (tk ty b:Nat) (D:List Nat) (l:List (UInt64×β)) (d:UInt64×β) (j:Nat) (hn:(l.map (·.1)).Nodup) (hj:j<l.length) (hD:D.contains j=false):
  qAu P (qYR mt tk ty (.map (some b)) (u64 (qBp d l j).1)) [⟨b,true,0,qA9 u64 ev D l⟩] 0 (fun _=>.tuple #[]) (fun _=>[some ⟨b,true,0,qA9 u64 ev (D++[j]) l⟩]):=by
 obtain⟨p,hp⟩:=qLs (d:=d) (D:=D) (l:=l) (i:=0) (q:=0) hn hj (by rw[Nat.zero_add];exact hD)
 rw[Nat.zero_add] at hp;exact qU6 M tk ty b D l _ p j _ hp
def lsK (l:List (UInt64×Option (Nat×Nat))) (b:UInt64) (i:Nat):Bool:=decide ((qBp d0W l i).1<b)
def fgD (l:List (UInt64×Option (Nat×Nat))) (b:UInt64):List Nat:=(List.range l.length).filter (lsK l b)
theorem jAo {l:List (UInt64×Option (Nat×Nat))} {b:UInt64} {o:List Nat} (h:qTn l.length o) (j:Nat):(o.filter (lsK l b)).contains j=(fgD l b).contains j:=by
 unfold fgD;rw[Bool.eq_iff_iff];simp only[List.contains_iff_mem,List.mem_filter,List.mem_range];rw[h.mem]
end
end Go.Eng
namespace Go.Eng
def jAe {p:Nat→Bool} {o:List Nat} {j:Nat} (h:p j=true):o.filter p++[j]=(o++[j]).filter p:=by
 rw[List.filter_append];simp[h]
def jDs {p:Nat→Bool} {o:List Nat} {j:Nat} (h:p j=false):o.filter p=(o++[j]).filter p:=by
 rw[List.filter_append];simp[h]
end Go.Eng
end
section
namespace Go.Eng
section
variable {n:Nat} {s:Nat→UInt64} {F:Fst}
theorem qYv (x:Int×(Nat→UInt8)) (v:Nat→UInt8):qWm s (F++[x]) v=qWm s F v+if sR x.2 v=true then(s x.1.toNat).toNat else 0:=by
 unfold qWm;rw[List.length_append,show[x].length=1 from rfl];simp only[qHD];have e:vF (F++[x]) F.length=x.2:=by unfold vF;rw[qTH]
 have e2:sF s (F++[x]) F.length=s x.1.toNat:=by unfold sF kF;rw[qTH]
 rw[e,e2];congr 1;exact qJZ _ fun i hi=>by
  have h1:vF (F++[x]) i=vF F i:=by unfold vF;rw[qUC hi]
  have h2:sF s (F++[x]) i=sF s F i:=by unfold sF kF;rw[qUC hi]
  rw[h1,h2]
theorem qSh (who:Int) (w:Nat→UInt8):qBo n s F who w=F∨(qAJ n s F who w=0∧qBo n s F who w=F++[(who,w)]):=by
 by_cases e:qAJ n s F who w=0
 ·exact .inr ⟨e,(qFE e).1⟩
 ·exact .inl (if_neg e)
variable {G:Fst}
end
def fdV (F:Fst) (w:Nat):Nat→UInt8:=(qAs eqI ((w:Nat):Int) F).getD fun _=>0
def fdB (F:Fst) (w:Nat):Bool:=(qAs eqI ((w:Nat):Int) F).isSome
def qNg (F:Fst) (p:Nat→UInt8) (w:Nat):Bool:=fdB F w&&sR (fdV F w) p
def jFb (s:Nat→UInt64) (F:Fst) (p:Nat→UInt8) (n:Nat):Nat:=qHD (fun w=>if qNg F p w=true then(s w).toNat else 0) n
def FW (n:Nat) (s:Nat→UInt64) (F:Fst):Prop:=∀p,qWm s F p=jFb s F p n
theorem qMa:∀n,qHD (fun _=>0) n=0
 |0=>rfl
 |n+1=>by simp only[qHD,qMa n]
theorem qQG {i c:Nat}:∀{n:Nat},i<n→qHD (fun w=>if w=i then c else 0) n=c
 |n+1,h=>by
  simp only[qHD];by_cases e:n=i
  ·subst e
   rw[if_pos rfl,qJZ (g:=fun _=>0) n fun j hj=>if_neg (by omega),qMa];omega
  ·rw[if_neg e,qQG (show i<n by omega),Nat.add_zero]
def FW.nil (n:Nat) (s:Nat→UInt64):FW n s []:=fun p=>by
 unfold jFb;have:(fun w=>if qNg [] p w=true then(s w).toNat else 0)=fun _=>0:=funext fun w=>by simp[qNg,fdB,qAs]
 rw[this,qMa];rfl
def qRm {α β:Type} {eqb:α→α→Bool} {k:α} {m:List (α×β)} {x:α×β}:qAs eqb k (m++[x])=match qAs eqb k m with
  |some y=>some y
  |none=>if eqb k x.1=true then some x.2 else none:=by
 induction m with
 |nil=>simp[qAs]
 |cons q m ih=>
  obtain⟨b,y⟩:=q;simp only[List.cons_append,qAs];by_cases e:eqb k b=true
  ·simp[e]
  ·simp[e,ih]
def FW.vote {n:Nat} {s:Nat→UInt64} {F:Fst} (h:FW n s F) (who:Int) (w:Nat→UInt8):FW n s (qBo n s F who w):=by
 by_cases e:qAJ n s F who w=0
 ·obtain⟨e1,h1,h2,_,h4⟩:=qFE e
  obtain⟨i,rfl⟩:=Int.eq_ofNat_of_zero_le h1;have hi:i<n:=h2;intro p;rw[e1,qYv,h p];unfold jFb;have hf:∀j,qNg (F++[((i:Int),w)]) p j=if j=i then sR w p else qNg F p j:=fun j=>by
   unfold qNg fdB fdV;rw[qRm];by_cases c:j=i
   ·subst c
    rw[h4];simp[eqI]
   ·have:eqI (j:Int) (i:Int)=false:=by simp[eqI];omega
    rw[this,if_neg c];cases qAs eqI ((j:Nat):Int) F<;>rfl
  have h0:qNg F p i=false:=by unfold qNg fdB;rw[h4];rfl
  have:(fun j=>if qNg (F++[((i:Int),w)]) p j=true then(s j).toNat else 0)=fun j=>(if qNg F p j=true then(s j).toNat else 0)+if j=i then(if sR w p=true then(s i).toNat else 0) else 0:=funext fun j=>by
   rw[hf];by_cases c:j=i
   ·subst c;rw[h0];simp
   ·simp[c]
  rw[this,qRo,qQG hi];rfl
 ·have:qBo n s F who w=F:=if_neg e
  rw[this];exact h
end Go.Eng
end
section
namespace Go.Eng
def qHM (s:ByteArray):Nat→UInt8:=fun k=>s.data.toList.getD k 0
def qTt (src dst:TypeId) (x:Value):Sem Next:=do pure (.value (←convert src dst x))
def qHI (w:World) (e:TypeId) (s:ByteArray) (q:Nat) (hq:grownCap w s.size 0 e=s.size+q) (o:Nat) (v:Value) (h:(spr (s.size+q) s.size (fun k=>u8 (qHM s k)) (u8 0)).get o=some v):
  (Lib.bytesCells w e s)[o]?=some v:=by
 unfold Lib.bytesCells;rw[hq,show s.size+q-s.size=q by omega]
 by_cases h0:o<s.size+q
 ·rw[spr,qAH h0] at h
  by_cases h1:o<s.size
  ·rw[if_pos h1] at h
   injection h with h;rw[Array.getElem?_append_left (by rw[Array.size_map];exact h1),Array.getElem?_map,←h]
   have h2:o<s.data.toList.length:=by rw[Array.length_toList];exact h1
   rw[←Array.getElem?_toList,List.getElem?_eq_getElem h2];unfold qHM;rw[List.getD_eq_getElem?_getD,List.getElem?_eq_getElem h2];rfl
  ·rw[if_neg h1] at h
   injection h with h;have h3:s.data.size=s.size:=rfl;rw[Array.getElem?_append_right (by rw[Array.size_map];omega),Array.size_map,Array.getElem?_replicate,if_pos (by omega),←h]
   rfl
 ·rw[spr,qBf h0] at h;cases h
def qWB {P:Program} {src dst e:TypeId} (hs:P.underlying src=some .string) (hd:P.underlying dst=some (.slice e)) (he:P.underlying e=some (.int .u8)) (s:ByteArray):
  qAu P (qTt src dst (.string s)) [] 2 (fun ns=>.slice (some ⟨ns.getD 0 0,0,none⟩) s.size (s.size+ns.getD 1 0))
   (fun ns=>[some ⟨ns.getD 0 0,true,0,spr (s.size+ns.getD 1 0) s.size (fun k=>u8 (qHM s k)) (u8 0)⟩]):=by
 intro w hall ha;have hrun:=Lib.run_convert_string_bytes (P:=P) w src dst e s hs hd he;have hge:=grownCap_ge w s.size 0 e;obtain⟨q,hq⟩:∃q,grownCap w s.size 0 e=s.size+q:=⟨_,(Nat.add_sub_cancel' hge).symm⟩;rw[hq] at hrun;refine⟨[w.heap.size,q],_,rfl,.inl (qAA hrun),?_⟩;have hnew:=Lib.bytesWorld_at_new w e s;have hN:qAn ⟨w.heap.size,true,0,spr (s.size+q) s.size (fun k=>u8 (qHM s k)) (u8 0)⟩ (Lib.bytesWorld w e s):=by
  refine⟨by show w.heap.size< _;rw[Lib.bytesWorld_size];omega,fun o v ho=>?_,fun _ o v ho=>?_,qC8 rfl⟩
  ·have h1:=qHI w e s q hq o v ho
   simp only[World.cell?,hnew,Nat.zero_add];simpa using h1
  ·have h1:=qHI w e s q hq o v ho
   have h2:o<(Lib.bytesCells w e s).size:=by
    rcases Nat.lt_or_ge o (Lib.bytesCells w e s).size with h|h
    ·exact h
    ·rw[Array.getElem?_eq_none h] at h1;cases h1
   simp only[World.frozen?,hnew,Nat.zero_add];simp;omega
 refine⟨fun p b hp=>?_,fun p r b c hpr hp hr ho=>?_,⟨rfl,rfl,rfl,by rw[Lib.bytesWorld_size];omega,fun j hj _=>Lib.bytesWorld_at_old w e s j hj,fun j hj=>?_,fun p b hp ho=>?_⟩⟩
 ·rcases p with _ |p
  ·injection hp with hp;subst hp;exact hN
  ·simp[lM] at hp
 ·rcases p with _ |p
  ·rcases r with _ |r
   ·exact absurd rfl hpr
   ·simp[lM] at hr
  ·simp[lM] at hp
 ·obtain⟨p,b,hp,ho,hjk⟩:=hj
  rcases p with _ |p
  ·injection hp with hp;subst hp;exact .inr (Nat.le_of_eq hjk)
  ·simp[lM] at hp
 ·rcases p with _ |p
  ·injection hp with hp;subst hp;cases ho
  ·simp[lM] at hp
def qK0 (t tx ty:TypeId) (x y:Value):Sem Next:=do pure (.value (←Builtin.append_ #[t,tx] ty #[x,y]))
def qL5 (x x':Blk):qAG (lM [some x]) [(0,some x')]=lM [some x']:=by
 funext p;rcases p with _ |p<;>rfl
section
variable {P:Program} {t tx ty e:TypeId} {i:TypeInfo} {z:Value}
theorem qGA (ht:P.underlying t=some (.slice e)) (hi:P.info? e=some i) (hz:i.zero=some z) (hsz:i.size=1) (hzc:z.cells=#[z])
  {b len r n:Nat} {g h:Nat→Value} {x:Value} (w:World) (hall:∀c∈[(⟨b,true,0,spr (len+r) len g z⟩:Blk)],qAn c w) (ha:qCJ (lM ([(⟨b,true,0,spr (len+r) len g z⟩:Blk)].map some)))
  (hsrc:Go.Src P 1 tx x n ((List.range n).map h) w)
  (hb:(len+n)*i.bytes≤140737488355328) (hb2:len+n≤9223372036854775807):
  ∃(ns:List Nat) (w':World),ns.length=2∧(((qK0 t tx ty (.slice (some ⟨b,0,none⟩) len (len+r)) x).run P w=.ok (.value (.slice (some ⟨ns.getD 0 0,0,none⟩) (len+n) (len+n+ns.getD 1 0))) w')∨
    ((qK0 t tx ty (.slice (some ⟨b,0,none⟩) len (len+r)) x).run P w=.ok .skip w'∧Value.slice (some ⟨ns.getD 0 0,0,none⟩) (len+n) (len+n+ns.getD 1 0)=undef))∧
   qC4 (lM ([(⟨b,true,0,spr (len+r) len g z⟩:Blk)].map some)) w (lM [some ⟨ns.getD 0 0,true,0,spr (len+n+ns.getD 1 0) (len+n) (qNV g len h) z⟩]) w':=by
 have hA:qAn ⟨b,true,0,spr (len+r) len g z⟩ w:=hall _ (by simp)
 have hm:∀p c,lM [some ⟨b,true,0,spr (len+r) len g z⟩] p=some c→qAn c w:=fun p c hc=>hall c (List.mem_of_getElem? (qAV (l:=[⟨b,true,0,spr (len+r) len g z⟩]).1 hc))
 by_cases hr:n≤r
 ·have hget:∀j,j<n→(spr (len+r) len g z).get (len+j)=some z:=fun j hj=>by
   rw[spr,qAH (by omega),if_neg (by omega)]
  have hrun:=run_append_room_src (P:=P) w t tx ty e i ht hi b 0 len (len+r) x n ((List.range n).map h) (by rw[hsz];exact hsrc) (by omega)
   (fun j hj=>by
    have hj':j<n:=by simpa using hj
    have:=hA.cell _ _ (hget j hj');rw[show 0+len*i.size+j=0+(len+j) by rw[hsz];omega,this];rfl)
   (fun j hj=>by
    have hj':j<n:=by simpa using hj
    have:=hA.free rfl _ _ (hget j hj');rw[show 0+len*i.size+j=0+(len+j) by rw[hsz];omega];exact this)
  have hrun2:(Builtin.append_ #[t,tx] ty #[.slice (some ⟨b,0,none⟩) len (len+r),x]).run P w=.ok (.slice (some ⟨b,0,none⟩) (len+n) (len+n+(r-n))) (w.setCells b (0+len*i.size) ((List.range n).map h)):=by
   rw[show len+n+(r-n)=len+r by omega];exact hrun
  refine⟨[b,r-n],_,rfl,.inl (qAA hrun2),?_⟩;have hp:=qJt (m:=lM [some ⟨b,true,0,spr (len+r) len g z⟩]) (w:=w) (p:=0) (b:=⟨b,true,0,spr (len+r) len g z⟩) (o0:=len) (cs:=(List.range n).map h)
   (c:=spr (len+r) (len+n) (qNV g len h) z) hm ha rfl rfl rfl rfl (fun j hj=>⟨z,hget j (by simpa using hj)⟩) (fun j=>by
    have hlen:((List.range n).map h).length=n:=by simp
    rw[hlen];by_cases hj:j<len+r
    ·rw[spr,spr,qAH hj,qAH hj]
     by_cases h2:j<len
     ·rw[if_neg (show¬(len≤j∧j<len+n) by omega),if_pos h2,if_pos (show j<len+n by omega),qNV,if_pos h2]
     ·by_cases h3:j<len+n
      ·rw[if_pos (show len≤j∧j<len+n by omega),if_pos h3,qNV,if_neg h2,List.getElem?_map,List.getElem?_range (by omega)];rfl
      ·rw[if_neg (show¬(len≤j∧j<len+n) by omega),if_neg h3,if_neg h2]
    ·rw[spr,spr,qBf hj,qBf hj,if_neg (show¬(len≤j∧j<len+n) by omega)])
  rw[qL5] at hp;have e1:len+n+(r-n)=len+r:=by omega
  simpa[hsz,e1] using hp
 ·have hg:len+r<len+n:=by omega
  have hold:(Builtin.firstCells i.size len (.slice (some ⟨b,0,none⟩) len (len+r))).run P w.drew=.ok ((List.range len).map g).toArray w.drew:=
   run_firstCells_some w.drew i.size len ⟨b,0,none⟩ len (len+r) ((List.range len).map g) (by simp[hsz]) (fun j v hj=>by
    obtain⟨hjn,rfl⟩:=qBQ hj;rw[qBu,Nat.zero_add];have:=hA.cell j (g j) (by rw[spr,qAH (by omega),if_pos hjn])
    rw[Nat.zero_add] at this;simpa using this)
  have hrun:=run_append_grow_src (P:=P) w t tx ty e i z ht hi hz (some ⟨b,0,none⟩) len (len+r) ((List.range len).map g) hold x n ((List.range n).map h) (by rw[hsz];exact hsrc) hg (by omega) (growslice_fits hg hb)
  have hge:=grownCap_ge w (len+n) (len+r) e;obtain⟨q,hq⟩:∃q,grownCap w (len+n) (len+r) e=len+n+q:=⟨_,(Nat.add_sub_cancel' hge).symm⟩;rw[hq] at hrun;refine⟨[w.heap.size,q],_,rfl,.inl (qAA hrun),?_⟩;have hp0:=qC4.drew hm ha;have hp:=hp0.trans (qFc hp0.holds hp0.apart 0 (((List.range len).map g++(List.range n).map h).toArray++Builtin.zeroCells z.cells (len+n+q-(len+n))) e);rw[show w.drew.heap.size=w.heap.size from rfl,qL5] at hp;have hc:∀o v,(spr (len+n+q) (len+n) (qNV g len h) z).get o=some v→
    (qAL.lit (((List.range len).map g++(List.range n).map h).toArray++Builtin.zeroCells z.cells (len+n+q-(len+n))).toList).get o=some v:=fun o v ho=>by
   rw[hzc,show len+n+q-(len+n)=q by omega]
   simp only[qAL.get,Array.toList_append,List.append_assoc,qF7];by_cases h0:o<len+n+q
   ·rw[spr,qAH h0] at ho
    by_cases h2:o<len
    ·rw[if_pos (by omega),qNV,if_pos h2] at ho
     rw[List.getElem?_append_left (by simp;exact h2),List.getElem?_map,List.getElem?_range h2];exact ho
    ·rw[List.getElem?_append_right (by simp;omega)]
     by_cases h3:o<len+n
     ·rw[if_pos h3,qNV,if_neg h2] at ho
      rw[List.getElem?_append_left (by simp;omega),List.getElem?_map]
      simp only[List.length_map,List.length_range];rw[List.getElem?_range (by omega)];exact ho
     ·rw[if_neg h3] at ho
      rw[List.getElem?_append_right (by simp;omega),List.getElem?_replicate,if_pos (by simp;omega)];exact ho
   ·rw[spr,qBf h0] at ho;cases ho
  have hN:=(hp.holds 0 _ rfl).recont rfl hc;refine⟨fun p c hpc=>?_,fun p p' c d hpp hc1 hd ho=>?_,⟨hp.adv.os,hp.adv.output,hp.adv.tape,hp.adv.size,hp.adv.heap,fun j hj=>?_,fun p c hpc ho=>?_⟩⟩
  ·rcases p with _ |p
   ·injection hpc with hpc;subst hpc;exact hN
   ·simp[lM] at hpc
  ·rcases p with _ |p
   ·rcases p' with _ |p'
    ·exact absurd rfl hpp
    ·simp[lM] at hd
   ·simp[lM] at hc1
  ·obtain⟨p,c,hpc,ho,hjk⟩:=hj
   rcases p with _ |p
   ·injection hpc with hpc;subst hpc;exact hp.adv.names _ ⟨0,_,rfl,rfl,hjk⟩
   ·simp[lM] at hpc
  ·rcases p with _ |p
   ·injection hpc with hpc;subst hpc;cases ho
   ·simp[lM] at hpc
theorem qLB (ht:P.underlying t=some (.slice e)) (hi:P.info? e=some i) (hz:i.zero=some z) (hsz:i.size=1) (hzc:z.cells=#[z])
  {b len r n:Nat} {g h:Nat→Value} {x:Value} (hsrc:∀w:World,Go.Src P 1 tx x n ((List.range n).map h) w)
  (hb:(len+n)*i.bytes≤140737488355328) (hb2:len+n≤9223372036854775807):
  qAu P (qK0 t tx ty (.slice (some ⟨b,0,none⟩) len (len+r)) x) [⟨b,true,0,spr (len+r) len g z⟩] 2
   (fun ns=>.slice (some ⟨ns.getD 0 0,0,none⟩) (len+n) (len+n+ns.getD 1 0))
   (fun ns=>[some ⟨ns.getD 0 0,true,0,spr (len+n+ns.getD 1 0) (len+n) (qNV g len h) z⟩]):=fun w hall ha=>
 qGA ht hi hz hsz hzc w hall ha (hsrc w) hb hb2
end
def qNs (s:ByteArray):byteCells s=(List.range s.size).map fun k=>u8 (qHM s k):=by
 unfold byteCells;apply List.ext_getElem?;intro k;have hl:s.data.toList.length=s.size:=by rw[Array.length_toList];rfl
 by_cases h:k<s.size
 ·rw[List.getElem?_map,List.getElem?_map,List.getElem?_range h,List.getElem?_eq_getElem (by omega)]
  unfold qHM;simp only[Option.map_some];rw[List.getD_eq_getElem?_getD,List.getElem?_eq_getElem (by omega)]
  rfl
 ·rw[List.getElem?_eq_none (by rw[List.length_map];omega),List.getElem?_eq_none (by simp;omega)]
def qNr {P:Program} {t tx ty e:TypeId} {B:Nat} (ht:P.underlying t=some (.slice e)) (hx:P.underlying tx=some .string) (h1:qPQ P e (u8 0) B) (b len r:Nat) (g:Nat→UInt8) (s:ByteArray)
  (hb:(len+s.size)*B≤140737488355328∧len+s.size≤9223372036854775807):
  qAu P (qK0 t tx ty (.slice (some ⟨b,0,none⟩) len (len+r)) (.string s)) [⟨b,true,0,spr (len+r) len (fun k=>u8 (g k)) (u8 0)⟩] 2
   (fun ns=>.slice (some ⟨ns.getD 0 0,0,none⟩) (len+s.size) (len+s.size+ns.getD 1 0))
   (fun ns=>[some ⟨ns.getD 0 0,true,0,spr (len+s.size+ns.getD 1 0) (len+s.size) (fun k=>u8 (qAj g len (qHM s) k)) (u8 0)⟩]):=by
 obtain⟨i,hi,hz,hsz,hB,hzc⟩:=h1;subst hB;have:=qLB (P:=P) (t:=t) (tx:=tx) (ty:=ty) ht hi hz hsz hzc (b:=b) (len:=len) (r:=r) (n:=s.size) (g:=fun k=>u8 (g k)) (h:=fun k=>u8 (qHM s k)) (x:=.string s) (fun w=>by rw[←qNs];exact Go.Src.ofString w hx s) hb.1 hb.2
 rw[qTA] at this;exact this
def qGu {P:Program} {t ty e:TypeId} {B:Nat} {F:Blk→Prop} (ht:P.underlying t=some (.slice e)) (h1:qPQ P e (u8 0) B) (b len r:Nat) (g:Nat→UInt8) (x:BytL) (hx:OkB x) (hF:∀c,qBi x c→F c)
  (hb:(len+x.wn)*B≤140737488355328∧len+x.wn≤9223372036854775807):
  qKg F P (qK0 t t ty (.slice (some ⟨b,0,none⟩) len (len+r)) (.slice x.wa x.wn x.wc)) [⟨b,true,0,spr (len+r) len (fun k=>u8 (g k)) (u8 0)⟩] 2
   (fun ns=>.slice (some ⟨ns.getD 0 0,0,none⟩) (len+x.wn) (len+x.wn+ns.getD 1 0))
   (fun ns=>[some ⟨ns.getD 0 0,true,0,spr (len+x.wn+ns.getD 1 0) (len+x.wn) (fun k=>u8 (qAj g len x.wf k)) (u8 0)⟩]):=by
 obtain⟨i,hi,hz,hsz,hB,hzc⟩:=h1;subst hB;intro w hall ha hfam;have hsrc:Go.Src P 1 t (.slice x.wa x.wn x.wc) x.wn ((List.range x.wn).map fun k=>u8 (x.wf k)) w:=by
  rcases Nat.eq_zero_or_pos x.wn with h0|h0
  ·rw[h0]
   cases hxa:x.wa with
   |none=>exact Go.Src.ofNil w ht x.wc
   |some a=>exact Go.Src.ofSlice w ht a 0 x.wc [] (by simp) (fun j u hj=>by simp at hj) (fun u hu=>by cases hu)
  ·rw[hx.ad h0]
   have hH:=(hfam _ (hF _ ⟨h0,rfl⟩)).1;refine Go.Src.ofSlice w ht _ x.wn x.wc _ (by simp) (fun j u hj=>?_) (fun u hu=>?_)
   ·obtain⟨hjn,rfl⟩:=qBQ hj
    have:=hH.cell j (u8 (x.wf j)) (by show(qAd x.wn _).get j=_;rw[qAH hjn])
    rw[qBu];exact this
   ·obtain⟨_,_,rfl⟩:=List.mem_map.1 hu;rfl
 have:=qGA (P:=P) (t:=t) (tx:=t) (ty:=ty) ht hi hz hsz hzc (b:=b) (len:=len) (r:=r) (n:=x.wn) (g:=fun k=>u8 (g k)) (h:=fun k=>u8 (x.wf k)) (x:=.slice x.wa x.wn x.wc) w hall ha hsrc hb.1 hb.2
 rw[qTA] at this;exact this
section
variable {P:Program} {t:TypeId}
theorem qU3 {x:Operand} (ht:P.underlying t=some .string) (s:ByteArray):qB2 P (.call {callee:=.builtin .len,args:=#[x],argTypes:=#[t]}) [.string s] (nat s.size):=by
 intro ρ o ho hv;rw[ho] at hv;have hv':ρ x=.string s:=by simpa[Op.operands,Call.operands] using hv
 unfold execOp;rw[ho];show qAb P ((Builtin.len_ #[t] o.type (#[x].map ρ)) >>= fun v=>(pure (Next.value v):Sem Next))=_
 have e1:(#[x].map ρ:Array Value)=#[.string s]:=by simp[hv']
 have e2:qAb P (Builtin.len_ #[t] o.type #[.string s])=some (nat s.size):=by
  show qAb P (underlying t >>= fun d=>_)=_
  rw[qAh,qAi ht];rfl
 rw[e1,qAh,e2];rfl
end
def qZC {nm:Nat} {l:List Value} {z:Value} {w:World} (h:qAn ⟨nm,true,0,.lit l⟩ w):qAn ⟨nm,true,0,spr (l.length+0) l.length (fun k=>l.getD k z) z⟩ w:=
 h.recont rfl fun o v ho=>by
  have ho':(spr (l.length+0) l.length (fun k=>l.getD k z) z).get o=some v:=ho
  show l[o]?=some v;by_cases h0:o<l.length
  ·rw[spr,qAH (by omega),if_pos h0] at ho'
   rw[List.getD_eq_getElem?_getD,List.getElem?_eq_getElem h0] at ho';rw[List.getElem?_eq_getElem h0];exact ho'
  ·rw[spr,qBf (by omega)] at ho';cases ho'
def qLX {P:Program} {t ty e:TypeId} {B:Nat} {z:Value} (ht:P.underlying t=some (.slice e)) (h1:qPQ P e z B) (b k:Nat) (l1 l2:List Value) (h2:l2.all Value.oneCell'=true)
  (hb:(l1.length+l2.length)*B≤140737488355328∧l1.length+l2.length≤9223372036854775807):
  qAu P (qBH t ty (.slice (some ⟨b,0,none⟩) l1.length l1.length) (.slice (some ⟨k,0,none⟩) l2.length l2.length)) [⟨b,true,0,.lit l1⟩,⟨k,false,0,.lit l2⟩] 2
   (fun ns=>.slice (some ⟨ns.getD 0 0,0,none⟩) (l1.length+l2.length) (l1.length+l2.length+ns.getD 1 0))
   (fun ns=>[some ⟨ns.getD 0 0,true,0,spr (l1.length+l2.length+ns.getD 1 0) (l1.length+l2.length) (fun j=>(l1++l2).getD j z) z⟩,none]):=by
 obtain⟨i,hi,hz,hsz,hB,hzc⟩:=h1;subst hB;have h0:=qLq (P:=P) (t:=t) (ty:=ty) ht hi hz hsz hzc (b:=b) (len:=l1.length) (r:=0) (k:=k) (bo:=0) (os:=0) (n:=l2.length) (cc:=l2.length) (g:=fun j=>l1.getD j z) (h:=fun j=>l2.getD j z) (S:=.lit l2)
  (fun j hj=>by show l2[0+j]?= _;rw[Nat.zero_add,List.getElem?_eq_getElem hj,List.getD_eq_getElem?_getD,List.getElem?_eq_getElem hj];rfl)
  (fun j hj=>by rw[List.getD_eq_getElem?_getD,List.getElem?_eq_getElem hj];exact List.all_eq_true.1 h2 _ (List.getElem_mem hj)) hb.1 hb.2
 have hcat:qNV (fun j=>l1.getD j z) l1.length (fun j=>l2.getD j z)=fun j=>(l1++l2).getD j z:=by
  funext j;unfold qNV;by_cases h:j<l1.length
  ·rw[if_pos h]
   show l1.getD j z=(l1++l2).getD j z;rw[List.getD_eq_getElem?_getD,List.getD_eq_getElem?_getD,List.getElem?_append_left h]
  ·rw[if_neg h]
   show l2.getD (j-l1.length) z=(l1++l2).getD j z;rw[List.getD_eq_getElem?_getD,List.getD_eq_getElem?_getD,List.getElem?_append_right (by omega)]
 rw[hcat] at h0;have h3:=qAu.dark [false,true] h0;intro w hall ha;have hall':∀c∈[(⟨b,true,0,spr (l1.length+0) l1.length (fun j=>l1.getD j z) z⟩:Blk),⟨k,false,0,.lit l2⟩],qAn c w:=fun c hc=>by
  simp only[List.mem_cons,List.not_mem_nil,or_false] at hc;rcases hc with rfl|rfl
  ·exact qZC (hall ⟨b,true,0,.lit l1⟩ (by simp))
  ·exact hall _ (by simp)
 have hap:qCJ (lM [some (⟨b,true,0,spr (l1.length+0) l1.length (fun j=>l1.getD j z) z⟩:Blk),some ⟨k,false,0,.lit l2⟩]):=fun p q c d hpq hc hd ho=>by
  rcases p with _ | _ |p<;>rcases q with _ | _ |q
  ·exact absurd rfl hpq
  ·injection hc with hc;injection hd with hd;subst hc hd
   exact ha 0 1 ⟨b,true,0,.lit l1⟩ ⟨k,false,0,.lit l2⟩ (by omega) rfl rfl rfl
  ·simp[lM] at hd
  ·injection hc with hc;subst hc;cases ho
  ·exact absurd rfl hpq
  ·simp[lM] at hd
  ·simp[lM] at hc
  ·simp[lM] at hc
  ·simp[lM] at hc
 obtain⟨ns,w',k1,k2,k3⟩:=h3 w hall' hap;refine⟨ns,w',k1,k2,⟨k3.holds,k3.apart,⟨k3.adv.os,k3.adv.output,k3.adv.tape,k3.adv.size,fun j hj hno=>k3.adv.heap j hj (fun⟨p,c,h4,h5,h6⟩=>hno ?_),fun j hj=>?_,fun p c hp ho=>?_⟩⟩⟩
 ·rcases p with _ | _ |p
  ·injection h4 with h4;subst h4;exact⟨0,_,rfl,rfl,h6⟩
  ·injection h4 with h4;subst h4;cases h5
  ·simp[lM] at h4
 ·rcases k3.adv.names j hj with⟨p,c,h4,h5,h6⟩|h
  ·left
   rcases p with _ | _ |p
   ·injection h4 with h4;subst h4;exact⟨0,_,rfl,rfl,h6⟩
   ·injection h4 with h4;subst h4;cases h5
   ·simp[lM] at h4
  ·exact .inr h
 ·have:=k3.adv.ro p c hp ho
  rcases p with _ | _ |p
  ·injection this with this;subst this;cases ho
  ·exact this
  ·simp[lM] at this
def jFW (b:Blk):List Value:=match b.cont with
 |.lit l=>l
 | _=>[]
def jDS (bs:List Blk) (k:Nat):List Value:=match bs[k]?with
 |some b=>jFW b
 |none=>[]
def qYs {P:Program} {t t':TypeId} {x y:Operand} (a b:UInt64) (hb:b.toNat≠0):qB2 P (.binOp .quo t x y t') [u64 a,u64 b] (u64 (a/b)):=qAw qAq (by
 show qAb P (Op.intDiv .quo .u64 (a.toNat:Int) (b.toNat:Int))=_;unfold Op.intDiv;rw[if_neg (by omega)]
 show some (Value.int .u64 (IntKind.u64.wrap (Int.tdiv (a.toNat:Int) b.toNat)))=_;rw[qDM,u64,UInt64.toNat_div];congr 2;rw[Int.tdiv_eq_ediv_of_nonneg (by omega),←Int.natCast_ediv]
 have h3:a.toNat/b.toNat<18446744073709551616:=Nat.lt_of_le_of_lt (Nat.div_le_self _ _) a.toNat_lt;rw[show(18446744073709551616:Int)=((18446744073709551616:Nat):Int) from rfl,←Int.natCast_emod,Nat.mod_eq_of_lt h3])
def jDF {x y:UInt64} {c:Nat} (h:y.toNat=x.toNat/256^c):(y%256).toUInt8=UInt8.ofNat (x.toNat/256^c%256):=by
 apply UInt8.toNat_inj.1;rw[UInt64.toNat_toUInt8,UInt64.toNat_mod,h,UInt8.toNat_ofNat'];show x.toNat/256^c%256%256=x.toNat/256^c%256%256;rfl
def jAd {y:UInt64} (h:0<y):0<y.toNat:=by
 rw[UInt64.lt_iff_toNat_lt] at h;exact h
def qW5 {y:UInt64} (h:¬0<y):y.toNat=0:=by
 rw[UInt64.lt_iff_toNat_lt] at h;have h1:¬0<y.toNat:=h;omega
def qX1 {x y:UInt64} {c:Nat} {B:Grw UInt8} (hn:B.n=c) (hy:y.toNat=x.toNat/256^c) (hf:∀k,k<c→B.f k=UInt8.ofNat (dig x.toNat (c-1-k))) (h0:0<y) (a r:Nat):
  ((⟨false,a,1+B.n,r,qAj (fun _=>(y%256).toUInt8) 1 B.f⟩:Grw UInt8).ok∧1+B.n=c+1∧(y/256).toNat=x.toNat/256^(c+1)∧
  (∀k,k<c+1→qAj (fun _=>(y%256).toUInt8) 1 B.f k=UInt8.ofNat (dig x.toNat (c+1-1-k)))∧(c+1≠0→x.toNat/256^(c+1-1)≠0)∧c+1≤8)∧(y/256).toNat<y.toNat:=by
 have h1:=jAd h0;have h2:(y/256).toNat=y.toNat/256:=by rw[UInt64.toNat_div];rfl
 refine⟨⟨(fun h=>by cases h),by omega,by rw[h2,hy,Nat.div_div_eq_div_mul,←Nat.pow_succ],fun k hk=>?_,fun _=>?_,?_⟩,by omega⟩
 ·rw[jDF hy];exact qWZ hf k hk
 ·show x.toNat/256^c≠0;omega
 ·rcases Nat.lt_or_ge c 8 with h|h
  ·omega
  ·exfalso
   have h3:256^8≤256^c:=Nat.pow_le_pow_right (by omega) h
   have h4:=x.toNat_lt;have h5:x.toNat/256^c=0:=Nat.div_eq_of_lt (Nat.lt_of_lt_of_le h4 h3);omega
def jAb {x y:UInt64} {c:Nat} {B:Grw UInt8} (hn:B.n=c) (hy:y.toNat=x.toNat/256^c) (h2:c≠0→x.toNat/256^(c-1)≠0) (h0:¬0<y):szU x=B.n:=by
 have h1:=qW5 h0;rw[hn];exact(qZ6 (by omega) h2).symm
def smT (x:UInt64):Nat→UInt8:=fun k=>smB x (k+1)
def jAS {x y:UInt64} {c:Nat} {B:Grw UInt8} (hn:B.n=c) (hf:∀k,k<c→B.f k=UInt8.ofNat (dig x.toNat (c-1-k))) (h:szU x=B.n):∀k,k<B.n→smT x k=B.f k:=fun k hk=>by
 subst hn;rw[hf k hk];show smB x (k+1)=_;rw[qPL x (by omega) (by omega),h,show B.n-1-k=B.n-(k+1) by omega]
def qZ1 (x:UInt64):qAj (fun _=>UInt8.ofNat (szU x)) 1 (smT x)=smB x:=by
 funext k;unfold qAj;by_cases h:k<1
 ·rw[if_pos h,show k=0 by omega];unfold smB;rw[if_pos rfl]
 ·rw[if_neg h];show smB x (k-1+1)=_;rw[show k-1+1=k by omega]
def jAF (x:UInt64):1+szU x=smN x:=by unfold smN;omega
end Go.Eng
end
section
namespace Go.Proofs.YtmdpendnbkajdaaGreatDoor
open Go Go.Eng
def jDP:qWf TP 5 [u8 0] 1 1:=qM2 (z:=u8 0) (by kernel_rfl) rfl rfl (by decide)
abbrev qZb (a:BytL):=smN (UInt64.ofNat a.wn)+a.wn
def qJq (x:UInt64) (x1:Nat×(Grw UInt8)×UInt64):St:=⟨[(0,.v (u64 x1.2.2)),(3,.v (gsV x1.2.1))],[(0,(gsE u8C [u8 0] 1 x1.2.1))],1⟩
def qFB (x:UInt64) (x1:Nat×(Grw UInt8)×UInt64):Prop:=x1.2.1.ok∧(x1.2.1.n=x1.1)∧(x1.2.2.toNat=x.toNat/256^x1.1)∧(∀k,k<x1.1→x1.2.1.f k=UInt8.ofNat (dig x.toNat (x1.1-1-k)))∧(x1.1≠0→x.toNat/256^(x1.1-1)≠0)∧(x1.1≤8)
def qF5 (x:UInt64) (x1:Nat×(Grw UInt8)×UInt64):Nat:=x1.2.2.toNat
def v0C(x:UInt64):=qAj (fun _=>(UInt8.ofNat (szU x))) 1 (smT x)
def v1b(x:UInt64):=UInt8.ofNat (szU x)
def v24(x1:Nat×(Grw UInt8)×UInt64):=qAj (fun _=>((x1.2.2%256).toUInt8)) 1 x1.2.1.f
def v4Z(x1:Nat×(Grw UInt8)×UInt64)(x:UInt64):=reB x1.2.1 (szU x) (smT x)
def v5a(x1:Nat×(Grw UInt8)×UInt64):=u8 ((x1.2.2%256).toUInt8)
def v6o(n5:Nat)(x:UInt64)(n6:Nat):=Grw.mk false n5 (1+(szU x)) n6 (v0C x)
def jBT {F:Blk→Prop} (x:UInt64):qAc F TP 34 [(u64 x)] [] 2 (fun ns=>(gsV (Grw.mk false (ns.getD 0 0) (1+(szU x)) (ns.getD 1 0) (qAj (fun _=>(UInt8.ofNat (szU x))) 1 (smT x))))) (fun ns=>[(gsE u8C [u8 0] 1 (Grw.mk false (ns.getD 0 0) (1+(szU x)) (ns.getD 1 0) (qAj (fun _=>(UInt8.ofNat (szU x))) 1 (smT x))))]):=
 qAv mix Tryz.func34 rfl rfl 400 (.reg (rg [.g]) (.keep [0,2] [] 1 (.reg (rg [.g]) (.inv [0,3] [0] 1 (qFB x) (qJq x) (qF5 x) ((0,(Grw.mk true 0 0 0 (fun _=>0)),x):Nat×(Grw UInt8)×UInt64) (fun(x1:Nat×(Grw UInt8)×UInt64)=>(.reg (rg [.g,(aB (decide (0<x1.2.2)))]) (.br (.regn (rg [.g,(aQ (x1.2.2%256)),(.as (v5a x1)),(.oth [] 1 1 (fun ns=>vS (some ⟨ns.getD 0 0,0,none⟩) 1 1) (fun ns=>[some ⟨ns.getD 0 0,true,0,.lit [(v5a x1)]⟩])),.g,(.othO [(1,false),(0,true)] 2 0 (fun ns=>gsV (Grw.mk false (g0 ns) (1+x1.2.1.n) (g1 ns) (v24 x1))) (fun ns=>[(gsE u8C [u8 0] 1 (Grw.mk false (g0 ns) (1+x1.2.1.n) (g1 ns) (v24 x1))),none])),.g]) (m3 fun n1 n2 n3=>(.renO 1 0 (.reg (rg [.g,(aQ (x1.2.2/256)),.g]) .done)))) (.keep [3] [0] 1 (.told ⟨[(3,.v (gsV (v4Z x1 x)))],[(0,(gsE u8C [u8 0] 1 (v4Z x1 x)))],1⟩ (.regn (rg [.g,(aN (szU x)),(.as (u8 (v1b x))),(.oth [] 1 1 (fun ns=>vS (some ⟨ns.getD 0 0,0,none⟩) 1 1) (fun ns=>[some ⟨ns.getD 0 0,true,0,.lit [(u8 (v1b x))]⟩])),.g,(.othO [(1,false),(0,true)] 2 0 (fun ns=>gsV (Grw.mk false (g0 ns) (1+(szU x)) (g1 ns) (v0C x))) (fun ns=>[(gsE u8C [u8 0] 1 (Grw.mk false (g0 ns) (1+(szU x)) (g1 ns) (v0C x))),none])),.g]) (m3 fun n4 n5 n6=>.done))))))))))) [] [1] rfl
  (Eq.mp (by kernel_rfl) (aI kV1 ((aI kV1 (aI (show(qFB x) ((0,(Grw.mk true 0 0 0 (fun _=>0)),x):Nat×(Grw UInt8)×UInt64) from(show((Grw.mk true 0 0 0 (fun _=>0)).ok)∧((Grw.mk true 0 0 0 (fun _=>0)).n=0)∧(x.toNat=x.toNat/256^0)∧(∀k,k<0→(Grw.mk true 0 0 0 (fun _=>0)).f k=UInt8.ofNat (dig x.toNat (0-1-k)))∧(0≠0→x.toNat/256^(0-1)≠0)∧(0≤8) from by exact⟨fun _=>rfl,rfl,(Nat.div_one _).symm,fun k hk=>absurd hk (Nat.not_lt_zero k),fun h=>absurd rfl h,by decide⟩)) (aI (@rfl St ((qJq x) ((0,(Grw.mk true 0 0 0 (fun _=>0)),x):Nat×(Grw UInt8)×UInt64))) (fun(x1:Nat×(Grw UInt8)×UInt64) (hx1:(qFB x) x1)=>have B0:x1.2.1.ok:=hx1.1;have B1:x1.2.1.n=x1.1:=hx1.2.1;have B2:x1.2.2.toNat=x.toNat/256^x1.1:=hx1.2.2.1;have B3:∀k,k<x1.1→x1.2.1.f k=UInt8.ofNat (dig x.toNat (x1.1-1-k)):=hx1.2.2.2.1;have B4:x1.1≠0→x.toNat/256^(x1.1-1)≠0:=hx1.2.2.2.2.1;have B5:x1.1≤8:=hx1.2.2.2.2.2;aI (sk (aI (aT (@qNx TP 23 23 (.tmp 4) (.const (.int .u64 0)) x1.2.2 0)) tV)) (aT (aI (fun(h1:(decide (0<x1.2.2))=true)=>have f6:=(oT h1);fun(n1 n2 n3:Nat)=>aI (sk (aI (aT (@qGf TP 23 23 (.tmp 6) (.const (.int .u64 256)) x1.2.2 256 (by decide))) (aI (aT (@qAN TP 23 5 (.tmp 7) (by kernel_rfl) (by kernel_rfl) (x1.2.2%256))) (aI (aT (qAO (P:=TP) (t:=29) (e:=5) qDK 1 #[(0,(v5a x1))] #[(v5a x1)] (by kernel_rfl) (by decide) (by kernel_rfl))) (sk (aI (aT (qTF (P:=TP) (t:=29) (ty:=29) (e:=5) (by kernel_rfl) jDP n1 ((x1.2.2%256).toUInt8) x1.2.1 (show(x1.2.1).ok from by assumption) (show(x1.2.1).n+1≤140737488355328 from by have e0:(x1.2.1).n=x1.2.1.n:=rfl;omega))) kV1)))))) (aI (fun b (h:(gsE u8C [u8 0] 1 (Grw.mk false n2 (1+x1.2.1.n) n3 (v24 x1)))=some b)=>qWx h) (aI (sk (aI (aT (@qYs TP 23 23 (.tmp 12) (.const (.int .u64 256)) x1.2.2 256 (by decide))) kV1)) ((rnd (qFB x) (qJq x) (qF5 x) x1 (((x1.1+1),(Grw.mk false n2 (1+x1.2.1.n) n3 (v24 x1)),(x1.2.2/256)):Nat×(Grw UInt8)×UInt64) (show(((Grw.mk false n2 (1+x1.2.1.n) n3 (qAj (fun _=>((x1.2.2%256).toUInt8)) 1 x1.2.1.f)).ok)∧((Grw.mk false n2 (1+x1.2.1.n) n3 (qAj (fun _=>((x1.2.2%256).toUInt8)) 1 x1.2.1.f)).n=(x1.1+1))∧((x1.2.2/256).toNat=x.toNat/256^(x1.1+1))∧(∀k,k<(x1.1+1)→(Grw.mk false n2 (1+x1.2.1.n) n3 (qAj (fun _=>((x1.2.2%256).toUInt8)) 1 x1.2.1.f)).f k=UInt8.ofNat (dig x.toNat ((x1.1+1)-1-k)))∧((x1.1+1)≠0→x.toNat/256^((x1.1+1)-1)≠0)∧((x1.1+1)≤8))∧((x1.2.2/256).toNat)<x1.2.2.toNat from by exact qX1 B1 B2 B3 (oT h1) _ _)))))) (fun(h1:(decide (0<x1.2.2))=false)=>have f6:=(oF h1);(have hsz:szU x=x1.2.1.n:=(jAb B1 B2 B4 (oF h1));have hs8:szU x≤8:=(qMO x);aI (show(⟨[(3,.v (gsV x1.2.1))],[(0,(gsE u8C [u8 0] 1 x1.2.1))],1⟩:St)=⟨[(3,.v (gsV (reB x1.2.1 (szU x) (smT x))))],[(0,(gsE u8C [u8 0] 1 (reB x1.2.1 (szU x) (smT x))))],1⟩ from by rw[jFk (A:=x1.2.1) (n:=szU x) (f:=smT x) hsz,jFq (A:=x1.2.1) (n:=szU x) (f:=smT x) hsz (jAS (y:=0) B1 B3 hsz)]) (fun(n4 n5 n6:Nat)=>aI (sk (aI (aT (@qAo TP 29 5 (.tmp 14) (by kernel_rfl) (gsA (v4Z x1 x)) (szU x) (gsC (v4Z x1 x)))) (aI (aT (@qP8 TP 3 5 (.tmp 15) (by kernel_rfl) (by kernel_rfl) (szU x))) (aI (aT (qAO (P:=TP) (t:=29) (e:=5) qDK 1 #[(0,(u8 (v1b x)))] #[(u8 (v1b x))] (by kernel_rfl) (by decide) (by kernel_rfl))) (sk (aI (aT (qTF (P:=TP) (t:=29) (ty:=29) (e:=5) (by kernel_rfl) jDP n4 (v1b x) (v4Z x1 x) (jDV (show(x1.2.1).ok from by assumption) hsz) (show(reB x1.2.1 (szU x) (smT x)).n+1≤140737488355328 from by have e0:(reB x1.2.1 (szU x) (smT x)).n=(szU x):=rfl;omega))) kV1)))))) (aT (eX (fun(ns:List Nat)=>ns.length=2∧((gsV (v6o n5 x n6)):Value)=(fun ns=>(gsV (Grw.mk false (g0 ns) (1+(szU x)) (g1 ns) (v0C x)))) ns∧([(gsE u8C [u8 0] 1 (v6o n5 x n6))]:List (Option Blk))=(fun ns=>[(gsE u8C [u8 0] 1 (Grw.mk false (g0 ns) (1+(szU x)) (g1 ns) (v0C x)))]) ns) [n5,n6] (aI v0W (aI (@rfl Value (gsV (v6o n5 x n6))) (@rfl (List (Option Blk)) [(gsE u8C [u8 0] 1 (v6o n5 x n6))])))))))))))))))))
def jEc {F:Blk→Prop} (x:UInt64):qAc F TP 34 [u64 x] [] 2 (fun ns=>gsV (Grw.mk false (ns.getD 0 0) (smN x) (ns.getD 1 0) (smB x))) (fun ns=>[gsE u8C [u8 0] 1 (Grw.mk false (ns.getD 0 0) (smN x) (ns.getD 1 0) (smB x))]):=by
 have h:=jBT (F:=F) x;simp only[qZ1,jAF] at h;exact h
def qNX {F:Blk→Prop} (x:UInt64):qAt F TP 34 [u64 x] [] 2 (fun ns=>.slice (some ⟨ns.getD 0 0,0,none⟩) (smN x) (smN x+ns.getD 1 0)) (fun ns=>[some ⟨ns.getD 0 0,true,0,spr (smN x+ns.getD 1 0) (smN x) (fun k=>u8 (smB x k)) (u8 0)⟩]):=by
 have h:=jEc (F:=F) x;simp only[qKI] at h;exact qAc.toF (bs:=[]) h
def v2A(q:BytL)(n4:Nat):=spr (smN (uO q.wn)+q.wn+n4) (qZb q) (fun k=>u8 (qAj (smB (uO q.wn)) (smN (uO q.wn)) q.wf k)) (u8 0)
def v4b(q:BytL):=smN (uO q.wn)
def v50:=m4 fun n1 n2 n3 n4=>.done
def qWo (q:BytL) (hq:OkB q) (hl:q.wn≤100000):qAt (qBi q) TP 35 [(Value.slice q.wa q.wn q.wc)] [] 2 (fun ns=>(Value.slice (some ⟨(ns.getD 0 0),0,none⟩) (smN (UInt64.ofNat q.wn)+q.wn) (smN (UInt64.ofNat q.wn)+q.wn+(ns.getD 1 0)))) (fun ns=>[some ⟨(ns.getD 0 0),true,0,(spr (smN (UInt64.ofNat q.wn)+q.wn+(ns.getD 1 0)) (smN (UInt64.ofNat q.wn)+q.wn) (fun k=>u8 (qAj (smB (UInt64.ofNat q.wn)) (smN (UInt64.ofNat q.wn)) q.wf k)) (u8 0))⟩]):=
 qAm (F:=(qBi q)) mix Tryz.func35 rfl rfl 400 (.reg (rg [.g]) (.regn (rg [.g,(aN q.wn),(aQ (uO q.wn)),(.callF [] 2 1 (fun ns=>vS (some ⟨(g0 ns),0,none⟩) (v4b q) (smN (uO q.wn)+(g1 ns))) (fun ns=>[some ⟨(g0 ns),true,0,(spr (smN (uO q.wn)+(g1 ns)) (v4b q) (fun k=>u8 (smB (uO q.wn) k)) (u8 0))⟩])),.g,(.othF [(0,false)] 2 0 (fun ns=>vS (some ⟨(g0 ns),0,none⟩) (qZb q) (smN (uO q.wn)+q.wn+(g1 ns))) (fun ns=>[some ⟨(g0 ns),true,0,(spr (smN (uO q.wn)+q.wn+(g1 ns)) (qZb q) (fun k=>u8 (qAj (smB (uO q.wn)) (v4b q) q.wf k)) (u8 0))⟩])),.g]) v50)) [] [0] rfl
  (have f1:smN (uO q.wn)≤9:=(qY3 _);Eq.mp (by kernel_rfl) (aI kV1 (fun(n1 n2 n3 n4:Nat)=>aI (sk (aI (aT (@qAo TP 29 5 (.tmp 3) (by kernel_rfl) q.wa q.wn q.wc)) (aI (aT (@qAM TP 3 23 (.tmp 4) (by kernel_rfl) (by kernel_rfl) q.wn)) (aI (aT (qNX (F:=(qBi q)) (uO q.wn))) (sk (aI (aT (qGu (P:=TP) (t:=29) (ty:=29) (e:=5) (by kernel_rfl) qDK n1 (v4b q) n2 (smB (uO q.wn)) q hq (fun z hz=>hz) (show(smN (uO q.wn)+q.wn)*1≤140737488355328∧smN (uO q.wn)+q.wn≤9223372036854775807 from by have:=qGs  (uO q.wn);omega))) kV1)))))) (aT (eX (fun(ns:List Nat)=>ns.length=2∧((vS (some ⟨n3,0,none⟩) (qZb q) (smN (uO q.wn)+q.wn+n4)):Value)=(fun ns=>(vS (some ⟨(g0 ns),0,none⟩) (qZb q) (smN (uO q.wn)+q.wn+(g1 ns)))) ns∧([some ⟨n3,true,0,(v2A q n4)⟩]:List (Option Blk))=(fun ns=>[some ⟨(g0 ns),true,0,(spr (smN (uO q.wn)+q.wn+(g1 ns)) (qZb q) (fun k=>u8 (qAj (smB (uO q.wn)) (v4b q) q.wf k)) (u8 0))⟩]) ns) [n3,n4] (aI v0W (aI (@rfl Value (vS (some ⟨n3,0,none⟩) (qZb q) (smN (uO q.wn)+q.wn+n4))) (@rfl (List (Option Blk)) [some ⟨n3,true,0,(v2A q n4)⟩]))))))))
end Go.Proofs.YtmdpendnbkajdaaGreatDoor
end
section
namespace Go.Eng
open Go.RowKit Go.WideShapes Go.ChangeShapes Go.ChangeAt Go.Deep
structure PutR where
 d:Int
 n:UInt64
 a:N4
 b:BytL
 l:NatL
instance:Inhabited PutR:=⟨⟨0,0,⟨0,0,0,0⟩,qAf none 0,default⟩⟩
def jF6 (y:PutR):Prop:=y.b.wn≤1000∧y.l.ln≤40
instance (y:PutR):Decidable (jF6 y):=by unfold jF6;exact inferInstance
end Go.Eng
end
section
namespace Go.Eng
def jAc {F G:Blk→Prop} {P:Program} {k:FuncId} {args:List Value} {B:Blk} {c:Option Blk} {n:Nat} {v:List Nat→Value} {o:List Nat→Option Blk} {nw:List Nat→List (Option Blk)} (h:qAt G P k args [B] n v (fun ns=>o ns::nw ns))
  (hG:∀w:World,qCM F w→(∀b,c=some b→qAn b w)→qCM G w) (hN:∀z,G z→∃b,c=some b∧∀j,z.has j→b.has j) (hc:∀b,c=some b→b.own=false) (how:∀ns,qS6 (o ns::none::nw ns)):
  qAc F P k args [some B,c] n v (fun ns=>o ns::none::nw ns):=by
 cases c with
 |none=>
  have h1:=(qAt.lendG (F':=F) (bs:=[B]) (cs:=[]) (o:=fun ns=>[o ns]) (nw:=nw) h (fun _=>rfl) (fun w hF _=>hG w hF fun b hb=>by cases hb) (fun z hz j hj=>by obtain⟨b,hb,_⟩:=hN z hz;cases hb) (by simp)).toO
  exact h1.as (.cons _ (.zz _)) id fun ns hns=>⟨hns,rfl,.cons _ (.dn (.refl _)),how ns⟩
 |some b=>
  exact(qAt.lendG (F':=F) (bs:=[B]) (cs:=[b]) (o:=fun ns=>[o ns]) (nw:=nw) h (fun _=>rfl) (fun w hF hb=>hG w hF fun b' hb'=>by cases hb';exact hb b (List.Mem.head _)) (fun z hz j hj=>by
   obtain⟨b',hb',h2⟩:=hN z hz;cases hb';exact .inr ⟨b,List.Mem.head _,h2 j hj⟩) (by simpa using hc b rfl)).toO
def cpG (q:BytL) (a r:Nat):Grw UInt8:=⟨q.wa.isNone,a,q.wn,r,q.wf⟩
def qTQ {q:BytL} (hq:OkB q) (a r:Nat):(cpG q a r).ok:=fun h=>by
 have h1:q.wa.isNone=true:=h;show q.wn=0;rcases Nat.eq_zero_or_pos q.wn with h0|h0
 ·exact h0
 ·rw[hq.ad h0] at h1;cases h1
def qWS {C:Grw UInt8} {Q:BytL} (h:0<Q.wn→C.z=false∧Q.wb=C.nm):∀z,qBi Q z→∃b,roO (gsE u8C [u8 0] 1 C)=some b∧∀j,z.has j→b.has j:=fun z hz=>by
 obtain⟨h0,rfl⟩:=hz;obtain⟨h1,h2⟩:=h h0;refine⟨⟨C.nm,false,0,qGn 1 (C.n+C.r) C.n (fun k=>u8C (C.f k)) [u8 0]⟩,by rw[qDy h1];rfl,fun j hj=>?_⟩
 have hj':Q.wb=j:=hj;show C.nm=j;rw[←h2];exact hj'
def rbV (Q:BytL) (E m:Int) (a r:Nat):BytL:=if 0<rbN Q E m then qBO a (rbN Q E m) (rbN Q E m+r) (ctQ Q E m).wf else qAf (zA (rbZ Q E m) a) 0
def rbK (Q:BytL) (E m:Int) (a r:Nat):Option Blk:=if 0<rbN Q E m then some ⟨a,true,0,spr (rbN Q E m+r) (rbN Q E m) (fun k=>u8 ((ctQ Q E m).wf k)) (u8 0)⟩ else none
def jDj {Q:BytL} {E m:Int} {a r:Nat} (h:rbN Q E m≤9223372036854775807):OkB (rbV Q E m a r):=by
 unfold rbV;split
 ·exact qFo (by omega) h
 ·exact qG2
def jA5 {Q:BytL} {E m:Int} {a r:Nat}:qS6 [rbK Q E m a r]:=by
 unfold rbK;split
 ·exact⟨rfl,trivial⟩
 ·trivial
end Go.Eng
end
section
namespace Go.Eng
def inR (l:Nat):Fence:=Fence.wide.inRound l
def qFs (ops:Array Oper):Bool:=ops.all fun o=>match o.op with
 |.defer _=>false
 | _=>true
def qIr {ops:Array Oper} (h:qFs ops=true) {i:Nat} {o:Oper} (hi:ops[i]?=some o):∀c,o.op≠.defer c:=fun c e=>by
 unfold qFs at h;rw[Array.all_eq_true] at h;obtain⟨hl,he⟩:=Array.getElem?_eq_some_iff.1 hi;have:=h i hl;rw[he,e] at this;cases this
def qS3:Code→Bool
 |.skip|.label _ |.ret|.exit _=>true
 |.seq a b=>qS3 a&&qS3 b
 |.block _ b=>qS3 b
 |.cond _ x y=>qS3 x&&qS3 y
 |.region _ ops _=>qFs ops&&!ops.any qTu
 | _=>false
def jA3 {l n:Nat} {P:Program} {row:String} {args:Array Value} {w:World} {R:Value→World→Prop} (h:Rows P row args w R):RowsIn (inR l) n P row args w R:=
 fun c cs _=>let⟨v,w',r,s⟩:=h c cs;⟨v,w',r,(stepsIn_wide (P:=P)).2 s⟩
def jFe {l n:Nat} {P:Program} {o:Oper} {a:Act} {w:World} {K:Act→World→Prop} {Q:Exit→Act→World→Prop} (hd:∀c,o.op≠.defer c) (hQ:¬LetsOut Q)
  (h:o.wp P a w K Q∨(o.asks P a w∧LetsOut Q)):o.wpIn (inR l) n P a w K Q:=by
 have h:=h.resolve_right fun h=>hQ h.2
 refine⟨fun _ _=>trivial,?_⟩
 rw[Oper.semAt_eq _ _ _ hd];unfold Oper.wp at h;generalize(execOp a.eval o).run P w=r at h ⊢;unfold Oper.upon at h;unfold Oper.uponIn;split at h
 ·exact h
 ·exact h
 ·exact h
 ·exact⟨fun h=>by simp[inR,Fence.wide] at h,callsIn_wide.2 h⟩
 ·exact⟨fun h=>by simp[inR,Fence.wide] at h,jA3 h⟩
 ·exact h
 ·exact h.elim
def qTo {l n:Nat} {P:Program} {ops:Array Oper} {Q:Exit→Act→World→Prop} {i:Nat} {K K':Act→World→Prop} {a:Act} {w:World} (hd:qFs ops=true) (hQ:¬LetsOut Q)
  (hK:∀a w,K a w→K' a w) (h:wpOp P ops Q i K a w):wpOpIn (inR l) n P ops Q i K' a w:=by
 refine wpOpIn_mono hK ?_;unfold wpOp at h;unfold wpOpIn;cases ho:ops[i]?with
 |none=>rw[ho] at h;exact h
 |some o=>
  rw[ho] at h;simp only at h ⊢;split at h
  ·rename_i hw;rw[if_pos hw];exact jFe (qIr hd ho) hQ h
  ·rename_i hw;rw[if_neg hw];exact⟨fun _ _=>trivial,h⟩
theorem qVW {l n:Nat} {P:Program} {ops:Array Oper} {Q:Exit→Act→World→Prop} (hd:qFs ops=true) (hQ:¬LetsOut Q):
  ∀(is:List Nat) (a:Act) (w:World),wpOps P ops Q is a w→wpOpsIn (inR l) n P ops Q is a w
 |[],_,_,h=>h
 |i::is,a,w,h=>by
  rw[wpOps_cons] at h;rw[wpOpsIn_cons];exact qTo hd hQ (qVW hd hQ is) h
theorem qTl {l n:Nat} {P:Program} {md:Region.Mode} {ops:Array Oper} {Q:Exit→Act→World→Prop} (hd:qFs ops=true) (hQ:¬LetsOut Q):
  ∀(fuel:Nat) (listed:Array Bool) (a:Act) (w:World),wpAny P md ops Q fuel listed a w→wpAnyIn (inR l) n P md ops Q fuel listed a w
 |0,_,_,_,h=>h
 |fuel+1,listed,a,w,h=>⟨h.1,fun i hi=>qTo hd hQ (fun a w=>qTl hd hQ fuel _ a w) (h.2 i hi)⟩
def qWz {nt ds:Nat} {s:St} {w:World} {K:Exit→St→H→Prop} (hK:∀s h,¬K .outgrown s h):¬LetsOut (post ds nt s w K):=fun⟨_,_,s',h',hk,_⟩=>hK s' h' hk
theorem qA2 {P:Program} {nt l m ds:Nat} {F:Blk→Prop} (hmix:P.follows .mixedOrders=true):∀(n:Nat) (c:Code) (s:St) (h:H) (K:Exit→St→H→Prop) (a:Act) (w:World),
  (∀s h,¬K .outgrown s h)→qS3 c=true→evF F P nt n false c s h K→Sat ds nt s.fs a w→Fam F s.fs.mem w→c.wpIn (inR l) m P (post ds nt s w K) a w
 |0,c,s,h,K,a,w,hO,hC,hev,hs,hF=>by cases hev
 |n+1,c,s,h,K,a,w,hO,hC,hev,hs,hF=>by
  by_cases hkeep:∃ts ps nx r,h=.keep ts ps nx r
  ·obtain⟨ts,ps,nx,r,rfl⟩:=hkeep
   simp only[evF] at hev;have hle:=qEa s ts ps nx;exact wpIn_mono (qA2 hmix n c (s.keep ts ps nx) r K a w hO hC hev (hs.le hle) (hF.adv (qMx hle))) (qBg (qMx hle))
  ·by_cases htold:∃s' r,h=.told s' r
   ·obtain⟨s',r,rfl⟩:=htold
    simp only[evF] at hev;obtain⟨rfl,hev⟩:=hev;exact qA2 hmix n c s r K a w hO hC hev hs hF
   by_cases hopen:∃b r,h=.openb b r
   ·obtain⟨b,r,rfl⟩:=hopen
    simp only[evF] at hev;obtain⟨hb,hev⟩:=hev;obtain⟨hs2,hF2⟩:=hs.addb hF hb;have ho:=(hF b hb).2.1;exact wpIn_mono (qA2 hmix n c (s.addb b) r (fun e s' h'=>K e (s'.dropb s.nx) h') a w (fun _ h=>hO _ h) hC hev hs2 hF2) fun e a' w' ⟨s',h',hK,hS,hA⟩=>⟨s'.dropb s.nx,h',hK,hS.dropb s.nx,qKM ho hA⟩
   by_cases hopr:∃b r,h=.openr b r∧qNZ c=true
   ·obtain⟨b,r,rfl,hreg⟩:=hopr
    simp only[evF,hreg] at hev;obtain⟨hb,hev⟩:=hev;obtain⟨hs2,hF2⟩:=hs.addb hF hb;have ho:=(hF b hb).2.1;exact wpIn_mono (qA2 hmix n c (s.addb b) r (fun e s' h'=>K e (s'.dropb s.nx) h') a w (fun _ h=>hO _ h) hC hev hs2 hF2) fun e a' w' ⟨s',h',hK,hS,hA⟩=>⟨s'.dropb s.nx,h',hK,hS.dropb s.nx,qKM ho hA⟩
   by_cases hren:∃p q r,h=.ren p q r
   ·obtain⟨p,q,r,rfl⟩:=hren
    simp only[evF] at hev;split at hev
    ·rename_i b hb
     split at hev
     ·rename_i ho
      split at hev
      ·rename_i hq
       obtain⟨hs2,hadv⟩:=hs.ren hb ho hq;exact wpIn_mono (qA2 hmix n c (s.ren p q b) r K a w hO hC hev hs2 (hF.adv hadv)) (qBg hadv)
      ·exact hev.elim
     ·exact hev.elim
    ·exact hev.elim
   by_cases hrenO:∃p q r,h=.renO p q r
   ·obtain⟨p,q,r,rfl⟩:=hrenO
    simp only[evF] at hev;obtain⟨hs2,hadv⟩:=hs.renO (p:=p) (q:=q) hev.1;exact wpIn_mono (qA2 hmix n c (s.renO p q) r K a w hO hC hev.2 hs2 (hF.adv hadv)) (qBg hadv)
   by_cases hpack:∃q p m g r,h=.pack q p m g r
   ·obtain⟨q,p,m,g,r,rfl⟩:=hpack
    simp only[evF] at hev;split at hev
    ·rename_i b hb
     split at hev
     ·rename_i ho
      obtain⟨hp,hev⟩:=hev;simp only[Bool.and_eq_true,Bool.not_eq_true'] at ho;obtain⟨⟨ho,h0⟩,hqp⟩:=ho;have h0:=Nat.eq_of_beq_eq_true h0;obtain⟨hs2,hadv⟩:=hs.pack hb ho h0 (fun e=>by subst e;rw[show Nat.beq q q=true from Nat.beq_refl q] at hqp;cases hqp) hp
      exact wpIn_mono (qA2 hmix n c (s.pack q p b m g) r K a w hO hC hev hs2 (hF.adv hadv)) (qBg hadv)
     ·exact hev.elim
    ·exact hev.elim
   by_cases hboth:∃b h1 h2,h=.both b h1 h2
   ·obtain⟨b,h1,h2,rfl⟩:=hboth
    simp only[evF] at hev;cases b with
    |true=>exact qA2 hmix n c s h1 K a w hO hC (hev.1 rfl) hs hF
    |false=>exact qA2 hmix n c s h2 K a w hO hC (hev.2 rfl) hs hF
   by_cases hcast:∃p c' r,h=.cast p c' r
   ·obtain⟨p,c',r,rfl⟩:=hcast
    simp only[evF] at hev;split at hev
    ·rename_i b hb
     split at hev
     ·rename_i ho
      split at hev
      ·exact hev.elim
      rename_i hnm;obtain⟨hc,hev⟩:=hev;obtain⟨hnm,hbm⟩:=Bool.or_eq_false_iff.1 hnm;obtain⟨hs2,hadv⟩:=hs.recast hb ho hnm hbm hc;exact wpIn_mono (qA2 hmix n c (s.recast p b c') r K a w hO hC hev hs2 (hF.adv hadv)) (qBg hadv)
     ·exact hev.elim
    ·exact hev.elim
   by_cases hcut:∃(α:Type) (ts ps:List Nat) (nx:Nat) (R:α→Prop) (S:α→St) (h1:H) (r:α→H),h=.cut ts ps nx R S h1 r
   ·obtain⟨α,ts,ps,nx,R,S,h1,r,rfl⟩:=hcut
    simp only[evF] at hev;obtain⟨hev,hrest⟩:=hev;refine wpIn_mono (qA2 hmix n c s h1 _ a w ?_ hC hev hs hF) ?_
    ·exact fun s h=>hO s h
    rintro e a' w' ⟨s',h',hK,hS,hA⟩
    cases e with
    |normal=>
     obtain⟨y,hR,hy⟩:=hK;have hle:=qEa s' ts ps nx;rw[hy] at hle;exact⟨S y,r y,hrest y hR,hS.le hle,hA.weak hle.mem⟩
    | _=>exact⟨s',h',hK,hS,hA⟩
   have hnk:evF F P nt (n+1) false c s h K=qE9 F P nt (fun lp c s h K=>evF F P nt n lp c s h K) c s h K:=by
    cases h with
    |keep ts ps nx r=>exact absurd ⟨ts,ps,nx,r,rfl⟩ hkeep
    |cast p c' r=>exact absurd ⟨p,c',r,rfl⟩ hcast
    |told s' r=>exact absurd ⟨s',r,rfl⟩ htold
    |both b h1 h2=>exact absurd ⟨b,h1,h2,rfl⟩ hboth
    |openb b r=>exact absurd ⟨b,r,rfl⟩ hopen
    |ren p q r=>exact absurd ⟨p,q,r,rfl⟩ hren
    |renO p q r=>exact absurd ⟨p,q,r,rfl⟩ hrenO
    |pack q p m g r=>exact absurd ⟨q,p,m,g,r,rfl⟩ hpack
    |openr b r=>
     cases hreg:qNZ c with
     |true=>exact absurd ⟨b,r,rfl,hreg⟩ hopr
     |false=>simp only[evF,hreg]
    |cut ts ps nx R S h1 r=>exact absurd ⟨_,ts,ps,nx,R,S,h1,r,rfl⟩ hcut
    | _=>rfl
   rw[hnk] at hev;clear hnk;have here:∀e,K e s h→post ds nt s w K e a w:=fun e hK=>⟨s,h,hK,hs,.refl _ _⟩
   cases c with
   |skip=>exact wpIn_skip (here _ hev)
   |label l=>exact wpIn_label (here _ hev)
   |ret=>exact wpIn_ret (here _ hev)
   |exit id=>exact wpIn_exit (here _ hev)
   |seq x y=>
    simp only[qS3,Bool.and_eq_true] at hC;refine wpIn_seq (wpIn_mono (qA2 hmix n x s h _ a w ?_ hC.1 hev hs hF) ?_)
    ·exact fun s h=>hO s h
    rintro e a' w' ⟨s',h',hK,hS,hA⟩
    cases e with
    |normal=>exact wpIn_mono (qA2 hmix n y s' h' K a' w' hO hC.2 hK hS (hF.adv hA)) (qBg hA)
    | _=>exact⟨s',h',hK,hS,hA⟩
   |block id b=>
    simp only[qS3] at hC;refine wpIn_block (wpIn_mono (qA2 hmix n b s h _ a w ?_ hC hev hs hF) ?_)
    ·exact fun s h=>hO s h
    rintro e a' w' ⟨s',h',hK,hS,hA⟩
    cases e with
    |exit id'=>
     simp only[Exit.inBlock];simp only at hK;by_cases hid:id'=id
     ·subst hid
      rw[if_pos rfl];simp only[Nat.beq_refl] at hK;exact⟨s',h',hK,hS,hA⟩
     ·rw[if_neg hid]
      have:Nat.beq id' id=false:=by
       cases hb:Nat.beq id' id with
       |false=>rfl
       |true=>exact absurd (Nat.eq_of_beq_eq_true hb) hid
      rw[this] at hK;exact⟨s',h',hK,hS,hA⟩
    | _=>exact⟨s',h',hK,hS,hA⟩
   |cond o x y=>
    simp only[qS3,Bool.and_eq_true] at hC;simp only[qE9] at hev;split at hev
    ·rename_i ee hee
     split at hev
     ·rename_i b hb
      have hval:qFy (some ee)→a.eval o=.bool b:=fun hc=>by
       rw[qGj hs hee,←hb];cases ee with
       |v _=>rfl
       |c g _=>simp only[qFy] at hc;subst hc;rfl
      split at hev
      ·obtain⟨hc,h1,h2⟩:=hev
       exact wpIn_cond_split (hval hc) (fun ht=>qA2 hmix n x s _ K a w hO hC.1 (h1 ht) hs hF) (fun hf=>qA2 hmix n y s _ K a w hO hC.2 (h2 hf) hs hF)
      ·obtain⟨hc,hbt,h1⟩:=hev
       subst hbt;exact wpIn_cond_true (hval hc) (qA2 hmix n x s _ K a w hO hC.1 h1 hs hF)
      ·obtain⟨hc,hbt,h1⟩:=hev
       subst hbt;exact wpIn_cond_false (hval hc) (qA2 hmix n y s _ K a w hO hC.2 h1 hs hF)
      ·exact hev.elim
     ·exact hev.elim
    ·exact hev.elim
   |region id ops draw=>
    simp only[qS3,Bool.and_eq_true,Bool.not_eq_true'] at hC;obtain⟨hC,hT⟩:=hC;have hQ:=qWz (ds:=ds) (nt:=nt) (s:=s) (w:=w) hO;simp only[qE9] at hev;split at hev
    ·rename_i ks r
     split at hev
     ·rename_i hok
      have hall:∀ns,ns.length=nnL ks→∃vc s',qCs F P ops nt ks ns s=some (vc,s')∧vc:=fun ns hns=>by
       have:=qDg hev ns hns;split at this
       ·rename_i vc s' he;exact⟨vc,s',he,this.1⟩
       ·exact this.elim
      have hfin:∀ns vc s' a' w',ns.length=nnL ks→qCs F P ops nt ks ns s=some (vc,s')→vc→Sat ds nt s'.fs a' w'→Adv s.fs.mem w s'.fs.mem w'→post ds nt s w K .normal a' w':=
       fun ns vc s' a' w' hns he hvc hS hA=>by
        have:=qDg hev ns hns;rw[he] at this;exact⟨s',r,this.2,hS,hA⟩
      cases draw with
      |true=>exact wpIn_region_any hmix (qTl hC hQ _ _ _ _ (qNb hok hs hF hall hfin))
      |false=>
       refine wpIn_region (qVW hC hQ _ _ _ ?_);have hidx:=(qDw ks 0 ops.size hok).1;rw[Nat.sub_zero,←List.range_eq_range'] at hidx;rw[←hidx];exact qGB ks hs hF hall hfin
     ·exact hev.elim
    ·rename_i ks r
     split at hev
     ·rename_i hok
      have hall:∀ns,ns.length=nnL ks→∃vc s',qCs F P ops nt ks ns s=some (vc,s')∧vc:=fun ns hns=>by
       have:=qDg hev ns hns;split at this
       ·rename_i vc s' he;exact⟨vc,s',he,this.1⟩
       ·exact this.elim
      have hfin:∀ns vc s' a' w',ns.length=nnL ks→qCs F P ops nt ks ns s=some (vc,s')→vc→Sat ds nt s'.fs a' w'→Adv s.fs.mem w s'.fs.mem w'→post ds nt s w K .normal a' w':=
       fun ns vc s' a' w' hns he hvc hS hA=>by
        have:=qDg hev ns hns;rw[he] at this;exact⟨s',r ns,this.2,hS,hA⟩
      cases draw with
      |true=>exact wpIn_region_any hmix (qTl hC hQ _ _ _ _ (qNb hok hs hF hall hfin))
      |false=>
       refine wpIn_region (qVW hC hQ _ _ _ ?_);have hidx:=(qDw ks 0 ops.size hok).1;rw[Nat.sub_zero,←List.range_eq_range'] at hidx;rw[←hidx];exact qGB ks hs hF hall hfin
     ·exact hev.elim
    ·rw[hT] at hev;exact hev.elim
    ·exact hev.elim
   | _=>cases hC
end Go.Eng
end
