/-
  Many in one: CodP, CodB.
-/
import Derived.Test.YtnailbicmhkmbaaDoorZPoolBlocks12
import Derived.ChangeArms
set_option linter.unusedVariables false
set_option linter.unusedSimpArgs false
set_option maxRecDepth 100000
set_option maxHeartbeats 1000000
section
namespace Go.Eng
open Go.RowKit Go.WideShapes Go.ChangeShapes Go.ChangeAt Go.Deep
structure PutR where
  d:Int
  n:UInt64
  a:N4
  b:BytL
  l:NatL
instance:Inhabited PutR:=⟨⟨0,0,⟨0,0,0,0⟩,bytZ none 0,default⟩⟩
section
variable {H:Type} {enc:TypeId × Value→H} {P:Program}
end
def smlP (y:PutR):Prop:=y.b.wn≤1000∧y.l.ln≤40
instance (y:PutR):Decidable (smlP y):=by unfold smlP; exact inferInstance
end Go.Eng
end
section
namespace Go.Eng
theorem rd_lend {F G : Blk → Prop} {P : Program} {k : FuncId} {args : List Value} {B : Blk} {c : Option Blk} {n : Nat} {v : List Nat → Value} {o : List Nat → Option Blk} {nw : List Nat → List (Option Blk)} (h : RunsF G P k args [B] n v (fun ns => o ns :: nw ns))
    (hG:∀ w:World,FamH F w→(∀ b,c=some b→Holds b w)→FamH G w) (hN:∀ z,G z→∃ b,c=some b∧∀ j,z.has j→b.has j) (hc:∀ b,c=some b→b.own=false) (how:∀ ns,ownL (o ns :: none :: nw ns)) :
    RunsO F P k args [some B,c] n v (fun ns=>o ns :: none :: nw ns):=by
  cases c with
  | none =>
    have h1:=(RunsF.lendG (F':=F) (bs:=[B]) (cs:=[]) (o:=fun ns=>[o ns]) (nw:=nw) h (fun _=>rfl) (fun w hF _=>hG w hF fun b hb=>by cases hb) (fun z hz j hj=>by obtain⟨b,hb,_⟩:=hN z hz; cases hb) (by simp)).toO
    exact h1.as (.cons _ (.zz _)) id fun ns hns=>⟨hns,rfl,.cons _ (.dn (.refl _)),how ns⟩
  | some b =>
    exact(RunsF.lendG (F':=F) (bs:=[B]) (cs:=[b]) (o:=fun ns=>[o ns]) (nw:=nw) h (fun _=>rfl) (fun w hF hb=>hG w hF fun b' hb'=>by cases hb'; exact hb b (List.Mem.head _)) (fun z hz j hj=>by
      obtain⟨b',hb',h2⟩:=hN z hz; cases hb'
      exact .inr ⟨b,List.Mem.head _,h2 j hj⟩) (by simpa using hc b rfl)).toO
def cpG (q:BytL) (a r:Nat):Grw UInt8:=⟨q.wa.isNone,a,q.wn,r,q.wf⟩
theorem cpG_ok {q:BytL} (hq:OkB q) (a r:Nat):(cpG q a r).ok:=fun h=>by
  have h1:q.wa.isNone=true:=h
  show q.wn=0
  rcases Nat.eq_zero_or_pos q.wn with h0 | h0
  · exact h0
  · rw [hq.ad h0] at h1; cases h1
theorem gs_names {C:Grw UInt8} {Q:BytL} (h:0 < Q.wn→C.z=false∧Q.wb=C.nm):∀ z,famB Q z→∃ b,roO (gsE u8C [u8 0] 1 C)=some b∧∀ j,z.has j→b.has j:=fun z hz=>by
  obtain⟨h0,rfl⟩:=hz
  obtain⟨h1,h2⟩:=h h0
  refine⟨⟨C.nm,false,0,sprE 1 (C.n+C.r) C.n (fun k=>u8C (C.f k)) [u8 0]⟩,by rw [gsE_own h1]; rfl,fun j hj=>?_⟩
  have hj':Q.wb=j:=hj
  show C.nm=j
  rw [← h2]; exact hj'
def rbV (Q:BytL) (E m:Int) (a r:Nat):BytL:=if 0 < rbN Q E m then bytO a (rbN Q E m) (rbN Q E m+r) (ctQ Q E m).wf else bytZ (zA (rbZ Q E m) a) 0
def rbK (Q:BytL) (E m:Int) (a r:Nat):Option Blk:=if 0 < rbN Q E m then some ⟨a,true,0,spr (rbN Q E m+r) (rbN Q E m) (fun k=>u8 ((ctQ Q E m).wf k)) (u8 0)⟩ else none
theorem rbV_ok {Q:BytL} {E m:Int} {a r:Nat} (h:rbN Q E m≤9223372036854775807):OkB (rbV Q E m a r):=by
  unfold rbV
  split
  · exact okb_own (by omega) h
  · exact okb_nil
theorem rbK_own {Q:BytL} {E m:Int} {a r:Nat}:ownL [rbK Q E m a r]:=by
  unfold rbK
  split
  · exact⟨rfl,trivial⟩
  · trivial
end Go.Eng
end
