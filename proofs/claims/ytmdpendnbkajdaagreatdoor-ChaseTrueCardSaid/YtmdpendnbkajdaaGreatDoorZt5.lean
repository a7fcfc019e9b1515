/- What the law's proof needs, part 5. -/
import Derived.Test.YtmdpendnbkajdaaGreatDoorZt4
import Derived.ChangeArms
import GoSem.Extern.BytealgCompare
import Derived.Lib.Bytes
set_option linter.defProp false
set_option linter.unusedVariables false
set_option linter.unusedSimpArgs false
set_option maxRecDepth 100000
set_option maxHeartbeats 1000000
noncomputable section
section
namespace Go.Eng
open Go.WideShapes Go.ChangeShapes Go.ChangeAt
def jDb (f g:Nat→UInt8) (n:Nat):Int:=match(List.range n).find? fun i=>f i !=g i with
 |some i=>if f i<g i then-1 else 1
 |none=>0
def qOk (f g:Nat→UInt8):Int:=jDb f g 32
def qW1 (f:Nat→UInt8) (n:Nat):ByteArray:=⟨((List.range n).map f).toArray⟩
def qPX {f:Nat→UInt8} {n i:Nat} (h:i<n):(qW1 f n)[i]! =f i:=by
 unfold qW1;show(ByteArray.mk _)[i]! = _;rw[getElem!_pos _ i (by show i<Array.size _;simp;exact h)]
 show(((List.range n).map f).toArray)[i]'(by simp;exact h)=f i
 simp
theorem qTL {p q:Nat→Bool}:∀{l:List Nat},(∀i∈l,p i=q i)→l.find? p=l.find? q
 |[],_=>rfl
 |i::l,h=>by
  simp only[List.find?_cons];rw[h i (.head _),qTL fun j hj=>h j (.tail _ hj)]
def jAM (f g:Nat→UInt8) (n:Nat):Extern.BytealgCompare.cmp (qW1 f n) (qW1 g n)=jDb f g n:=by
 have hs:∀f:Nat→UInt8,(qW1 f n).size=n:=fun f=>by show Array.size _=n;simp
 unfold Extern.BytealgCompare.cmp jDb;rw[hs,hs,Nat.min_self];have e:(List.range n).find? (fun i=>(qW1 f n)[i]!!=(qW1 g n)[i]!)=(List.range n).find? fun i=>f i !=g i:=
  qTL fun i hi=>by rw[qPX (List.mem_range.1 hi),qPX (List.mem_range.1 hi)]
 rw[e];cases hf:(List.range n).find? fun i=>f i !=g i with
 |none=>simp
 |some i=>
  have hi:=List.mem_range.1 (List.mem_of_find?_eq_some hf);simp only[qPX hi]
theorem qOt {P:Program} {w:World} (b:Nat) (f:Nat→UInt8):∀(n o:Nat) (acc:ByteArray),(∀i,i<n→w.cell? ⟨b,o+i,none⟩=some (u8 (f (o+i))))→
  (Extern.Bytes.loadBytes ⟨b,o,none⟩ n acc).run P w=.ok ⟨acc.data++((List.range n).map fun i=>f (o+i)).toArray⟩ w
 |0,o,acc,_=>by
  show Result.ok acc w=_;simp
 |n+1,o,acc,h=>by
  have h0:=h 0 (by omega)
  rw[Nat.add_zero] at h0;have ih:=qOt (P:=P) (w:=w) b f n (o+1) (acc.push (f o)) fun i hi=>by
   have:=h (i+1) (by omega)
   rw[show o+(i+1)=o+1+i by omega] at this;exact this
  unfold Extern.Bytes.loadBytes;have hl:(load ⟨b,o,none⟩).run P w=.ok (u8 (f o)) w:=by
   simp[load,Sem.run,h0]
  simp only[Sem.run_bind,hl,Result.andThen_ok];unfold u8;simp only;have e1:((f o).toNat:Int).toNat.toUInt8=f o:=by simp
  rw[e1];refine ih.trans ?_;congr 2;rw[ByteArray.push,List.range_succ_eq_map,List.map_cons,List.map_map];apply Array.toList_inj.1;simp;intro a _;congr 1;omega
def qMc {P:Program} {w:World} (b n c:Nat) (f:Nat→UInt8) (h:∀i,i<n→w.cell? ⟨b,0+i,none⟩=some (u8 (f i))):(Extern.Bytes.bytesOf (.slice (some ⟨b,0,none⟩) n c)).run P w=.ok (qW1 f n) w:=by
 show(Extern.Bytes.loadBytes ⟨b,0,none⟩ n .empty).run P w=_;rw[qOt b f n 0 .empty fun i hi=>by rw[h i hi,Nat.zero_add]]
 unfold qW1;congr 2;simp[ByteArray.empty,ByteArray.emptyWithCapacity]<;>rfl
def qXS {P:Program} {fid:FuncId} (hE:∀args w,(callFunc fid args).run P w=(do pure (Next.value (←Extern.BytealgCompare.compare args)):Sem Next).run P w) (b1 b2 n c1 c2:Nat) (f g:Nat→UInt8) (C1 C2:qAL)
  (h1:∀i,i<n→C1.get i=some (u8 (f i))) (h2:∀i,i<n→C2.get i=some (u8 (g i))):
  qAu P (callFunc fid #[.slice (some ⟨b1,0,none⟩) n c1,.slice (some ⟨b2,0,none⟩) n c2]) [⟨b1,false,0,C1⟩,⟨b2,false,0,C2⟩] 0 (fun _=>int (jDb f g n)) (fun _=>[none,none]):=by
 intro w hall ha;have k1:=hall _ (List.mem_cons_self ..);have k2:=hall _ (List.mem_cons_of_mem _ (List.mem_singleton.2 rfl));refine⟨[],w,rfl,.inl ?_,qCN 2⟩;rw[hE];have e:∀x y,Extern.BytealgCompare.compare #[x,y]=(do pure (goInt (Extern.BytealgCompare.cmp (←Extern.Bytes.bytesOf x) (←Extern.Bytes.bytesOf y))):Sem Value):=fun _ _=>rfl
 rw[e];simp only[Sem.run_bind,qMc b1 n c1 f fun i hi=>k1.cell i _ (h1 i hi),qMc b2 n c2 g fun i hi=>k2.cell i _ (h2 i hi),Result.andThen_ok,Sem.run_pure,jAM]
 rfl
end Go.Eng
end
section
namespace Go.Eng
structure qGx where
 key:UInt64
 t:Nat
 sp:Nat
 sr:Nat
 fm:Nat
 am:Nat
 bm:Nat
 F:Fst
 A:List (Int×Unit)
 B:List ((Nat→UInt8)×BytL)
structure RwP where
 nm:Nat
 n:Nat
 c:Nat
 f:Nat→UInt8
abbrev Bks:=List ((Nat→UInt8)×BytL)
abbrev CV:=Option (Nat×Nat)
def clV:CV→Value
 |none=>.agg #[.pointer none,.map none]
 |some (t,b)=>.agg #[ptr t 0,.map (some b)]
def bkC (l:List ((Nat→UInt8)×BytL)):qAL:=qPw qDf qA3 l
def hgL (l:List qGx):List (UInt64×CV):=l.map fun x=>(x.key,some (x.t,x.bm))
def qV6 (n:Nat) (s:Nat→UInt64) (x:qGx):List Value:=[.slice (some ⟨x.sp,0,none⟩) n (n+x.sr),u64 (qBM s n).a,.map (some x.fm),.map (some x.am)]
def qJA {α β:Type} (kv:α→Value) (ev:β→Value) (l:List (α×β)):qBc:=.obj (qBZ kv ev l 0).toArray l.length
def qJi (n:Nat) (s:Nat→UInt64) (x:qGx):Nat×qBc:=(x.t,.row 4 1 fun i=>[(qV6 n s x).getD i (.bool false)])
def qLY (n:Nat) (s:Nat→UInt64) (x:qGx):Nat×qBc:=(x.sp,.row n 1 fun i=>[u64 (s i)])
def qJy (x:qGx):Nat×qBc:=(x.fm,qJA int qDf x.F)
def qMe (x:qGx):Nat×qBc:=(x.am,qJA int ev0 x.A)
def bkP (x:qGx):Nat×qBc:=(x.bm,qJA qDf qA3 x.B)
def qCP (y:RwP):BytL:=qBO y.nm y.n y.c y.f
def qJh (y:RwP):Nat×qBc:=(y.nm,.row y.c 1 fun k=>[if k<y.n then u8 (y.f k) else u8 0])
def qAL.capN:qAL→Nat
 |.tab c _ _=>c
 | _=>0
def rwL (n:Nat) (f:Nat→UInt8):List Blk→BytL
 | _ ::b:: _=>qCP ⟨b.name,n,b.cont.capN,f⟩
 | _=>qAf none 0
structure ChR where
 p:Nat
 h:Nat
 sp:Nat
 sr:Nat
 n:Nat
 s:Nat→UInt64
 D:List Nat
 l:List qGx
 R:List RwP
def chH (X:ChR):Option Blk:=some ⟨X.p,true,0,.lit [.slice (some ⟨X.sp,0,none⟩) X.n (X.n+X.sr),.map (some X.h)]⟩
def chK (X:ChR):Option Blk:=some ⟨X.sp,true,0,qAd X.n fun k=>u64 (X.s k)⟩
def chM (X:ChR):Option Blk:=some ⟨X.h,true,0,qA9 u64 clV X.D (hgL X.l)⟩
def chT (X:ChR):Option Blk:=lpO X.p (X.l.map (qJi X.n X.s))
def chS (X:ChR):Option Blk:=lpO X.p (X.l.map (qLY X.n X.s))
def chF (X:ChR):Option Blk:=lpO X.p (X.l.map qJy)
def chA (X:ChR):Option Blk:=lpO X.p (X.l.map qMe)
def chB (X:ChR):Option Blk:=lpO X.p (X.l.map bkP)
def chR (X:ChR):Option Blk:=lpO X.p (X.R.map qJh)
def chO (X:ChR):List (Option Blk):=[chH X,chK X,chM X,chT X,chS X,chF X,chA X,chB X,chR X]
def qPx (X:ChR):qS6 (chO X):=⟨rfl,rfl,rfl,rfl,rfl,rfl,rfl,rfl,rfl,trivial⟩
def slI (X:ChR) (k:UInt64):Option Nat:=(qGd eqW k X.D (hgL X.l) 0 0).map fun p=>p.2.1
def slX (X:ChR) (k:UInt64):Option qGx:=(slI X k).bind fun j=>X.l[j]?
def qNl {X:ChR} {k:UInt64} {x:qGx} (h:slX X k=some x):∃j,slI X k=some j∧X.l[j]?=some x∧x.key=k∧X.D.contains j=false∧qDE eqW k X.D (hgL X.l)=some (some (x.t,x.bm)):=by
 unfold slX slI at h;cases hf:qGd eqW k X.D (hgL X.l) 0 0 with
 |none=>rw[hf] at h;cases h
 |some q=>
  obtain⟨p,j,v⟩:=q;rw[hf] at h;have hj:X.l[j]?=some x:=h;obtain⟨_,_,_,k',h4,h5,h6⟩:=qI0 (kv:=u64) (ev:=clV) hf;rw[Nat.sub_zero] at h4;have h7:(hgL X.l)[j]?=some (x.key,some (x.t,x.bm)):=by unfold hgL;rw[List.getElem?_map,hj];rfl
  rw[h7] at h4;injection h4 with h4;injection h4 with e1 e2;subst e1;refine⟨j,by unfold slI;rw[hf];rfl,hj,(qH3.1 h5).symm,h6,?_⟩
  unfold qDE;rw[hf,e2];rfl
def qZ9 {X:ChR} {k:UInt64} (h:slX X k=none):qDE eqW k X.D (hgL X.l)=none:=by
 unfold slX slI at h;unfold qDE;cases hf:qGd eqW k X.D (hgL X.l) 0 0 with
 |none=>rfl
 |some q=>
  exfalso;obtain⟨p,j,v⟩:=q;rw[hf] at h;have hj:X.l[j]?=none:=h;obtain⟨_,_,_,k',h4,_⟩:=qI0 (kv:=u64) (ev:=clV) hf;rw[Nat.sub_zero] at h4;unfold hgL at h4;rw[List.getElem?_map,hj] at h4;cases h4
def qSZ (s:Nat→UInt64) (n:Nat) (F:Fst) (m:(Nat→UInt8)×Bool) (v:Nat→UInt8):(Nat→UInt8)×Bool:=
 if qA0 (qF1 (forV s F v) (qBM s n).a) (qA0 (!m.2) true (decide (qOk v m.1<0))) false=true then(v,true) else m
def rB0:(Nat→UInt8)×BytL:=(fun _=>0,qAf none 0)
def nmB (B:List ((Nat→UInt8)×BytL)) (i:Nat):Nat→UInt8:=(qBp rB0 B i).1
def qIy (s:Nat→UInt64) (n:Nat) (F:Fst) (B:List ((Nat→UInt8)×BytL)) (o:List Nat):(Nat→UInt8)×Bool:=o.foldl (fun m i=>qSZ s n F m (nmB B i)) (fun _=>0,false)
def qFx (s:Nat→UInt64) (n:Nat) (F:Fst) (B:List ((Nat→UInt8)×BytL)):(Nat→UInt8)×Bool:=qIy s n F B (List.range B.length)
def bvF (X:ChR) (k:UInt64):Bool:=match slX X k with
 |none=>false
 |some x=>(qFx X.s X.n x.F x.B).2
def bvB (X:ChR) (k:UInt64):BytL:=match slX X k with
 |none=>qAf none 0
 |some x=>(qAs sR (qFx X.s X.n x.F x.B).1 x.B).getD (qAf none 0)
noncomputable def qD6 (X:ChR) (k:UInt64) (w:Int) (y:BytL) (v:Nat→UInt8):Int:=
 if unX y≠0∨unH y≠k then 31 else match slX X k with
  |some x=>qAJ X.n X.s x.F w v
  |none=>if X.l.length=20 then 52 else qAJ X.n X.s [] w v
def slU (X:ChR) (x:qGx) (w:Int) (v:Nat→UInt8) (b:BytL):qGx:=
 {x with F:=qBo X.n X.s x.F w v,A:=qBX X.n X.s x.F x.A w v,B:=if qAJ X.n X.s x.F w v=0 then qCw sR v b x.B else x.B}
def hrO (X:ChR) (j:Nat) (x:qGx) (w:Int) (v:Nat→UInt8) (y:RwP):ChR:=
 {X with l:=X.l.set j (slU X x w v (qCP y)),R:=if qAJ X.n X.s x.F w v=0 then X.R++[y] else X.R}
def slN (k:UInt64) (w:Int) (v:Nat→UInt8) (y:RwP) (t sp sr fm am bm:Nat):qGx:=⟨k,t,sp,sr,fm,am,bm,[(w,v)],[],[(v,qCP y)]⟩
def hrN (X:ChR) (k:UInt64) (w:Int) (v:Nat→UInt8) (y:RwP) (t sp sr fm am bm:Nat):ChR:=
 {X with l:=X.l++[slN k w v y t sp sr fm am bm],R:=X.R++[y]}
noncomputable def hrX (X:ChR) (k:UInt64) (w:Int) (y:BytL) (v:Nat→UInt8) (nm r t sp sr fm am bm:Nat):ChR:=
 if unX y≠0∨unH y≠k then X else match slX X k with
  |some x=>hrO X ((slI X k).getD 0) x w v ⟨nm,y.wn,y.wn+r,y.wf⟩
  |none=>if X.l.length=20 then X else if qAJ X.n X.s [] w v=0 then hrN X k w v ⟨nm,y.wn,y.wn+r,y.wf⟩ t sp sr fm am bm else X
section
variable {X:ChR} {k:UInt64} {w:Int} {y:BytL} {v:Nat→UInt8}
theorem qVB (h:unX y≠0∨unH y≠k):qD6 X k w y v=31∧∀a b c d e f g i,hrX X k w y v a b c d e f g i=X:=⟨if_pos h,fun _ _ _ _ _ _ _ _=>if_pos h⟩
theorem qVS (h:¬(unX y≠0∨unH y≠k)) (hs:slX X k=none) (h20:X.l.length=20):qD6 X k w y v=52∧∀a b c d e f g i,hrX X k w y v a b c d e f g i=X:=by
 unfold qD6 hrX;simp only[if_neg h,hs,if_pos h20];exact⟨trivial,fun _ _ _ _ _ _ _ _=>trivial⟩
theorem qOa (h:¬(unX y≠0∨unH y≠k)) {x:qGx} {j:Nat} (hs:slX X k=some x) (hj:slI X k=some j):qD6 X k w y v=qAJ X.n X.s x.F w v∧∀a b c d e f g i,hrX X k w y v a b c d e f g i=hrO X j x w v ⟨a,y.wn,y.wn+b,y.wf⟩:=by
 unfold qD6 hrX;simp only[if_neg h,hs,hj];exact⟨trivial,fun _ _ _ _ _ _ _ _=>rfl⟩
theorem qVm (h:¬(unX y≠0∨unH y≠k)) (hs:slX X k=none) (h20:¬X.l.length=20) (hv:qAJ X.n X.s [] w v≠0):qD6 X k w y v=qAJ X.n X.s [] w v∧∀a b c d e f g i,hrX X k w y v a b c d e f g i=X:=by
 unfold qD6 hrX;simp only[if_neg h,hs,if_neg h20,if_neg hv];exact⟨trivial,fun _ _ _ _ _ _ _ _=>trivial⟩
theorem qQY (h:¬(unX y≠0∨unH y≠k)) (hs:slX X k=none) (h20:¬X.l.length=20) (hv:qAJ X.n X.s [] w v=0):qD6 X k w y v=0∧∀a b c d e f g i,hrX X k w y v a b c d e f g i=hrN X k w v ⟨a,y.wn,y.wn+b,y.wf⟩ c d e f g i:=by
 unfold qD6 hrX;simp only[if_neg h,hs,if_neg h20,hv,if_true];exact⟨trivial,fun _ _ _ _ _ _ _ _=>trivial⟩
end
def LtR (f g:Nat→UInt8):Prop:=∃i,i<32∧f i<g i∧∀j,j<i→f j=g j
theorem qRV {p:Nat→Bool}:∀{n i:Nat},(List.range n).find? p=some i→i<n∧p i=true∧∀j,j<i→p j=false
 |n,i,h=>by
  have h1:=List.mem_range.1 (List.mem_of_find?_eq_some h);refine⟨h1,List.find?_some h,fun j hj=>?_⟩
  obtain⟨l1,l2,e,hn⟩:=(List.find?_eq_some_iff_append.1 h).2;cases hp:p j with
  |false=>rfl
  |true=>
   exfalso;have hl:l1.length=i:=by
    have h2:(List.range n)[l1.length]?=some i:=by rw[e];simp
    rw[List.getElem?_range (by
     have:=(List.getElem?_eq_some_iff.1 h2).1;simpa using this)] at h2
    injection h2
   have hm:j∈l1:=by
    have h2:(List.range n)[j]?=some j:=List.getElem?_range (by omega)
    rw[e,List.getElem?_append_left (by omega)] at h2
    exact List.mem_of_getElem? h2
   have:=hn j hm;rw[hp] at this;cases this
def qZc {f g:Nat→UInt8}:qOk f g<0↔LtR f g:=by
 unfold qOk jDb;cases hf:(List.range 32).find? fun i=>f i !=g i with
 |none=>
  have hn:=List.find?_eq_none.1 hf;constructor
  ·intro h;simp at h
  ·rintro⟨i,h1,h2,_⟩
   have:=hn i (List.mem_range.2 h1);simp at this;rw[this] at h2;exact absurd h2 (UInt8.lt_irrefl _)
 |some i=>
  obtain⟨h1,h2,h3⟩:=qRV hf;have h3':∀j,j<i→f j=g j:=fun j hj=>by simpa using h3 j hj
  constructor
  ·intro h
   by_cases hl:f i<g i
   ·exact⟨i,h1,hl,h3'⟩
   ·simp[hl] at h
  ·rintro⟨k,k1,k2,k3⟩
   have hk:k=i:=by
    rcases Nat.lt_trichotomy k i with h|h|h
    ·rw[h3' k h] at k2;exact absurd k2 (UInt8.lt_irrefl _)
    ·exact h
    ·have:=k3 i h
     simp[this] at h2
   subst hk;simp[k2]
def LtR.trans {f g h:Nat→UInt8} (a:LtR f g) (b:LtR g h):LtR f h:=by
 obtain⟨i,i1,i2,i3⟩:=a;obtain⟨k,k1,k2,k3⟩:=b;rcases Nat.lt_trichotomy i k with e|e|e
 ·exact⟨i,i1,by rw[←k3 i e];exact i2,fun j hj=>(i3 j hj).trans (k3 j (by omega))⟩
 ·subst e;exact⟨i,i1,UInt8.lt_trans i2 k2,fun j hj=>(i3 j hj).trans (k3 j hj)⟩
 ·exact⟨k,k1,by rw[i3 k e];exact k2,fun j hj=>(i3 j (by omega)).trans (k3 j hj)⟩
def LtR.tri (f g:Nat→UInt8):LtR f g∨sR f g=true∨LtR g f:=by
 cases hf:(List.range 32).find? fun i=>f i !=g i with
 |none=>
  have hn:=List.find?_eq_none.1 hf;exact .inr (.inl (qG4.2 fun i hi=>by simpa using hn i (List.mem_range.2 hi)))
 |some i=>
  obtain⟨h1,h2,h3⟩:=qRV hf;have h3':∀j,j<i→f j=g j:=fun j hj=>by simpa using h3 j hj
  have hne:f i≠g i:=by simpa using h2
  rcases UInt8.lt_or_lt_of_ne hne with h|h
  ·exact .inl ⟨i,h1,h,h3'⟩
  ·exact .inr (.inr ⟨i,h1,h,fun j hj=>(h3' j hj).symm⟩)
def LtR.not_ge {f g h:Nat→UInt8} (a:LtR f g) (b:¬LtR h g):¬LtR h f:=fun c=>b (c.trans a)
section
variable {s:Nat→UInt64} {n:Nat} {F:Fst} {B:List ((Nat→UInt8)×BytL)}
def thB (s:Nat→UInt64) (n:Nat) (F:Fst) (B:List ((Nat→UInt8)×BytL)) (i:Nat):Bool:=qF1 (forV s F (nmB B i)) (qBM s n).a
theorem qNY (o:List Nat) (i:Nat):qIy s n F B (o++[i])=qSZ s n F (qIy s n F B o) (nmB B i):=by unfold qIy;rw[List.foldl_append];rfl
def IsL (s:Nat→UInt64) (n:Nat) (F:Fst) (B:List ((Nat→UInt8)×BytL)) (o:List Nat) (m:(Nat→UInt8)×Bool):Prop:=
 (m=(fun _=>0,false)∧∀j∈o,thB s n F B j=false)∨(m.2=true∧∃i∈o,thB s n F B i=true∧m.1=nmB B i∧∀j∈o,thB s n F B j=true→¬LtR (nmB B j) (nmB B i))
theorem IsL.step {o:List Nat} {m:(Nat→UInt8)×Bool} (h:IsL s n F B o m) (k:Nat):IsL s n F B (o++[k]) (qSZ s n F m (nmB B k)):=by
 cases ht:thB s n F B k with
 |false=>
  have e:qSZ s n F m (nmB B k)=m:=by
   unfold qSZ;rw[show qF1 (forV s F (nmB B k)) (qBM s n).a=false from ht];rfl
  rw[e];rcases h with⟨h1,h2⟩|⟨h1,i,hi,h3,h4,h5⟩
  ·refine .inl ⟨h1,fun j hj=>?_⟩
   rcases List.mem_append.1 hj with hj|hj
   ·exact h2 j hj
   ·simp at hj;subst hj;exact ht
  ·refine .inr ⟨h1,i,by simp[hi],h3,h4,fun j hj hjt=>?_⟩
   rcases List.mem_append.1 hj with hj|hj
   ·exact h5 j hj hjt
   ·simp at hj;subst hj;rw[ht] at hjt;cases hjt
 |true=>
  have e:qSZ s n F m (nmB B k)=if m.2=true∧¬qOk (nmB B k) m.1<0 then m else(nmB B k,true):=by
   unfold qSZ;rw[show qF1 (forV s F (nmB B k)) (qBM s n).a=true from ht];cases h2:m.2 with
   |false=>simp[qA0]
   |true=>
    by_cases hl:qOk (nmB B k) m.1<0
    ·simp[qA0,hl]
    ·simp[qA0,hl]
  rw[e];rcases h with⟨h1,h2⟩|⟨h1,i,hi,h3,h4,h5⟩
  ·rw[if_neg (fun z=>by rw[h1] at z;cases z.1)]
   refine .inr ⟨rfl,k,by simp,ht,rfl,fun j hj hjt=>?_⟩
   rcases List.mem_append.1 hj with hj|hj
   ·rw[h2 j hj] at hjt;cases hjt
   ·simp at hj;subst hj
    exact fun⟨i,_,h,_⟩=>UInt8.lt_irrefl _ h
  ·by_cases hc:qOk (nmB B k) m.1<0
   ·have hl:=qZc.1 hc
    rw[if_neg (fun z=>z.2 hc)]
    refine .inr ⟨rfl,k,by simp,ht,rfl,fun j hj hjt=>?_⟩
    rcases List.mem_append.1 hj with hj|hj
    ·rw[h4] at hl;exact hl.not_ge (h5 j hj hjt)
    ·simp at hj;subst hj
     exact fun⟨i,_,h,_⟩=>UInt8.lt_irrefl _ h
   ·have hl:¬LtR (nmB B k) m.1:=fun z=>hc (qZc.2 z)
    rw[if_pos ⟨h1,hc⟩];refine .inr ⟨h1,i,by simp[hi],h3,h4,fun j hj hjt=>?_⟩
    rcases List.mem_append.1 hj with hj|hj
    ·exact h5 j hj hjt
    ·simp at hj;subst hj;rw[←h4];exact hl
theorem qUS (o:List Nat):IsL s n F B o (qIy s n F B o):=by
 have:∀(o1 o:List Nat),IsL s n F B o (qIy s n F B o)→IsL s n F B (o++o1) (qIy s n F B (o++o1)):=by
  intro o1;induction o1 with
  |nil=>intro o h;simpa using h
  |cons j o1 ih=>
   intro o h;rw[show o++j::o1=(o++[j])++o1 by simp]
   refine ih (o++[j]) ?_;rw[qNY];exact h.step j
 simpa using this o [] (.inl ⟨rfl,fun j hj=>by cases hj⟩)
theorem jBH {o:List Nat} (h:qTn B.length o):(qIy s n F B o).2=(qFx s n F B).2∧sR (qIy s n F B o).1 (qFx s n F B).1=true:=by
 have h1:=qUS (s:=s) (n:=n) (F:=F) (B:=B) o;have h2:=qUS (s:=s) (n:=n) (F:=F) (B:=B) (List.range B.length);have hm:∀j,j∈o↔j∈List.range B.length:=fun j=>by rw[h.mem,List.mem_range]
 change IsL s n F B (List.range B.length) (qFx s n F B) at h2;rcases h1 with⟨a1,a2⟩|⟨a1,i,hi,a3,a4,a5⟩
 ·rcases h2 with⟨b1,_⟩|⟨_,k,hk,b3,_,_⟩
  ·rw[a1,b1];exact⟨rfl,qEu _⟩
  ·rw[a2 k ((hm k).2 hk)] at b3;cases b3
 ·rcases h2 with⟨_,b2⟩|⟨b1,k,hk,b3,b4,b5⟩
  ·rw[b2 i ((hm i).1 hi)] at a3;cases a3
  ·refine⟨a1.trans b1.symm,?_⟩
   rw[a4,b4];rcases LtR.tri (nmB B i) (nmB B k) with h|h|h
   ·exact absurd h (b5 i ((hm i).1 hi) a3)
   ·exact h
   ·exact absurd h (a5 k ((hm k).2 hk) b3)
theorem qVi (h:(qFx s n F B).2=true):∃i,i<B.length∧thB s n F B i=true∧(qFx s n F B).1=nmB B i:=by
 rcases qUS (s:=s) (n:=n) (F:=F) (B:=B) (List.range B.length) with⟨a1,_⟩|⟨_,i,hi,a3,a4,_⟩
 ·change qFx s n F B=_ at a1;rw[a1] at h;cases h
 ·exact⟨i,List.mem_range.1 hi,a3,a4⟩
end
end Go.Eng
namespace Go.Eng
section
variable {s:Nat→UInt64} {n:Nat} {F:Fst} {B:List ((Nat→UInt8)×BytL)} {o:List Nat} {j:Nat} {m:Nat→UInt8} {f:Bool}
theorem qRR (h1:m=(qIy s n F B o).1) (h2:f=(qIy s n F B o).2) (h:qA0 (qF1 (forV s F (nmB B j)) (qBM s n).a) (qA0 (!f) true (decide (qOk (nmB B j) m<0))) false=true):
  nmB B j=(qIy s n F B (o++[j])).1∧true=(qIy s n F B (o++[j])).2:=by
 rw[qNY];unfold qSZ;rw[←h1,←h2,if_pos h];exact⟨rfl,rfl⟩
theorem qUa (h1:m=(qIy s n F B o).1) (h2:f=(qIy s n F B o).2) (h:qA0 (qF1 (forV s F (nmB B j)) (qBM s n).a) (qA0 (!f) true (decide (qOk (nmB B j) m<0))) false=false):
  m=(qIy s n F B (o++[j])).1∧f=(qIy s n F B (o++[j])).2:=by
 rw[qNY];unfold qSZ;rw[←h1,←h2,if_neg (by rw[h];decide)];exact⟨h1,h2⟩
theorem jCU {f g:Nat→UInt8} (h:sR f g=true):(qDs 32 fun k=>u8 (f k))=qDs 32 fun k=>u8 (g k):=by
 unfold qDs;rw[List.map_congr_left fun k hk=>by rw[qG4.1 h k (List.mem_range.1 hk)]]
theorem jAL (ho:OrdN B.length o) (hu:qBs o B.length=false) (h1:m=(qIy s n F B o).1) (h2:f=(qIy s n F B o).2):f=(qFx s n F B).2∧(qDs 32 fun k=>u8 (m k))=qDs 32 fun k=>u8 ((qFx s n F B).1 k):=by
 obtain⟨a,b⟩:=jBH (s:=s) (n:=n) (F:=F) (B:=B) (o:=o) ⟨ho,hu⟩;rw[h1,h2];exact⟨a,jCU b⟩
end
end Go.Eng
end
section
namespace Go.Proofs.YtmdpendnbkajdaaGreatDoor
open Go Go.Eng
def qQw {D:List Nat} {l:List (UInt64×CV)} {k:UInt64} (h:qDE eqW k D l=none):(Value.tuple #[clV ((qDE eqW k D l).getD none),.bool (qDE eqW k D l).isSome])=.tuple #[.agg #[.pointer none,.map none],.bool false]:=by rw[h];rfl
def qXH {D:List Nat} {l:List (UInt64×CV)} {k:UInt64} (h:qDE eqW k D l=none):clV ((qDE eqW k D l).getD none)=.agg #[.pointer none,.map none]:=by rw[h];rfl
def qRA {D:List Nat} {l:List (UInt64×CV)} {k:UInt64} {t b:Nat} (h:qDE eqW k D l=some (some (t,b))):(Value.tuple #[clV ((qDE eqW k D l).getD none),.bool (qDE eqW k D l).isSome])=.tuple #[.agg #[ptr t 0,.map (some b)],.bool true]:=by rw[h];rfl
def qVL {D:List Nat} {l:List (UInt64×CV)} {k:UInt64} {t b:Nat} (h:qDE eqW k D l=some (some (t,b))):clV ((qDE eqW k D l).getD none)=.agg #[ptr t 0,.map (some b)]:=by rw[h];rfl
def jB3:MapT TP 66 48 29 qDf qA3 (qAf none 0) sR:=qWR (by kernel_rfl) (by kernel_rfl:Tryz.prog.underlying 48=some (.array 32 5)) (by kernel_rfl) (by kernel_rfl) fun w=>qAW (show qAb TP (zeroValue 29)=some (qA3 (qAf none 0)) by kernel_rfl) w
def qN1:qZ5 TP 59 23 68 u64 clV none eqW:=qW7 (by kernel_rfl) (by kernel_rfl) fun w=>qAW (show qAb TP (zeroValue 68)=some (clV none) by kernel_rfl) w
def jGv:∀args w,(callFunc 49 args).run TP w=(do pure (Next.value (←Extern.BytealgCompare.compare args)):Sem Next).run TP w:=fun args w=>by kernel_rfl
def v3V(f:Nat→UInt8):=qDs 32 (fun k=>u8 (f k))
def v3W(g:Nat→UInt8):=qDs 32 (fun k=>u8 (g k))
def qXW (a b:Nat) (f g:Nat→UInt8):qBI TP 29 [(Value.slice (some ⟨a,0,none⟩) 32 32),(Value.slice (some ⟨b,0,none⟩) 32 32)] [⟨a,false,0,(qDs 32 (fun k=>u8 (f k)))⟩,⟨b,false,0,(qDs 32 (fun k=>u8 (g k)))⟩] 0 (fun _=>int (qOk f g)) (fun _=>[some ⟨a,false,0,(qDs 32 (fun k=>u8 (f k)))⟩,some ⟨b,false,0,(qDs 32 (fun k=>u8 (g k)))⟩]):=
 qAl mix Tryz.func29 rfl rfl 400 (.reg (rg [.g]) (.reg (rg [.g,.g,(.oth [(0,true),(1,true)] 0 0 (fun _=>(int (qOk f g))) (fun _=>[none,none])),.g]) .done)) [] [] rfl
  (Eq.mp (by kernel_rfl) (aI kV1 (aI (sK2 (aI (aT (qXS (P:=TP) (fid:=49) jGv a b 32 32 32 f g (v3V f) (v3W g) (fun i hi=>qTs hi) (fun i hi=>qTs hi))) kV1)) (aT (eX (fun(ns:List Nat)=>ns.length=0∧((int (qOk f g)):Value)=(fun _=>int (qOk f g)) ns∧([some ⟨a,false,0,(v3V f)⟩,some ⟨b,false,0,(v3W g)⟩]:List (Option Blk))=(fun _=>[some ⟨a,false,0,(v3V f)⟩,some ⟨b,false,0,(v3W g)⟩]) ns) [] (aI v0b (aI (@rfl Value (int (qOk f g))) (@rfl (List (Option Blk)) [some ⟨a,false,0,(v3V f)⟩,some ⟨b,false,0,(v3W g)⟩]))))))))
def qK8 (q:BytL) (hq:OkB q) (hl:q.wn≤140737488355328):qAc (qBi q) TP 19 [qA3 q] [] 2 (fun ns=>gsV (clG q (ns.getD 0 0) (ns.getD 1 0))) (fun ns=>[grO u8 (u8 0) (clG q (ns.getD 0 0) (ns.getD 1 0))]):=by
 rcases Nat.eq_zero_or_pos q.wn with h0|h0
 ·cases ha:q.wa with
  |none=>
   have e:qA3 q=.slice none 0 q.wc:=by unfold qA3;rw[ha,h0]
   rw[e];refine(qHf q.wc).toF.toO.pad0 [0,0] rfl ?_ ?_
   ·show gsV (clG q 0 0)=_
    unfold clG;rw[ha,h0]<;>rfl
   ·intro p b hb
    rw[show grO u8 (u8 0) (clG q _ _)=none from by unfold clG;rw[ha]<;>rfl] at hb
    rcases p with _ |p<;>simp[lM] at hb
  |some A=>
   have e:qA3 q=.slice (some A) 0 q.wc:=by unfold qA3;rw[ha,h0]
   rw[e];refine(qJQ A q.wc).toF.toO.pad1 (fun a=>?_) (fun a=>?_)
   ·show gsV (clG q a 0)=_
    unfold clG;rw[ha,h0]<;>rfl
   ·show[grO u8 (u8 0) (clG q a 0)]=_
    unfold clG;rw[ha,h0];show[some (⟨a,true,0,spr (0+0) 0 (fun k=>u8 (q.wf k)) (u8 0)⟩:Blk)]=[some ⟨a,true,0,spr (0+0) 0 (fun k=>u8 ((fun _=>0) k)) (u8 0)⟩]
    rw[qRs (fun k hk=>absurd hk (by omega))]
 ·have ha:=hq.ad h0
  have e:qA3 q=.slice (some ⟨q.wb,q.wo,none⟩) q.wn q.wc:=by unfold qA3;rw[ha]
  have h:=qL8 q.wb q.wo q.wn q.wc q.wf h0 hl;simp only[Nat.zero_add,qVJ] at h;rw[e];have h2:=(h.famN (F:=qBi q) ⟨h0,rfl⟩).toO;have e2:∀a r,clG q a r=⟨false,a,q.wn,r,q.wf⟩:=fun a r=>by unfold clG;rw[ha]<;>rfl
  simp only[e2];exact h2
def jBY (q:BytL) (hq:OkB q) (hl:q.wn≤140737488355328):qAc (qBi q) TP 19 [qA3 q] [] 2 (fun ns=>gsV (clG q (ns.getD 0 0) (ns.getD 1 0))) (fun ns=>[gsE u8C [u8 0] 1 (clG q (ns.getD 0 0) (ns.getD 1 0))]):=by
 have h:=qK8 q hq hl;simp only[←qMu] at h;exact h
end Go.Proofs.YtmdpendnbkajdaaGreatDoor
end
section
namespace Go.Eng
open Go.RowKit Go.WideShapes Go.ChangeShapes Go.ChangeAt Go.Deep
structure qGN (X:ChR):Prop where
 good:0<X.n∧X.n≤40∧qLy X.s X.n<2^63
 len:X.l.length≤20
 keys:(X.l.map qGx.key).Nodup
 vok:∀x∈X.l,VOk X.n X.s x.F
 blen:∀x∈X.l,x.B.length≤x.F.length
 kd:∀x∈X.l,KD sR x.B
 row:∀x∈X.l,∀e∈x.B,∃y∈X.R,e.2=qCP y
 rlen:∀y∈X.R,y.n≤3000∧y.n≤y.c
def jC7 (R:List RwP) (z:Blk):Prop:=∃y∈R,qBi (qCP y) z
section
variable {X:ChR} {x:qGx}
theorem qGN.look (h:qGN X) (hx:x∈X.l) (v:Nat→UInt8):(qAs sR v x.B).getD (qAf none 0)=qAf none 0∨∃y∈X.R,(qAs sR v x.B).getD (qAf none 0)=qCP y:=by
 cases hf:qAs sR v x.B with
 |none=>exact .inl rfl
 |some b=>
  obtain⟨e,he,_,rfl⟩:=qRy qIk hf;exact .inr (h.row x hx e he)
theorem qGN.look_ok (h:qGN X) (hx:x∈X.l) (v:Nat→UInt8):OkB ((qAs sR v x.B).getD (qAf none 0))∧((qAs sR v x.B).getD (qAf none 0)).wn≤3000∧∀z,qBi ((qAs sR v x.B).getD (qAf none 0)) z→jC7 X.R z:=by
 rcases h.look hx v with e|⟨y,hy,e⟩
 ·rw[e];exact⟨qG2,Nat.zero_le _,fun z hz=>absurd hz.1 (Nat.lt_irrefl 0)⟩
 ·rw[e];exact⟨qFo (h.rlen y hy).2 (Nat.le_trans (h.rlen y hy).1 (by decide)),(h.rlen y hy).1,fun z hz=>⟨y,hy,hz⟩⟩
theorem qGN.b40 (h:qGN X) (hx:x∈X.l):x.B.length≤40:=Nat.le_trans (h.blen x hx) (h.vok x hx).len
end
def qYb {R:List RwP} (hR:∀y∈R,y.n≤y.c) {q:Nat} {ow:Bool} {w:World} (hb:∀b,roO (some (lpB q ow (R.map qJh)))=some b→qAn b w):qCM (jC7 R) w:=fun z ⟨y,hy,hz⟩=>by
 obtain⟨j,hj⟩:=List.getElem?_of_mem hy;have hp:(R.map qJh)[j]?=some (qJh y):=by rw[List.getElem?_map,hj];rfl
 have h1:=qZS hp hb;have h2:qAn ⟨y.nm,false,0,spr y.c y.n (fun k=>u8 (y.f k)) (u8 0)⟩ w:=h1
 have h3:=hR y hy;obtain⟨r,hr⟩:∃r,y.c=y.n+r:=⟨y.c-y.n,by omega⟩
 rw[hr] at h2;exact qD7 (qBw h2) z hz
def qX6 {R:List RwP} {q:Nat} {ow:Bool} {z:Blk} (h:jC7 R z) {j:Nat} (hj:z.has j):(lpB q ow (R.map qJh)).has j:=by
 obtain⟨y,hy,h0,rfl⟩:=h;obtain⟨i,hi⟩:=List.getElem?_of_mem hy;have hp:(R.map qJh)[i]?=some (qJh y):=by rw[List.getElem?_map,hi];rfl
 have:y.nm=j:=(qBB (b:=qJz (qCP y)) rfl).1 hj
 exact qEP.2 ⟨i,qJh y,hp,this⟩
def qAc.lendR {F':Blk→Prop} {P:Program} {f:FuncId} {args:List Value} {bs:List (Option Blk)} {k:Nat} {v:List Nat→Value} {o nw:List Nat→List (Option Blk)} {R:List RwP} (hR:∀y∈R,y.n≤y.c) {q:Nat} (h:qAc (jC7 R) P f args bs k v (fun ns=>o ns++nw ns)) (ho:∀ns,(o ns).length=bs.length):
  qAc F' P f args (bs++[roO (lpO q (R.map qJh))]) k v (fun ns=>o ns++(none::nw ns)):=
 qAc.lendQ (F':=F') (cs:=[roO (lpO q (R.map qJh))]) h ho (fun w _ hb=>qYb hR (q:=q) (ow:=true) fun b hb0=>hb b (List.mem_singleton.2 hb0.symm)) fun z hz j hj=>.inr ⟨lpB q false (R.map qJh),List.mem_singleton.2 rfl,qX6 hz hj⟩
def qTN (n:Nat) (s:Nat→UInt64) (x:qGx):∀o v,(qAL.lit (qV6 n s x)).get o=some v↔(qJi n s x).2.cont.get o=some v:=fun o v=>by
 show(qV6 n s x)[o]?=some v↔(if o<4*1 then([(qV6 n s x).getD (o/1) (.bool false)]:List Value)[o%1]?else none)=some v
 by_cases h:o<4
 ·rw[if_pos (by omega),Nat.div_one,Nat.mod_one]
  have hl:o<(qV6 n s x).length:=h;rw[List.getElem?_eq_getElem hl];simp[List.getD_eq_getElem?_getD,List.getElem?_eq_getElem hl]
 ·rw[if_neg (by omega)]
  have hl:(qV6 n s x).length≤o:=by show 4≤o;omega
  rw[List.getElem?_eq_none hl]
def qQm {ow:Bool} (n:Nat) (s:Nat→UInt64) (x:qGx) {l l':List (Option Blk)} (h:Sub l l'):Sub (some ⟨x.t,ow,0,.lit (qV6 n s x)⟩::l) (some (qCD ow (qJi n s x))::l'):=
 .kp _ _ (qAn.retab (b:=qCD ow (qJi n s x)) (c:=.lit (qV6 n s x)) rfl rfl fun o v ho=>(qTN n s x o v).1 ho) h
def jBe {ow:Bool} (n:Nat) (s:Nat→UInt64) (x:qGx) {l l':List (Option Blk)} (h:Sub l l'):Sub (some (qCD ow (qJi n s x))::l) (some ⟨x.t,ow,0,.lit (qV6 n s x)⟩::l'):=
 .kp _ _ (qAn.retab (b:=⟨x.t,ow,0,.lit (qV6 n s x)⟩) (c:=(qJi n s x).2.cont) rfl rfl fun o v ho=>(qTN n s x o v).2 ho) h
def chN (n:Nat) (f:Nat→UInt64) (p sp sr h:Nat):ChR:=⟨p,h,sp,sr,n,f,[],[],[]⟩
def qYL {n:Nat} {f:Nat→UInt64} (h0:0<n) (hg:qJJ n f) (p sp sr h:Nat):qGN (chN n f p sp sr h) where
 good:=⟨h0,(qGM.1 hg).1,(qGM.1 hg).2⟩
 len:=Nat.zero_le _
 keys:=List.nodup_nil
 vok:=fun x hx=>by cases hx
 blen:=fun x hx=>by cases hx
 kd:=fun x hx=>by cases hx
 row:=fun x hx=>by cases hx
 rlen:=fun y hy=>by cases hy
end Go.Eng
namespace Go.Eng
def qWv {l:List (UInt64×CV)} {k:UInt64} {v:CV}:qAs eqW k l=some v→qCw eqW k v l=l:=by
 induction l with
 |nil=>intro h;cases h
 |cons z l ih=>
  obtain⟨a,b⟩:=z;intro h;simp only[qAs] at h;simp only[qCw];by_cases e:eqW k a=true
  ·rw[if_pos e] at h ⊢
   injection h with h;rw[h,qH3.1 e]
  ·rw[if_neg e] at h ⊢
   rw[ih h]
def qMb {β:Type} (k:UInt64) (l:List (UInt64×β)):qDE eqW k [] l=qAs eqW k l:=by
 have:∀(l:List (UInt64×β)) (i q:Nat),(qGd eqW k [] l i q).map (fun p=>p.2.2)=qAs eqW k l:=fun l=>by
  induction l with
  |nil=>intro i q;rfl
  |cons z l ih=>
   obtain⟨a,b⟩:=z;intro i q;simp only[qGd,qAs];rw[if_neg (by simp)]
   by_cases e:eqW k a=true
   ·rw[if_pos e,if_pos e];rfl
   ·rw[if_neg e,if_neg e];exact ih (i+1) (q+1)
 exact this l 0 0
def qXk (n:Nat):qBn [] n=n:=by
 unfold qBn;have e:(List.range n).filter (fun i=>!([]:List Nat).contains i)=List.range n:=List.filter_eq_self.2 fun i _=>rfl
 rw[e,List.length_range]
def qOD {P:Program} {mt kt et:TypeId} (M:qZ5 P mt kt et u64 clV none eqW) (b:Nat) (l:List (UInt64×CV)) (k:UInt64) (x:CV) {l':List (UInt64×CV)} (h:qCw eqW k x l=l'):
  qAu P (qUO mt (.map (some b)) (u64 k) (clV x)) [⟨b,true,0,qA9 u64 clV [] l⟩] 0 (fun _=>undef) (fun _=>[some ⟨b,true,0,qA9 u64 clV [] l'⟩]):=by
 subst h;rw[qQS,qQS];exact qHn M.toMapT b l k x
def qI2 {P:Program} {mt kt et:TypeId} (hm:P.underlying mt=some (.map kt et)) (ty b:Nat) (own:Bool) (l:List (UInt64×CV)):
  qAu P (qY4 mt ty (.map (some b))) [⟨b,own,0,qA9 u64 clV [] l⟩] 0 (fun _=>nat l.length) (fun _=>[none]):=by
 have h:=qPa (P:=P) (kv:=u64) (ev:=clV) hm ty b own [] l;rw[qXk] at h;exact h
end Go.Eng
namespace Go.Eng
def jFK {a:Int} {b k:UInt64} (h:a≠0∨b≠k):qA0 (a !=0) true (!(b==k))=true:=by
 rw[qCL];rcases h with h|h
 ·simp[h]
 ·simp[h]
def qT6 {a:Int} {b k:UInt64} (h:¬(a≠0∨b≠k)):qA0 (a !=0) true (!(b==k))=false:=by
 rw[qCL];have h1:a=0:=Decidable.byContradiction fun z=>h (.inl z)
 have h2:b=k:=Decidable.byContradiction fun z=>h (.inr z)
 simp[h1,h2]
end Go.Eng
namespace Go.Eng
def jF3 {e:Int} (h:e≠0):(e !=0)=true:=by simpa using h
def jF0 {e:Int} (h:e=0):(e !=0)=false:=by simpa using h
end Go.Eng
namespace Go.Eng
def qAu.beside {P:Program} {s:Sem Next} {a b:Blk} {k:Nat} {v:List Nat→Value} {o:List Nat→Option Blk} (h:qAu P s [a] k v (fun ns=>[o ns])):qAu P s [a,b] k v (fun ns=>[o ns,none]):=by
 intro w hall ha;have h0:∀p x,lM ([a].map some) p=some x→p=0∧x=a:=fun p x hx=>by
  rcases p with _ |p
  ·injection hx with hx;exact⟨rfl,hx.symm⟩
  ·simp[lM] at hx
 obtain⟨ns,w',h1,h2,h3⟩:=h w (fun x hx=>by rw[List.mem_singleton.1 hx];exact hall _ (List.mem_cons_self ..)) (fun p q x y hpq hp hq=>by
  obtain⟨e1,_⟩:=h0 p x hp;obtain⟨e2,_⟩:=h0 q y hq;omega)
 have hown:∀k,qDr (lM ([a].map some)) k→qDr (lM ([a,b].map some)) k:=fun k ⟨p,x,hp,ho,hk⟩=>by
  obtain⟨_,rfl⟩:=h0 p x hp;exact⟨0,_,rfl,ho,hk⟩
 have hn:∀p x,lM [o ns,none] p=some x→p=0∧lM [o ns] 0=some x:=fun p x hx=>by
  rcases p with _ | _ |p
  ·exact⟨rfl,hx⟩
  ·simp[lM] at hx
  ·simp[lM] at hx
 refine⟨ns,w',h1,h2,fun p x hx=>h3.holds 0 x (hn p x hx).2,fun p q x y hpq hp hq=>?_,⟨h3.adv.os,h3.adv.output,h3.adv.tape,h3.adv.size,fun i hi hno=>h3.adv.heap i hi fun z=>hno (hown i z),fun i ⟨p,x,hp,ho,hk⟩=>?_,fun p x hp ho=>?_⟩⟩
 ·have e1:=(hn p x hp).1
  have e2:=(hn q y hq).1;omega
 ·rcases h3.adv.names i ⟨0,x,(hn p x hp).2,ho,hk⟩ with h5|h5
  ·exact .inl (hown i h5)
  ·exact .inr h5
 ·obtain⟨e,h5⟩:=hn p x hp
  subst e;have:=(h0 0 x (h3.adv.ro 0 x h5 ho)).2;subst this;rfl
end Go.Eng
end
section
namespace Go.Proofs.YtmdpendnbkajdaaGreatDoor
open Go Go.Eng
def v72:H:=.reg v00 (.yes v6e)
def jDc (ao:Option Addr) (c:Nat):qBI TP 9 [(Value.slice ao 0 c)] [] 0 (fun _=>Value.tuple #[.pointer none,int 2]) (fun _=>[]):=
 qAl mix Tryz.func9 rfl rfl 400 (.reg v00 (.reg (rg [.g,(.call [] 0 0 (fun _=>v1Q) (fun _=>[])),.g,.g,.g,.g,.g]) v72)) [] [] rfl
  (Eq.mp (by kernel_rfl) (aI kV2 (aI (sk (aI (aT (jDv ao c)) (sk kV4))) (aI kV2 (aT (aI v01 (aI kV3 v65)))))))
def v46:=qA9 u64 clV [] ([])
def qXB (p o n c:Nat) (f:Nat→UInt64) (hp:0<n) (hg:qJJ n f):qBI TP 9 [(Value.slice (some ⟨p,o,none⟩) n c)] [⟨p,false,o,(qAd n (fun k=>u64 (f k)))⟩] 4 (fun ns=>(Value.tuple #[(ptr (ns.getD 0 0) 0),(int 0)])) (fun ns=>[some ⟨p,false,o,(qAd n (fun k=>u64 (f k)))⟩,some ⟨(ns.getD 0 0),true,0,(.lit [(Value.slice (some ⟨(ns.getD 1 0),0,none⟩) n (n+(ns.getD 2 0))),(Value.map (some (ns.getD 3 0)))])⟩,some ⟨(ns.getD 1 0),true,0,(qAd n (fun k=>u64 (f k)))⟩,some ⟨(ns.getD 3 0),true,0,(qA9 u64 clV [] ([]))⟩]):=
 qAl mix Tryz.func9 rfl rfl 400 (.reg v00 (.regn (rg [.g,(.callO [(0,true)] 5 4 (fun ns=>vT #[ptr (g0 ns) 0,int 0]) (fun ns=>[none,some ⟨(g0 ns),true,0,(.lit [(vS (some ⟨(g1 ns),0,none⟩) n (n+(g2 ns))),(u64 (qBM f n).a),(vM (some (g3 ns))),(vM (some (g4 ns)))])⟩,some ⟨(g1 ns),true,0,(v0q n f)⟩,some ⟨(g3 ns),true,0,v4c⟩,some ⟨(g4 ns),true,0,v4d⟩])),.g,.g,.g,.g,.g]) (m5 fun n1 n2 n3 n4 n5=>(.reg v00 (.no (.regn (rg [.g,(v6f n f),(.oth [] 1 1 (fun ns=>vM (some (g0 ns))) (fun ns=>[some ⟨ns.getD 0 0,true,0,qA9 u64 clV [] []⟩])),.g,.new,.g,.g]) (m4 fun n6 n7 n8 n9=>.done))))))) [] [7,5,6] rfl
  (have f1:=hg.1;Eq.mp (by kernel_rfl) (aI kV2 (fun(n1 n2 n3 n4 n5:Nat)=>aI (sk (aI (aT (qAc.darkV (F:=(fun _=>False)) [true] (qLA p o n c f (show 0<n from by omega) hg).toO)) (sk kV4))) (aI kV2 (aT (aI v05 (fun(n6 n7 n8 n9:Nat)=>aI (sk (aI (aT (qBI.dark [true] (qKZ p o n c f (show 0<n∧n≤40 from by omega)))) (aI (aT (qHu (P:=TP) (kv:=u64) (ev:=clV) 59)) kV4))) (aT (eX (fun(ns:List Nat)=>ns.length=4∧((vT #[(ptr n9 0),(int 0)]):Value)=(fun ns=>(vT #[(ptr (g0 ns) 0),(int 0)])) ns∧([some ⟨p,false,o,(v0q n f)⟩,some ⟨n9,true,0,(.lit [(vS (some ⟨n6,0,none⟩) n (n+n7)),(vM (some n8))])⟩,some ⟨n6,true,0,(v0q n f)⟩,some ⟨n8,true,0,v46⟩]:List (Option Blk))=(fun ns=>[some ⟨p,false,o,(v0q n f)⟩,some ⟨(g0 ns),true,0,(.lit [(vS (some ⟨(g1 ns),0,none⟩) n (n+(g2 ns))),(vM (some (g3 ns)))])⟩,some ⟨(g1 ns),true,0,(v0q n f)⟩,some ⟨(g3 ns),true,0,v46⟩]) ns) [n9,n6,n7,n8] (aI v3t (aI (@rfl Value (vT #[(ptr n9 0),(int 0)])) (@rfl (List (Option Blk)) [some ⟨p,false,o,(v0q n f)⟩,some ⟨n9,true,0,(.lit [(vS (some ⟨n6,0,none⟩) n (n+n7)),(vM (some n8))])⟩,some ⟨n6,true,0,(v0q n f)⟩,some ⟨n8,true,0,v46⟩]))))))))))))
def qYX {F:Blk→Prop} (p o n c:Nat) (f:Nat→UInt64) (hp:0<n) (hg:qJJ n f):qAc F TP 9 [.slice (some ⟨p,o,none⟩) n c] [some ⟨p,false,o,qAd n fun k=>u64 (f k)⟩] 4 (fun ns=>.tuple #[ptr (ns.getD 0 0) 0,int 0]) (fun ns=>none::chO (chN n f (ns.getD 0 0) (ns.getD 1 0) (ns.getD 2 0) (ns.getD 3 0))):=by
 have h0:=qAc.darkO [true] (qXB p o n c f hp hg).toO (F:=F);have h1:=qAc.pile0 (q:=fun ns=>ns.getD 0 0) h0 fun ns=>⟨1,_,rfl,rfl⟩
 have h2:=qAc.pile0 (q:=fun ns=>ns.getD 0 0) h1 fun ns=>⟨1,_,rfl,rfl⟩
 have h3:=qAc.pile0 (q:=fun ns=>ns.getD 0 0) h2 fun ns=>⟨1,_,rfl,rfl⟩
 have h4:=qAc.pile0 (q:=fun ns=>ns.getD 0 0) h3 fun ns=>⟨1,_,rfl,rfl⟩
 have h5:=qAc.pile0 (q:=fun ns=>ns.getD 0 0) h4 fun ns=>⟨1,_,rfl,rfl⟩
 exact qAc.pile0 (q:=fun ns=>ns.getD 0 0) h5 fun ns=>⟨1,_,rfl,rfl⟩
abbrev qQD (a:Nat→UInt64) (b:Fst) (c:Bks) (d:List Nat) (e f:Nat):=qF1 (forV a b ((qBp rB0 c (pk d c.length e)).1)) (qBM a f).a
abbrev qON (a:Nat):=Value.map (some a)
abbrev qUU (a:Bks) (b:List Nat) (c:Nat):=qBp rB0 a (pk b a.length c)
abbrev jEt (a:Nat→UInt64) (b:Nat) (c:Fst) (d:Bks) (e:List Nat):=clG ((qAs sR ((qFx a b c d).1) d).getD (qAf none 0)) (e.getD 0 0) (e.getD 1 0)
def v1Z(p:Nat):=aT (ad p 1)
def jFG (p h:Nat) (v0:Value) (D:List Nat) (l:List (UInt64×CV)) (k:UInt64) (hs:qDE eqW k D l=none):qBI TP 14 [(ptr p 0),(u64 k)] [⟨p,false,0,(.lit [v0,(Value.map (some h))])⟩,⟨h,false,0,(qA9 u64 clV D l)⟩] 0 (fun _=>Value.tuple #[.slice none 0 0,.bool false]) (fun _=>[some ⟨p,false,0,(.lit [v0,(Value.map (some h))])⟩,some ⟨h,false,0,(qA9 u64 clV D l)⟩]):=
 qAl mix Tryz.func14 rfl rfl 400 (.reg v00 (.regn (rg [.g,.g,.g,v0o,.g,(.oth [(1,true)] 0 0 (fun _=>(Value.agg #[(Value.pointer none),(vM none)])) (fun _=>[none])),.new,v1V]) (more (fun n1=>fun _=>(.regn v1f (more (fun n2=>fun _=>(.reg (rg [.g]) (.regn (rg [.g,(.ld 2 (.lit 1)),(.oth [] 1 1 (fun ns=>ptr (g0 ns) 0) (fun ns=>[some ⟨ns.getD 0 0,true,0,jFm ()⟩]))]) (more (fun n3=>fun _=>(.unroll (.reg (rg [(.oth [(4,true)] 0 0 (fun _=>vT #[.bool false]) (fun _=>[none])),.g]) (.no (.reg (rg [.g,(.ld 2 (.lit 1)),v2f,(.oth [] 0 0 (fun _=>v1l) (fun _=>[])),v6q,.g,.g,.g]) .done))))))))))))))) [] [] rfl
  (Eq.mp (by kernel_rfl) (aI kV2 (fun(n1:Nat)=>aI (sK3 (aI (v1Z p) (sk (aI (aT (qAu.valE (qL6 (P:=TP) qN1 h false D l k) (qXH hs))) (sk (v6d n1)))))) (fun(n2:Nat)=>aI kV1 (aI kV1 (fun(n3:Nat)=>aI (sk (aI (v1U n1) (aI (aT (qTx (P:=TP) (mt:=66) jB3.hm)) tV))) (aI (aI (aT (qVw (P:=TP) 0 n3 false)) kV1) (aT (aI v05 (aI (sk (aI (v1U n1) (aI (v1t n2) (aI (aT (qPz (P:=TP) jB3 (fun _=>0))) (aI (aT (qHf 0)) kV3))))) (aT (eX (fun(ns:List Nat)=>ns.length=0∧((vT #[v1l,v1E]):Value)=(fun _=>vT #[.slice none 0 0,.bool false]) ns∧([some ⟨p,false,0,(.lit [v0,(qON h)])⟩,some ⟨h,false,0,(qA9 u64 clV D l)⟩]:List (Option Blk))=(fun _=>[some ⟨p,false,0,(.lit [v0,(qON h)])⟩,some ⟨h,false,0,(qA9 u64 clV D l)⟩]) ns) [] (aI v0b (aI (@rfl Value (vT #[.slice none 0 0,.bool false])) (@rfl (List (Option Blk)) [some ⟨p,false,0,(.lit [v0,(qON h)])⟩,some ⟨h,false,0,(qA9 u64 clV D l)⟩])))))))))))))))
def qKT (F0:Blk→Prop) (p:Nat) (h:Nat) (v0:Value) (D:List Nat) (l:List (UInt64×CV)) (k:UInt64) (t:Nat) (sp:Nat) (sc:Nat) (fm:Nat) (am:Nat) (bm:Nat) (n:Nat) (s:Nat→UInt64) (F:Fst) (B:Bks) (n1:Nat) (n2:Nat) (n3:Nat) (x1:(List Nat)×(Nat→UInt8)×Bool):St:=⟨[(6,.v (v1M n1)),(7,.v (ptr n2 0)),(8,.v (vB x1.2.2)),(18,.v (ptr n3 0))],[(0,some ⟨p,false,0,(.lit [v0,(qON h)])⟩),(1,some ⟨h,false,0,(qA9 u64 clV D l)⟩),(2,some ⟨t,false,0,(.lit [(v0x sp n sc),(u64 ((qBM s n).a)),(qON fm),(qON am)])⟩),(3,some ⟨sp,false,0,(v0g n s)⟩),(4,some ⟨fm,false,0,(qB5 F)⟩),(5,some ⟨bm,false,0,(bkC B)⟩),(6,some ⟨n1,true,0,(.lit [(ptr t 0),(qON bm)])⟩),(7,some ⟨n2,true,0,(qDs 32 (fun k=>u8 (x1.2.1 k)))⟩),(8,some ⟨n3,true,0,(itC bm B.length x1.1)⟩)],9⟩
def qGm (F0:Blk→Prop) (p:Nat) (h:Nat) (v0:Value) (D:List Nat) (l:List (UInt64×CV)) (k:UInt64) (t:Nat) (sp:Nat) (sc:Nat) (fm:Nat) (am:Nat) (bm:Nat) (n:Nat) (s:Nat→UInt64) (F:Fst) (B:Bks) (n1:Nat) (n2:Nat) (n3:Nat) (x1:(List Nat)×(Nat→UInt8)×Bool):Prop:=(OrdN B.length x1.1)∧(x1.2.1=(qIy s n F B x1.1).1)∧(x1.2.2=(qIy s n F B x1.1).2)
def qEv (F0:Blk→Prop) (p:Nat) (h:Nat) (v0:Value) (D:List Nat) (l:List (UInt64×CV)) (k:UInt64) (t:Nat) (sp:Nat) (sc:Nat) (fm:Nat) (am:Nat) (bm:Nat) (n:Nat) (s:Nat→UInt64) (F:Fst) (B:Bks) (n1:Nat) (n2:Nat) (n3:Nat) (x1:(List Nat)×(Nat→UInt8)×Bool):Nat:=qFv x1.1 B.length
def v17(h:Nat):=vM (some h)
def v2c:=qAf none 0
def v3F(s:Nat→UInt64)(n:Nat)(F:Fst)(B:Bks):=qAs sR (qFx s n F B).1 B
def v3L:OpH:=.ld 6 (.lit 1)
def v4V:OpH:=.ld 9 (.lit 0)
def jEX (F0:Blk→Prop) (p h:Nat) (v0:Value) (D:List Nat) (l:List (UInt64×CV)) (k:UInt64) (t sp sc fm am bm n:Nat) (s:Nat→UInt64) (F:Fst) (B:Bks) (hs:qDE eqW k D l=some (some (t,bm))) (hV:VOk n s F) (hB:B.length≤40) (hok:∀v,OkB ((qAs sR v B).getD (qAf none 0))) (hle:∀v,((qAs sR v B).getD (qAf none 0)).wn≤140737488355328) (hF:∀v z,qBi ((qAs sR v B).getD (qAf none 0)) z→F0 z):qAc F0 TP 14 [(ptr p 0),(u64 k)] [some ⟨p,false,0,(.lit [v0,(Value.map (some h))])⟩,some ⟨h,false,0,(qA9 u64 clV D l)⟩,some ⟨t,false,0,(.lit [(Value.slice (some ⟨sp,0,none⟩) n sc),(u64 (qBM s n).a),(Value.map (some fm)),(Value.map (some am))])⟩,some ⟨sp,false,0,(qAd n (fun k=>u64 (s k)))⟩,some ⟨fm,false,0,(qB5 F)⟩,some ⟨bm,false,0,(bkC B)⟩] 2 (fun ns=>(Value.tuple #[(gsV (clG ((qAs sR (qFx s n F B).1 B).getD (qAf none 0)) (ns.getD 0 0) (ns.getD 1 0))),(Value.bool (qFx s n F B).2)])) (fun ns=>[some ⟨p,false,0,(.lit [v0,(Value.map (some h))])⟩,some ⟨h,false,0,(qA9 u64 clV D l)⟩,some ⟨t,false,0,(.lit [(Value.slice (some ⟨sp,0,none⟩) n sc),(u64 (qBM s n).a),(Value.map (some fm)),(Value.map (some am))])⟩,some ⟨sp,false,0,(qAd n (fun k=>u64 (s k)))⟩,some ⟨fm,false,0,(qB5 F)⟩,some ⟨bm,false,0,(bkC B)⟩,(gsE u8C [u8 0] 1 (clG ((qAs sR (qFx s n F B).1 B).getD (qAf none 0)) (ns.getD 0 0) (ns.getD 1 0)))]):=
 qAv mix Tryz.func14 rfl rfl 400 (.reg v00 (.regn (rg [.g,.g,.g,v0o,.g,(.oth [(1,true)] 0 0 (fun _=>(Value.agg #[(ptr t 0),(qON bm)])) (fun _=>[none])),.new,v2G]) (more (fun n1=>fun _=>(.regn v1f (more (fun n2=>fun _=>(.reg (rg [.g]) (.regn (rg [.g,v3L,(.othB [(5,true)] 1 1 (fun ns=>ptr (g0 ns) 0) (fun bs ns=>[none,some ⟨(g0 ns),true,0,itB bs⟩]))]) (more (fun n3=>fun _=>(.inv [6,7,8,18] [0,1,2,3,4,5,6,7,8] 9 (qGm F0 p h v0 D l k t sp sc fm am bm n s F B n1 n2 n3) (qKT F0 p h v0 D l k t sp sc fm am bm n s F B n1 n2 n3) (qEv F0 p h v0 D l k t sp sc fm am bm n s F B n1 n2 n3) ((([]),(fun _=>0),false):(List Nat)×(Nat→UInt8)×Bool) (fun(x1:(List Nat)×(Nat→UInt8)×Bool)=>(.both (qBs x1.1 B.length) (.regn (rg [(.oth [(8,false),(5,true)] 1 0 (fun ns=>(vT #[(vB true),(qBJ 32 (fun k=>u8 ((qBp rB0 B (pk x1.1 B.length (g0 ns))).1 k))),(vS (((qBp rB0 B (pk x1.1 B.length (g0 ns))).2).wa) (((qBp rB0 B (pk x1.1 B.length (g0 ns))).2).wn) (((qBp rB0 B (pk x1.1 B.length (g0 ns))).2).wc))])) (fun ns=>[some ⟨n3,true,0,(itC bm B.length (x1.1++[pk x1.1 B.length (g0 ns)]))⟩,none])),.g]) (more (fun n4=>fun _=>(.yes (.regn (rg [(.oth [(8,true),(5,true)] 0 0 (fun _=>(vT #[(qBJ 32 (fun k=>u8 ((qUU B x1.1 n4).1 k))),(vS ((qUU B x1.1 n4).2).wa ((qUU B x1.1 n4).2).wn ((qUU B x1.1 n4).2).wc)])) (fun _=>[none,none])),.g,.new,(.st 9 (.lit 0))]) (more (fun n5=>fun _=>(.reg (rg [.g,v2H,v4V,(.call [(2,true),(3,true),(4,true)] 0 0 (fun _=>(vB (qQD s F B x1.1 n4 n))) (fun _=>[none,none,none])),.g,(.opt .g),(.opt .g),(.opt .g),(.opt .g),(.opt .g),(.opt (.call [(9,true),(7,true)] 0 0 (fun _=>(int (qOk (qUU B x1.1 n4).1 x1.2.1))) (fun _=>[none,none]))),(.opt .g),(.opt .pk),.pk]) (.br (.reg (rg [v4V,(.st 7 (.lit 0)),.g]) .done) .done))))))))) (.reg (rg [(.oth [(8,true),(5,true)] 0 0 (fun _=>vT #[.bool false]) (fun _=>[none,none])),.g]) (.no (.keep [6,7,8] [0,1,2,3,4,5,6,7,8] 9 (.told ⟨[(6,.v (v1M n1)),(7,.v (ptr n2 0)),(8,.v (vB (qFx s n F B).2))],[(0,some ⟨p,false,0,(.lit [v0,(v17 h)])⟩),(1,some ⟨h,false,0,(qA9 u64 clV D l)⟩),(2,some ⟨t,false,0,(.lit [(v0x sp n sc),(v16 s n),(qON fm),(qON am)])⟩),(3,some ⟨sp,false,0,(v0g n s)⟩),(4,some ⟨fm,false,0,(qB5 F)⟩),(5,some ⟨bm,false,0,(bkC B)⟩),(6,some ⟨n1,true,0,(.lit [(ptr t 0),(qON bm)])⟩),(7,some ⟨n2,true,0,(qDs 32 (fun k=>u8 ((qFx s n F B).1 k)))⟩),(8,some ⟨n3,true,0,(itC bm B.length x1.1)⟩)],9⟩ (.regn (rg [.g,v3L,(.ld 7 (.lit 0)),(.oth [(5,true)] 0 0 (fun _=>(vS ((v3F s n F B).getD v2c).wa ((v3F s n F B).getD v2c).wn ((v3F s n F B).getD v2c).wc)) (fun _=>[none])),(.callO [] 2 1 (fun ns=>gsV (jEt s n F B ns)) (fun ns=>[(gsE u8C [u8 0] 1 (jEt s n F B ns))])),.g,.g,.g]) (m2 fun n6 n7=>.done)))))))))))))))))))) [] [9] rfl
  (Eq.mp (by kernel_rfl) (aI kV2 (fun(n1:Nat)=>aI (sK3 (aI (v1Z p) (sk (aI (aT (qAu.valE (qL6 (P:=TP) qN1 h false D l k) (qVL hs))) (sk (v6d n1)))))) (fun(n2:Nat)=>aI kV1 (aI kV1 (fun(n3:Nat)=>aI (sk (aI (v1U n1) (aI (aT (qAu.dark [true] (qRd (P:=TP) (mt:=66) (kv:=qDf) (ev:=qA3) jB3.hm bm false B))) tV))) (aI (show(qGm F0 p h v0 D l k t sp sc fm am bm n s F B n1 n2 n3) ((([]),(fun _=>0),false):(List Nat)×(Nat→UInt8)×Bool) from(show(OrdN B.length ([]))∧((fun _=>0)=(qIy s n F B ([])).1)∧(false=(qIy s n F B ([])).2) from by exact⟨OrdN.nil _,rfl,rfl⟩)) (aI (@rfl St ((qKT F0 p h v0 D l k t sp sc fm am bm n s F B n1 n2 n3) ((([]),(fun _=>0),false):(List Nat)×(Nat→UInt8)×Bool))) (fun(x1:(List Nat)×(Nat→UInt8)×Bool) (hx1:(qGm F0 p h v0 D l k t sp sc fm am bm n s F B n1 n2 n3) x1)=>have B0:OrdN B.length x1.1:=hx1.1;have B1:x1.2.1=(qIy s n F B x1.1).1:=hx1.2.1;have B2:x1.2.2=(qIy s n F B x1.1).2:=hx1.2.2;aI (fun(h1:(qBs x1.1 B.length)=true)=>fun(n4:Nat)=>aI (aI (aT (qAu.dark [false,true] (qRG (P:=TP) (kv:=qDf) (ev:=qA3) 0 n3 bm false B x1.1 rB0 h1))) kV1) ((have f4:(pk x1.1 B.length n4)<B.length:=((qD8 h1 n4)).1;aT (aI v01 (fun(n5:Nat)=>aI (aI (aT (qQH (P:=TP) (kv:=qDf) (ev:=qA3) n3 bm false false B x1.1 (pk x1.1 B.length n4) rB0 (show pk x1.1 B.length n4<B.length from by omega))) (sK2 (v6S n5))) (aI (sk (aI (v0I n1) (aI (v30 n5) (aI (aT (qBI.dark [true,true,true] (qR9 t sp sc fm am n s F (qUU B x1.1 n4).1 hV))) (sk (aI (fun(hg:(sB (qQD s F B x1.1 n4 n) true)=true)=>t2) (aI (fun(hg:(sB (qQD s F B x1.1 n4 n) true)=true)=>(aI (aI hg tV) tV)) (aI (fun(hg:(sB (qQD s F B x1.1 n4 n) true)=true)=>(aI (aI hg tV) tV)) (aI (fun(hg:(qA0 (sB (qQD s F B x1.1 n4 n) true) (sB (!x1.2.2) false) false)=true)=>t2) (aI (fun(hg:(qA0 (sB (qQD s F B x1.1 n4 n) true) (sB (!x1.2.2) false) false)=true)=>t2) (aI (fun(hg:(qA0 (sB (qQD s F B x1.1 n4 n) true) (sB (!x1.2.2) false) false)=true)=>(aI (aI hg (aI hg tV)) (qBI.dark [true,true] (qXW n5 n2 (qUU B x1.1 n4).1 x1.2.1)))) (aI (fun(hg:(qA0 (sB (qQD s F B x1.1 n4 n) true) (sB (!x1.2.2) false) false)=true)=>(aI (aI hg tV) tV)) (aI (fun(hg:(sB (qQD s F B x1.1 n4 n) true)=true)=>(aI hg (aI (fun(_:(!x1.2.2)=true)=>tV) (fun(hp:(!x1.2.2)=false)=>(jAt hg (qAS hp)))))) (aI (aT (aI (fun(hp:(qQD s F B x1.1 n4 n)=true)=>(qBz hp)) (fun(_:(qQD s F B x1.1 n4 n)=false)=>tV))) tV)))))))))))))) (aT (aI (fun(h2:(qA0 (qQD s F B x1.1 n4 n) (qA0 (!x1.2.2) true (decide (((qOk (qUU B x1.1 n4).1 x1.2.1):Int)<0))) false)=true)=>have f5:(qQD s F B x1.1 n4 n)=true:=(qB6 h2);have f6:((x1.2.2)=false)∨((((qOk (qUU B x1.1 n4).1 x1.2.1):Int)<0)):=(Or.imp (fun h=>(qBr h)) (fun h=>(oT h)) (qG9 (qCr h2)));aI (aI (v30 n5) (aI (v1t n2) kV1)) ((rnd (qGm F0 p h v0 D l k t sp sc fm am bm n s F B n1 n2 n3) (qKT F0 p h v0 D l k t sp sc fm am bm n s F B n1 n2 n3) (qEv F0 p h v0 D l k t sp sc fm am bm n s F B n1 n2 n3) x1 (((x1.1++[pk x1.1 B.length n4]),(qUU B x1.1 n4).1,true):(List Nat)×(Nat→UInt8)×Bool) (show((OrdN B.length (x1.1++[pk x1.1 B.length n4]))∧(((qBp rB0 B (pk x1.1 B.length n4)).1)=(qIy s n F B (x1.1++[pk x1.1 B.length n4])).1)∧(true=(qIy s n F B (x1.1++[pk x1.1 B.length n4])).2))∧(qFv (x1.1++[pk x1.1 B.length n4]) B.length)<(qFv x1.1 B.length) from by exact⟨⟨B0.snoc h1 _,(qRR B1 B2 h2).1,(qRR B1 B2 h2).2⟩,qHx (qD8 h1 _).1 (qD8 h1 _).2⟩)))) (fun(h2:(qA0 (qQD s F B x1.1 n4 n) (qA0 (!x1.2.2) true (decide (((qOk (qUU B x1.1 n4).1 x1.2.1):Int)<0))) false)=false)=>(rnd (qGm F0 p h v0 D l k t sp sc fm am bm n s F B n1 n2 n3) (qKT F0 p h v0 D l k t sp sc fm am bm n s F B n1 n2 n3) (qEv F0 p h v0 D l k t sp sc fm am bm n s F B n1 n2 n3) x1 (((x1.1++[pk x1.1 B.length n4]),x1.2.1,x1.2.2):(List Nat)×(Nat→UInt8)×Bool) (show((OrdN B.length (x1.1++[pk x1.1 B.length n4]))∧(x1.2.1=(qIy s n F B (x1.1++[pk x1.1 B.length n4])).1)∧(x1.2.2=(qIy s n F B (x1.1++[pk x1.1 B.length n4])).2))∧(qFv (x1.1++[pk x1.1 B.length n4]) B.length)<(qFv x1.1 B.length) from by exact⟨⟨B0.snoc h1 _,(qUa B1 B2 h2).1,(qUa B1 B2 h2).2⟩,qHx (qD8 h1 _).1 (qD8 h1 _).2⟩))))))))))) (fun(h1:(qBs x1.1 B.length)=false)=>aI (aI (aT (qN5 (P:=TP) (kv:=qDf) (ev:=qA3) 0 n3 bm false false B x1.1 h1)) kV1) (aT (aI v05 (aI (show(⟨[(6,.v (ptr n1 0)),(7,.v (ptr n2 0)),(8,.v (vB x1.2.2))],[(0,some ⟨p,false,0,(.lit [v0,(vM (some h))])⟩),(1,some ⟨h,false,0,(qA9 u64 clV D l)⟩),(2,some ⟨t,false,0,(.lit [(vS (some ⟨sp,0,none⟩) n sc),(u64 (qBM s n).a),(vM (some fm)),(vM (some am))])⟩),(3,some ⟨sp,false,0,(qAd n (fun k=>u64 (s k)))⟩),(4,some ⟨fm,false,0,(qB5 F)⟩),(5,some ⟨bm,false,0,(bkC B)⟩),(6,some ⟨n1,true,0,(.lit [(ptr t 0),(vM (some bm))])⟩),(7,some ⟨n2,true,0,(qDs 32 (fun k=>u8 (x1.2.1 k)))⟩),(8,some ⟨n3,true,0,(itC bm B.length x1.1)⟩)],9⟩:St)=⟨[(6,.v (ptr n1 0)),(7,.v (ptr n2 0)),(8,.v (vB (qFx s n F B).2))],[(0,some ⟨p,false,0,(.lit [v0,(vM (some h))])⟩),(1,some ⟨h,false,0,(qA9 u64 clV D l)⟩),(2,some ⟨t,false,0,(.lit [(vS (some ⟨sp,0,none⟩) n sc),(u64 (qBM s n).a),(vM (some fm)),(vM (some am))])⟩),(3,some ⟨sp,false,0,(qAd n (fun k=>u64 (s k)))⟩),(4,some ⟨fm,false,0,(qB5 F)⟩),(5,some ⟨bm,false,0,(bkC B)⟩),(6,some ⟨n1,true,0,(.lit [(ptr t 0),(vM (some bm))])⟩),(7,some ⟨n2,true,0,(qDs 32 (fun k=>u8 ((qFx s n F B).1 k)))⟩),(8,some ⟨n3,true,0,(itC bm B.length x1.1)⟩)],9⟩ from by have e:=jAL B0 h1 B1 B2;rw[e.1,e.2]) (fun(n6 n7:Nat)=>aI (sk (aI (v1U n1) (aI (v1t n2) (aI (aT (qJD (P:=TP) jB3 bm false B (qFx s n F B).1)) (aI (aT (qAc.mono (fun z hz=>hF _ z hz) (jBY ((v3F s n F B).getD v2c) (hok _) (hle _)))) kV3))))) (aT (eX (fun(ns:List Nat)=>ns.length=2∧((vT #[(gsV (clG ((v3F s n F B).getD v2c) n6 n7)),(vB (qFx s n F B).2)]):Value)=(fun ns=>(vT #[(gsV (jEt s n F B ns)),(vB (qFx s n F B).2)])) ns∧([some ⟨p,false,0,(.lit [v0,(v17 h)])⟩,some ⟨h,false,0,(qA9 u64 clV D l)⟩,some ⟨t,false,0,(.lit [(v0x sp n sc),(v16 s n),(qON fm),(qON am)])⟩,some ⟨sp,false,0,(v0g n s)⟩,some ⟨fm,false,0,(qB5 F)⟩,some ⟨bm,false,0,(bkC B)⟩,(gsE u8C [u8 0] 1 (clG ((v3F s n F B).getD v2c) n6 n7))]:List (Option Blk))=(fun ns=>[some ⟨p,false,0,(.lit [v0,(v17 h)])⟩,some ⟨h,false,0,(qA9 u64 clV D l)⟩,some ⟨t,false,0,(.lit [(v0x sp n sc),(v16 s n),(qON fm),(qON am)])⟩,some ⟨sp,false,0,(v0g n s)⟩,some ⟨fm,false,0,(qB5 F)⟩,some ⟨bm,false,0,(bkC B)⟩,(gsE u8C [u8 0] 1 (jEt s n F B ns))]) ns) [n6,n7] (aI v0W (aI (@rfl Value (vT #[(gsV (clG ((v3F s n F B).getD v2c) n6 n7)),(vB (qFx s n F B).2)])) (@rfl (List (Option Blk)) [some ⟨p,false,0,(.lit [v0,(v17 h)])⟩,some ⟨h,false,0,(qA9 u64 clV D l)⟩,some ⟨t,false,0,(.lit [(v0x sp n sc),(v16 s n),(qON fm),(qON am)])⟩,some ⟨sp,false,0,(v0g n s)⟩,some ⟨fm,false,0,(qB5 F)⟩,some ⟨bm,false,0,(bkC B)⟩,(gsE u8C [u8 0] 1 (clG ((v3F s n F B).getD v2c) n6 n7))])))))))))))))))))))
def qHy {F':Blk→Prop} (X:ChR) (hX:qGN X) (k:UInt64):qAc F' TP 14 [ptr X.p 0,u64 k] [roO (chH X),roO (chM X),roO (chT X),roO (chS X),roO (chF X),roO (chB X),roO (chR X)] 2 (fun ns=>.tuple #[gsV (clG (bvB X k) (ns.getD 0 0) (ns.getD 1 0)),.bool (bvF X k)])
  (fun ns=>[none,none,none,none,none,none,none,gsE u8C [u8 0] 1 (clG (bvB X k) (ns.getD 0 0) (ns.getD 1 0))]):=by
 cases hs:slX X k with
 |none=>
  rw[show bvB X k=qAf none 0 by unfold bvB;rw[hs],show bvF X k=false by unfold bvF;rw[hs]]
  have h:=(jFG X.p X.h (.slice (some ⟨X.sp,0,none⟩) X.n (X.n+X.sr)) X.D (hgL X.l) k (qZ9 hs)).toO (F:=F');exact h.as (.cons _ (.cons _ (.zz _))) (fun _=>[0,0]) fun ns _=>⟨rfl,rfl,.dr _ (.dr _ (.dn (.dn (.dn (.dn (.dn (.dn (.zz _)))))))),tV⟩
 |some x=>
  obtain⟨j,hj,hl,_,_,hv⟩:=qNl hs;have hm:x∈X.l:=List.mem_of_getElem? hl;have hg:∀{g:qGx→Nat×qBc},(X.l.map g)[j]?=some (g x):=by intro g;rw[List.getElem?_map,hl];rfl
  rw[show bvB X k=(qAs sR (qFx X.s X.n x.F x.B).1 x.B).getD (qAf none 0) by unfold bvB;rw[hs],show bvF X k=(qFx X.s X.n x.F x.B).2 by unfold bvF;rw[hs]]
  have h0:=jEX (jC7 X.R) X.p X.h (.slice (some ⟨X.sp,0,none⟩) X.n (X.n+X.sr)) X.D (hgL X.l) k x.t x.sp (X.n+x.sr) x.fm x.am x.bm X.n X.s x.F x.B hv (hX.vok x hm) (hX.b40 hm) (fun v=>(hX.look_ok hm v).1) (fun v=>Nat.le_trans (hX.look_ok hm v).2.1 (by decide)) (fun v=>(hX.look_ok hm v).2.2)
  have h1:=(h0.as (bs':=[roO (chH X),roO (chM X),some (qCD false (qJi X.n X.s x)),some (qCD false (qLY X.n X.s x)),some (qCD false (qJy x)),some (qCD false (bkP x))]) (k':=2) (v':=fun ns=>.tuple #[gsV (clG ((qAs sR (qFx X.s X.n x.F x.B).1 x.B).getD (qAf none 0)) (ns.getD 0 0) (ns.getD 1 0)),.bool (qFx X.s X.n x.F x.B).2])
   (out':=fun ns=>[none,none,none,none,none,none,gsE u8C [u8 0] 1 (clG ((qAs sR (qFx X.s X.n x.F x.B).1 x.B).getD (qAf none 0)) (ns.getD 0 0) (ns.getD 1 0))])
   (.cons _ (.cons _ (qQm X.n X.s x (.cons _ (.cons _ (.cons _ (.zz _))))))) id fun ns hns=>⟨hns,rfl,.dr _ (.dr _ (.dr _ (.dr _ (.dr _ (.dr _ (.refl _)))))),qWM tV⟩)
  have h2:=qAc.focusL (bs:=[roO (chH X),roO (chM X)]) (o:=fun _=>[none,none]) (q:=X.p) (ow:=false) h1 (hg (g:=qJi X.n X.s)) (fun _=>rfl)
  have h3:=qAc.focusL (bs:=[roO (chH X),roO (chM X),roO (chT X)]) (o:=fun _=>[none,none,none]) (q:=X.p) (ow:=false) h2 (hg (g:=qLY X.n X.s)) (fun _=>rfl)
  have h4:=qAc.focusL (bs:=[roO (chH X),roO (chM X),roO (chT X),roO (chS X)]) (o:=fun _=>[none,none,none,none]) (q:=X.p) (ow:=false) h3 (hg (g:=qJy)) (fun _=>rfl)
  have h5:=qAc.focusL (bs:=[roO (chH X),roO (chM X),roO (chT X),roO (chS X),roO (chF X)]) (o:=fun _=>[none,none,none,none,none]) (q:=X.p) (ow:=false) h4 (hg (g:=bkP)) (fun _=>rfl)
  exact qAc.lendR (fun y hy=>(hX.rlen y hy).2) (q:=X.p) (bs:=[roO (chH X),roO (chM X),roO (chT X),roO (chS X),roO (chF X),roO (chB X)]) (o:=fun _=>[none,none,none,none,none,none]) h5 (fun _=>rfl)
end Go.Proofs.YtmdpendnbkajdaaGreatDoor
end
section
namespace Go.Eng
def qQN {α:Type} {L:List α} {j:Nat} {a:α} (h:L[j]?=some a):L.set j a=L:=by
 apply List.ext_getElem?;intro i;rw[List.getElem?_set];by_cases e:j=i
 ·subst e
  rw[if_pos rfl,if_pos (List.getElem?_eq_some_iff.1 h).1,h]
 ·rw[if_neg e]
def qFe {α β:Type} {L:List α} {j:Nat} {a a':α} (h:L[j]?=some a) (g:α→β) (e:g a'=g a):(L.set j a').map g=L.map g:=by
 rw[List.map_set,e];exact qQN (by rw[List.getElem?_map,h];rfl)
section
variable {X:ChR} {x:qGx} {j:Nat} {w:Int} {v:Nat→UInt8} {y:RwP} {k:UInt64} {t sp sr fm am bm:Nat}
theorem qWg (hl:X.l[j]?=some x):chO (hrO X j x w v y)=[chH X,chK X,chM X,chT X,chS X,lpO X.p ((X.l.map qJy).set j (x.fm,qJA int qDf (qBo X.n X.s x.F w v))),lpO X.p ((X.l.map qMe).set j (x.am,qJA int ev0 (qBX X.n X.s x.F x.A w v))),
  lpO X.p ((X.l.map bkP).set j (x.bm,qJA qDf qA3 (if qAJ X.n X.s x.F w v=0 then qCw sR v (qCP y) x.B else x.B))),lpO X.p ((if qAJ X.n X.s x.F w v=0 then X.R++[y] else X.R).map qJh)]:=by
 unfold chO;have e1:chM (hrO X j x w v y)=chM X:=by
  unfold chM hrO hgL;simp only;rw[qFe (a':=slU X x w v (qCP y)) hl (fun x=>(x.key,(some (x.t,x.bm):CV))) rfl]
 have e2:chT (hrO X j x w v y)=chT X:=by
  unfold chT hrO;simp only;rw[qFe (a':=slU X x w v (qCP y)) hl (qJi X.n X.s) rfl]
 have e3:chS (hrO X j x w v y)=chS X:=by
  unfold chS hrO;simp only;rw[qFe (a':=slU X x w v (qCP y)) hl (qLY X.n X.s) rfl]
 rw[e1,e2,e3];unfold chF chA chB chR hrO;simp only[List.map_set];rfl
theorem jAY:chO (hrN X k w v y t sp sr fm am bm)=[chH X,chK X,some ⟨X.h,true,0,qA9 u64 clV X.D (hgL X.l++[(k,some (t,bm))])⟩,lpO X.p (X.l.map (qJi X.n X.s)++[qJi X.n X.s (slN k w v y t sp sr fm am bm)]),lpO X.p (X.l.map (qLY X.n X.s)++[qLY X.n X.s (slN k w v y t sp sr fm am bm)]),
  lpO X.p (X.l.map qJy++[qJy (slN k w v y t sp sr fm am bm)]),lpO X.p (X.l.map qMe++[qMe (slN k w v y t sp sr fm am bm)]),lpO X.p (X.l.map bkP++[bkP (slN k w v y t sp sr fm am bm)]),lpO X.p (X.R.map qJh++[qJh y])]:=by
 unfold chO chM chT chS chF chA chB chR hrN hgL;simp only[List.map_append,List.map_cons,List.map_nil];rfl
end
def qKS {l:List (Option Blk)} {p:Nat} {b:Blk} (h:lM l p=some b):p<l.length:=by
 unfold lM at h;cases hc:l[p]?with
 |none=>rw[hc] at h;cases h
 |some x=>exact(List.getElem?_eq_some_iff.1 hc).1
end Go.Eng
namespace Go.Eng
def qZs {q:BytL} (h:unX q=0):0<q.wn:=by
 refine Nat.pos_of_ne_zero fun h0=>?_
 have e1:rsE q 0 18446744073709551615=3:=by unfold rsE wrE;rw[if_pos h0];rfl
 have e2:uE q=3:=by
  unfold uE;rw[e1];unfold rsE qB7;rw[if_neg (by decide)]
 have e3:∀k,(usS (uQ q) (uE q) k).2=3:=fun k=>by
  induction k with
  |zero=>exact e2
  |succ k ih=>show rbE _ _ _=3;rw[ih];exact(qTv (by decide)).1
 have e4:=(jGw h).1;unfold uD qUj at e4;rw[e3,if_neg (fun z=>by cases z.1)] at e4
 exact absurd e4 (by decide)
end Go.Eng
namespace Go.Eng
def fgX (X:ChR) (b:UInt64):ChR:={X with D:=fgD (hgL X.l) b}
def fgN (X:ChR) (b:UInt64):Nat:=X.l.length-qBn (fgD (hgL X.l) b) X.l.length
def jBI (l:List qGx):(hgL l).map (·.1)=l.map qGx.key:=by unfold hgL;rw[List.map_map];rfl
def qQ0 (l:List qGx):(hgL l).length=l.length:=List.length_map ..
end Go.Eng
namespace Go.Eng
def upK (k:UInt64) (j:Nat):UInt64:=k+UInt64.ofNat j
def rnN (X:ChR) (k:UInt64):Nat:=((List.range 21).find? fun j=>!bvF X (upK k j)).getD 0
def rnL (X:ChR) (k:UInt64) (j:Nat):Nat:=(bvB X (upK k j)).wn
def rnF (X:ChR) (k:UInt64) (j:Nat):Nat→UInt8:=(bvB X (upK k j)).wf
def jFd (k:UInt64):k=upK k 0:=by unfold upK;simp
def qWL (k:UInt64) (j:Nat):upK k j+1=upK k (j+1):=by
 unfold upK;rw[UInt64.add_assoc];congr 1;apply UInt64.toNat_inj.1;rw[UInt64.toNat_add,UInt64.toNat_ofNat',UInt64.toNat_ofNat'];show((j%2^64)+1)%2^64=(j+1)%2^64;omega
def jBQ {k:UInt64} {i j:Nat} (hi:i<2^64) (hj:j<2^64) (h:upK k i=upK k j):i=j:=by
 unfold upK at h;have h2:=UInt64.add_right_inj k |>.1 h;have h3:=congrArg UInt64.toNat h2;rw[UInt64.toNat_ofNat',UInt64.toNat_ofNat',Nat.mod_eq_of_lt hi,Nat.mod_eq_of_lt hj] at h3;exact h3
def qP0 {X:ChR} {k:UInt64} (h:bvF X k=true):∃x,slX X k=some x∧(qFx X.s X.n x.F x.B).2=true:=by
 unfold bvF at h;cases hs:slX X k with
 |none=>rw[hs] at h;cases h
 |some x=>rw[hs] at h;exact⟨x,rfl,h⟩
theorem qYW {X:ChR} {k:UInt64}:∀(m:Nat) (l:List UInt64),m≤2^64→(∀j,j<m→upK k j∈l)→m≤l.length
 |0,l,_,_=>Nat.zero_le _
 |m+1,l,hm,h=>by
  have h1:=h m (Nat.lt_succ_self m);have h2:=qYW (X:=X) (k:=k) m (l.erase (upK k m)) (by omega) fun j hj=>by
   have hne:upK k j≠upK k m:=fun e=>by
    have:=jBQ (by omega) (by omega) e
    omega
   exact(List.mem_erase_of_ne hne).2 (h j (by omega))
  rw[List.length_erase_of_mem h1] at h2;have:=List.length_pos_of_mem h1;omega
def jDq {X:ChR} (hX:qGN X) {k:UInt64} {m:Nat} (hm:m≤21) (h:∀j,j<m→bvF X (upK k j)=true):m≤20:=by
 have h1:=qYW (X:=X) (k:=k) m (X.l.map qGx.key) (by omega) fun j hj=>by
  obtain⟨x,hs,_⟩:=qP0 (h j hj);obtain⟨i,_,hi,hk,_⟩:=qNl hs;exact List.mem_map.2 ⟨x,List.mem_of_getElem? hi,hk⟩
 rw[List.length_map] at h1;have:=hX.len;omega
def qYI {X:ChR} {k:UInt64} {m:Nat} (hm:m≤20) (h:∀j,j<m→bvF X (upK k j)=true) (he:bvF X (upK k m)=false):m=rnN X k:=by
 unfold rnN;have:(List.range 21).find? (fun j=>!bvF X (upK k j))=some m:=qMH (by omega) (by rw[he];rfl) fun j hj=>by rw[h j hj];rfl
 rw[this];rfl
def jD9 {X:ChR} (hX:qGN X) {k:UInt64} (h:bvF X k=true):∃y∈X.R,bvB X k=qCP y:=by
 obtain⟨x,hs,hl⟩:=qP0 h;obtain⟨i,_,hi,_⟩:=qNl hs;have hm:=List.mem_of_getElem? hi;obtain⟨j,hj,_,hn⟩:=qVi hl;have hf:qAs sR (qFx X.s X.n x.F x.B).1 x.B=some (qBp rB0 x.B j).2:=by
  rw[hn];exact KD.find qIk (hX.kd x hm) (qRQ hj)
 have he:bvB X k=(qBp rB0 x.B j).2:=by unfold bvB;rw[hs];simp only;rw[hf];rfl
 obtain⟨y,hy,e⟩:=hX.row x hm _ (qRQ (d:=rB0) hj);exact⟨y,hy,he.trans e⟩
def qV4 {X:ChR} (hX:qGN X) {k:UInt64} (h:bvF X k=true) (a r:Nat):gsV (clG (bvB X k) a r)=.slice (some ⟨a,0,none⟩) (bvB X k).wn ((bvB X k).wn+r)∧gsE u8C [u8 0] 1 (clG (bvB X k) a r)=some ⟨a,true,0,spr ((bvB X k).wn+r) (bvB X k).wn (fun j=>u8 ((bvB X k).wf j)) (u8 0)⟩:=by
 obtain⟨y,_,e⟩:=jD9 hX h;rw[e];exact⟨rfl,by rw[qMu];rfl⟩
def jCK {X:ChR} (hX:qGN X) (k:UInt64):(bvB X k).wn≤3000:=by
 unfold bvB;cases hs:slX X k with
 |none=>exact Nat.zero_le _
 |some x=>
  obtain⟨i,_,hi,_⟩:=qNl hs;exact(hX.look_ok (List.mem_of_getElem? hi) _).2.1
end Go.Eng
namespace Go.Eng
def qXl {X:ChR} (hX:qGN X) {k0 z:UInt64} {k:Nat} (h0:z=upK k0 k) (h1:∀j,j<k→bvF X (upK k0 j)=true) (h2:k≤20) (h:bvF X z=true):z+1=upK k0 (k+1)∧(∀j,j<k+1→bvF X (upK k0 j)=true)∧k+1≤20:=by
 have h3:∀j,j<k+1→bvF X (upK k0 j)=true:=fun j hj=>by
  by_cases e:j=k
  ·subst e;rw[←h0];exact h
  ·exact h1 j (by omega)
 exact⟨by rw[h0];exact qWL k0 k,h3,jDq hX (by omega) h3⟩
def wC (x:UInt64):List Value:=[u64 x]
def jFt (x:UInt64):(wC x).length=1∧(wC x).all Value.oneCell'=true:=⟨rfl,rfl⟩
def srW (n nm c:Nat):Option Blk:=if n=0 then none else some ⟨nm,true,0,qAd n fun k=>u64 (cdU c k)⟩
def qTy {n:Nat} (nm c:Nat) (h:0<n):srW n nm c=some ⟨nm,true,0,qAd n fun k=>u64 (cdU c k)⟩:=if_neg (by omega)
structure qQO (D:List Nat) (n:Nat) (o:List Nat):Prop extends OrdN n o where
 off:∀i∈o,D.contains i=false
def qQO.nil (D:List Nat) (n:Nat):qQO D n []:=⟨OrdN.nil _,by simp⟩
def qIH (D o:List Nat):qJT (D++o) D o:=fun i=>by
 rw[List.contains_eq_any_beq,List.contains_eq_any_beq,List.contains_eq_any_beq,List.any_append]
def qOB {D o:List Nat} {j:Nat} (h:(D++o).contains j=false):D.contains j=false∧o.contains j=false:=by
 rw[qIH D o j,Bool.or_eq_false_iff] at h;exact h
def qQO.snoc {D o:List Nat} {n:Nat} (h:qQO D n o) (hu:qBs (D++o) n=true) (c:Nat):qQO D n (o++[pk (D++o) n c]):=by
 obtain⟨h1,h2⟩:=qD8 hu c;obtain⟨h3,h4⟩:=qOB h2;refine⟨⟨List.nodup_append.2 ⟨h.nd,by simp,fun a ha b hb=>?_⟩,fun x hx=>?_⟩,fun x hx=>?_⟩
 ·simp at hb h4;subst hb
  exact fun e=>h4 (e▸ha)
 ·rcases List.mem_append.1 hx with hx|hx
  ·exact h.lt x hx
  ·simp at hx;omega
 ·rcases List.mem_append.1 hx with hx|hx
  ·exact h.off x hx
  ·simp at hx;rw[hx];exact h3
def qQO.left {D o:List Nat} {n:Nat} (hu:qBs (D++o) n=true) (c:Nat):qFv (D++(o++[pk (D++o) n c])) n<qFv (D++o) n:=by
 rw[←List.append_assoc];exact qHx (qD8 hu c).1 (qD8 hu c).2
def qQO.len {D o:List Nat} {n:Nat} (h:qQO D n o) (hu:qBs (D++o) n=false):o.length=qBn D n:=by
 unfold qBn;refine(List.Perm.length_eq ((List.perm_ext_iff_of_nodup h.nd (List.Pairwise.filter _ List.nodup_range)).2 fun i=>?_))
 rw[List.mem_filter,List.mem_range];constructor
 ·intro hi;exact⟨h.lt i hi,by rw[h.off i hi];rfl⟩
 ·rintro⟨hi,hd⟩
  have e:=qKN hu i hi;rw[qIH D o i] at e;have hd':D.contains i=false:=by simpa using hd
  rw[hd',Bool.false_or] at e;simpa using e
def qID {P:Program} {t:TypeId} (ha:qWl P t=some false) {n nm:Nat} (c i:Nat) (hi:i<n):qFg P (qVH t (ptr nm (0+i*1))) [roO (srW n nm c)] 0 (fun _=>u64 (cdU c i)) (fun _=>[none]):=by
 rw[qTy nm c (by omega)]
 intro w hm hap;have hS:qAn ⟨nm,false,0,qAd n fun k=>u64 (cdU c k)⟩ w:=hm 0 _ rfl
 have hc:=hS.cell i (u64 (cdU c i)) (qAH hi);refine⟨[],w,rfl,.inl ?_,?_⟩
 ·have hr:=qCQ (P:=P) (t:=t) (w:=w) (b:=nm) (o:=0+i*1) (v:=u64 (cdU c i)) ha (by rw[Nat.mul_one];exact hc)
  show(Instr.loadAt t (Value.pointer (some {block:=nm,off:=0+i*1})) >>= fun v=>Sem.pure (Next.value v)).run P w=_
  rw[Sem.run_bind,hr];rfl
 ·exact⟨fun p b hpb=>by rcases p with _ |p<;>simp[lM] at hpb,fun p q b c _ hpb=>by rcases p with _ |p<;>simp[lM] at hpb,(Adv.refl _ _).weak fun p b hpb=>by rcases p with _ |p<;>simp[lM] at hpb⟩
section
variable {X:ChR} {x:qGx} {j:Nat} {w:Int} {v:Nat→UInt8} {y:RwP} {k:UInt64} {t sp sr fm am bm:Nat}
theorem qRx {n:Nat} {s:Nat→UInt64} {F:Fst} (h:qAJ n s F w v≠0):qBo n s F w v=F:=if_neg h
theorem jDT (h:qGN X) (hl:X.l[j]?=some x) (hy:y.n≤3000∧y.n≤y.c):qGN (hrO X j x w v y):=by
 have hm:x∈X.l:=List.mem_of_getElem? hl;have hin:∀z∈(hrO X j x w v y).l,z=slU X x w v (qCP y)∨z∈X.l:=fun z hz=>by
  rcases List.mem_or_eq_of_mem_set hz with h1|h1
  ·exact .inr h1
  ·exact .inl h1
 have hR:∀b:BytL,(∃r∈X.R,b=qCP r)→∃r∈(hrO X j x w v y).R,b=qCP r:=fun b ⟨r,hr,e⟩=>by
  refine⟨r,?_,e⟩;show r∈(if qAJ X.n X.s x.F w v=0 then X.R++[y] else X.R)
  split
  ·exact List.mem_append_left _ hr
  ·exact hr
 refine⟨h.good,?_,?_,fun z hz=>?_,fun z hz=>?_,fun z hz=>?_,fun z hz e he=>?_,fun r hr=>?_⟩
 ·show(X.l.set j _).length≤20
  rw[List.length_set];exact h.len
 ·show((X.l.set j _).map qGx.key).Nodup
  rw[qFe (a':=slU X x w v (qCP y)) hl qGx.key rfl];exact h.keys
 ·rcases hin z hz with rfl|h1
  ·exact(h.vok x hm).vote w v
  ·exact h.vok z h1
 ·rcases hin z hz with rfl|h1
  ·have h2:=h.blen x hm
   by_cases he:qAJ X.n X.s x.F w v=0
   ·have e1:(slU X x w v (qCP y)).B=qCw sR v (qCP y) x.B:=if_pos he
    have e2:(slU X x w v (qCP y)).F=x.F++[(w,v)]:=(qFE he).1;have h3:(qCw sR v (qCP y) x.B).length≤x.B.length+1:=by
     rw[jBM];split
     ·exact Nat.le_succ _
     ·exact Nat.le_refl _
    rw[e1,e2,List.length_append];exact Nat.le_trans h3 (Nat.succ_le_succ h2)
   ·have e1:(slU X x w v (qCP y)).B=x.B:=if_neg he
    have e2:(slU X x w v (qCP y)).F=x.F:=qRx he;rw[e1,e2];exact h2
  ·exact h.blen z h1
 ·rcases hin z hz with rfl|h1
  ·by_cases he:qAJ X.n X.s x.F w v=0
   ·rw[show(slU X x w v (qCP y)).B=qCw sR v (qCP y) x.B from if_pos he]
    exact KD.put qIk (h.kd x hm)
   ·rw[show(slU X x w v (qCP y)).B=x.B from if_neg he];exact h.kd x hm
  ·exact h.kd z h1
 ·rcases hin z hz with rfl|h1
  ·by_cases hE:qAJ X.n X.s x.F w v=0
   ·rw[show(slU X x w v (qCP y)).B=qCw sR v (qCP y) x.B from if_pos hE] at he
    rcases qQo qIk he with rfl|he
    ·refine⟨y,?_,rfl⟩
     show y∈(if qAJ X.n X.s x.F w v=0 then X.R++[y] else X.R)
     rw[if_pos hE];simp
    ·exact hR _ (h.row x hm e he)
   ·rw[show(slU X x w v (qCP y)).B=x.B from if_neg hE] at he
    exact hR _ (h.row x hm e he)
  ·exact hR _ (h.row z h1 e he)
 ·change r∈(if qAJ X.n X.s x.F w v=0 then X.R++[y] else X.R) at hr
  split at hr
  ·rcases List.mem_append.1 hr with hr|hr
   ·exact h.rlen r hr
   ·rw[List.mem_singleton.1 hr];exact hy
  ·exact h.rlen r hr
theorem jDR (hD:X.D=[]) (hs:slX X k=none):k∉X.l.map qGx.key:=fun hc=>by
 obtain⟨x,hx,hk⟩:=List.mem_map.1 hc;have h1:=qZ9 hs;rw[hD,qMb] at h1;have h2:=qLI h1 (x.key,some (x.t,x.bm)) (List.mem_map.2 ⟨x,hx,rfl⟩);rw[hk] at h2;have:eqW k k=true:=qH3.2 rfl
 rw[this] at h2;cases h2
theorem qZe (h:qGN X) (hD:X.D=[]) (hs:slX X k=none) (h20:¬X.l.length=20) (hv:qAJ X.n X.s [] w v=0) (hy:y.n≤3000∧y.n≤y.c):qGN (hrN X k w v y t sp sr fm am bm):=by
 have hin:∀z∈(hrN X k w v y t sp sr fm am bm).l,z=slN k w v y t sp sr fm am bm∨z∈X.l:=fun z hz=>by
  rcases List.mem_append.1 hz with h1|h1
  ·exact .inr h1
  ·exact .inl (List.mem_singleton.1 h1)
 have hV:VOk X.n X.s [(w,v)]:=by
  have h1:=(VOk.nil (n:=X.n) (s:=X.s) h.good.2).vote w v;rw[(qFE hv).1] at h1;exact h1
 refine⟨h.good,?_,?_,fun z hz=>?_,fun z hz=>?_,fun z hz=>?_,fun z hz e he=>?_,fun r hr=>?_⟩
 ·show(X.l++[_]).length≤20
  have:=h.len;rw[List.length_append];show X.l.length+1≤20;omega
 ·show((X.l++[_]).map qGx.key).Nodup
  rw[List.map_append,List.nodup_append];refine⟨h.keys,by simp,fun a ha b hb=>?_⟩
  simp at hb;subst hb;exact fun e=>jDR hD hs (e▸ha)
 ·rcases hin z hz with rfl|h1
  ·exact hV
  ·exact h.vok z h1
 ·rcases hin z hz with rfl|h1
  ·exact Nat.le_refl 1
  ·exact h.blen z h1
 ·rcases hin z hz with rfl|h1
  ·exact List.pairwise_singleton _ _
  ·exact h.kd z h1
 ·rcases hin z hz with rfl|h1
  ·refine⟨y,List.mem_append_right _ (List.mem_singleton.2 rfl),?_⟩
   rw[List.mem_singleton.1 he]
  ·obtain⟨r,hr,e1⟩:=h.row z h1 e he
   exact⟨r,List.mem_append_left _ hr,e1⟩
 ·rcases List.mem_append.1 hr with hr|hr
  ·exact h.rlen r hr
  ·rw[List.mem_singleton.1 hr];exact hy
theorem qUg (h:qGN X) (hD:X.D=[]) (k:UInt64) (w:Int) (y:BytL) (v:Nat→UInt8) (hl:y.wn≤3000) (a b c d e f g i:Nat):qGN (hrX X k w y v a b c d e f g i):=by
 by_cases hb:unX y≠0∨unH y≠k
 ·rw[(qVB (w:=w) (v:=v) hb).2];exact h
 ·cases hs:slX X k with
  |some x=>
   obtain⟨j,hj,hx,_⟩:=qNl hs;rw[(qOa (w:=w) (v:=v) hb hs hj).2];exact jDT h hx ⟨hl,Nat.le_add_right _ _⟩
  |none=>
   by_cases h20:X.l.length=20
   ·rw[(qVS (w:=w) (v:=v) hb hs h20).2];exact h
   ·by_cases hv:qAJ X.n X.s [] w v=0
    ·rw[(qQY hb hs h20 hv).2];exact qZe h hD hs h20 hv ⟨hl,Nat.le_add_right _ _⟩
    ·rw[(qVm hb hs h20 hv).2];exact h
theorem jFL (X:ChR) (k:UInt64) (w:Int) (y:BytL) (v:Nat→UInt8) (a b c d e f g i:Nat):(hrX X k w y v a b c d e f g i).D=X.D:=by
 unfold hrX;split
 ·rfl
 ·split
  ·rfl
  ·split
   ·rfl
   ·split<;>rfl
end
def awS:Nat→UInt64:=jA7 [1,1,1,1]
def qWb (p sp sr h:Nat):ChR:=chN 4 awS p sp sr h
section
variable (p sp sr h t s2 r2 fm am bm:Nat) (v v1:Nat→UInt8) (y1 y2 y3:RwP)
def jF4:qGx:=slN 0 0 v y1 t s2 r2 fm am bm
def qJo:ChR:=hrN (qWb p sp sr h) 0 0 v y1 t s2 r2 fm am bm
def jEs:qGx:=⟨0,t,s2,r2,fm,am,bm,[(0,v),(1,v)],[],[(v,qCP y2)]⟩
def qKk:ChR:=⟨p,h,sp,sr,4,awS,[],[jEs t s2 r2 fm am bm v y2],[y1,y2]⟩
def jFZ:qGx:=⟨0,t,s2,r2,fm,am,bm,[(0,v),(1,v)],[(0,())],[(v,qCP y2)]⟩
def qDZ:ChR:=⟨p,h,sp,sr,4,awS,[],[jFZ t s2 r2 fm am bm v y2],[y1,y2]⟩
variable {p sp sr h t s2 r2 fm am bm v v1 y1 y2 y3}
theorem jFc:forV awS [(0,v)] v=1:=by
 unfold forV qWm;simp only[List.length_cons,List.length_nil,qHD];rw[show sR (vF [(0,v)] 0) v=true from qEu v];rfl
theorem jFH:forV awS [(0,v),(1,v)] v=2:=by
 unfold forV qWm;simp only[List.length_cons,List.length_nil,qHD];rw[show sR (vF [(0,v),(1,v)] 0) v=true from qEu v,show sR (vF [(0,v),(1,v)] 1) v=true from qEu v];rfl
theorem jCB:qAJ 4 awS [] 0 v=0:=rfl
theorem jEg:qAJ 4 awS [(0,v)] 1 v=0:=rfl
theorem jAg (hv:sR v v1=false):qAJ 4 awS [(0,v),(1,v)] 0 v1=52:=by
 unfold qAJ;rw[if_neg (by decide),if_neg (by decide),show qAs eqI 0 [((0:Int),v),(1,v)]=some v from rfl]
 simp only[hv];rfl
theorem qZ8:slX (qJo p sp sr h t s2 r2 fm am bm v y1) 0=some (jF4 t s2 r2 fm am bm v y1)∧slI (qJo p sp sr h t s2 r2 fm am bm v y1) 0=some 0:=⟨rfl,rfl⟩
theorem jBW:slX (qKk p sp sr h t s2 r2 fm am bm v y1 y2) 0=some (jEs t s2 r2 fm am bm v y2)∧slI (qKk p sp sr h t s2 r2 fm am bm v y1 y2) 0=some 0:=⟨rfl,rfl⟩
theorem jCV:slX (qDZ p sp sr h t s2 r2 fm am bm v y1 y2) 0=some (jFZ t s2 r2 fm am bm v y2)∧slX (qDZ p sp sr h t s2 r2 fm am bm v y1 y2) 1=none:=⟨rfl,rfl⟩
theorem jFw:qFx awS 4 [(0,v)] [(v,qCP y1)]=(fun _=>0,false):=by
 show qSZ awS 4 [(0,v)] (fun _=>0,false) v=_
 unfold qSZ;rw[jFc,show qF1 1 (qBM awS 4).a=false from rfl];rfl
theorem qXa:qFx awS 4 [(0,v),(1,v)] [(v,qCP y2)]=(v,true):=by
 show qSZ awS 4 [(0,v),(1,v)] (fun _=>0,false) v=_
 unfold qSZ;rw[jFH,show qF1 2 (qBM awS 4).a=true from rfl];rfl
theorem jFs:bvF (qJo p sp sr h t s2 r2 fm am bm v y1) 0=false:=by
 unfold bvF;rw[qZ8.1];exact congrArg Prod.snd jFw
theorem jFC:bvF (qKk p sp sr h t s2 r2 fm am bm v y1 y2) 0=true∧bvB (qKk p sp sr h t s2 r2 fm am bm v y1 y2) 0=qCP y2:=by
 unfold bvF bvB;rw[jBW.1];refine⟨congrArg Prod.snd qXa,?_⟩;show(qAs sR (qFx awS 4 [(0,v),(1,v)] [(v,qCP y2)]).1 [(v,qCP y2)]).getD _=_;rw[qXa];simp only[qAs,qEu,if_true];rfl
theorem qWH:bvF (qDZ p sp sr h t s2 r2 fm am bm v y1 y2) 0=true∧bvB (qDZ p sp sr h t s2 r2 fm am bm v y1 y2) 0=qCP y2∧bvF (qDZ p sp sr h t s2 r2 fm am bm v y1 y2) 1=false:=by
 unfold bvF bvB;rw[jCV.1,jCV.2];refine⟨congrArg Prod.snd qXa,?_,rfl⟩;show(qAs sR (qFx awS 4 [(0,v),(1,v)] [(v,qCP y2)]).1 [(v,qCP y2)]).getD _=_;rw[qXa];simp only[qAs,qEu,if_true];rfl
theorem jEd {q:BytL} (hX:unX q=0) (hH:unH q=0) (a b:Nat):qD6 (qWb p sp sr h) 0 0 q v=0∧hrX (qWb p sp sr h) 0 0 q v a b t s2 r2 fm am bm=qJo p sp sr h t s2 r2 fm am bm v ⟨a,q.wn,q.wn+b,q.wf⟩:=by
 have h5:=qQY (X:=qWb p sp sr h) (k:=0) (w:=0) (y:=q) (v:=v) (by rw[hX,hH];simp) rfl (fun z=>(by cases(show(0:Nat)=20 from z))) jCB
 exact⟨h5.1,h5.2 ..⟩
theorem jBU {q:BytL} (hX:unX q=0) (hH:unH q=0) (a b c d e f g i:Nat):qD6 (qJo p sp sr h t s2 r2 fm am bm v y1) 0 1 q v=0∧hrX (qJo p sp sr h t s2 r2 fm am bm v y1) 0 1 q v a b c d e f g i=qKk p sp sr h t s2 r2 fm am bm v y1 ⟨a,q.wn,q.wn+b,q.wf⟩:=by
 have h3:=qOa (X:=qJo p sp sr h t s2 r2 fm am bm v y1) (k:=0) (w:=1) (y:=q) (v:=v) (by rw[hX,hH];simp) qZ8.1 qZ8.2
 refine⟨h3.1.trans jEg,(h3.2 ..).trans ?_⟩;have e1:qBo 4 awS [(0,v)] 1 v=[(0,v),(1,v)]:=(qFE jEg).1;have e2:qCw sR v (qCP ⟨a,q.wn,q.wn+b,q.wf⟩) [(v,qCP y1)]=[(v,qCP ⟨a,q.wn,q.wn+b,q.wf⟩)]:=by simp[qCw,qEu]
 unfold hrO slU qKk jEs;show ChR.mk p h sp sr 4 awS [] ([jF4 t s2 r2 fm am bm v y1].set 0 ⟨0,t,s2,r2,fm,am,bm,qBo 4 awS [(0,v)] 1 v,[],qCw sR v (qCP ⟨a,q.wn,q.wn+b,q.wf⟩) [(v,qCP y1)]⟩) ([y1]++[_])=_;rw[e1,e2];rfl
theorem jBV {q:BytL} (hX:unX q=0) (hH:unH q=0) (hv:sR v v1=false) (a b c d e f g i:Nat):qD6 (qKk p sp sr h t s2 r2 fm am bm v y1 y2) 0 0 q v1=52∧hrX (qKk p sp sr h t s2 r2 fm am bm v y1 y2) 0 0 q v1 a b c d e f g i=qDZ p sp sr h t s2 r2 fm am bm v y1 y2:=by
 have h3:=qOa (X:=qKk p sp sr h t s2 r2 fm am bm v y1 y2) (k:=0) (w:=0) (y:=q) (v:=v1) (by rw[hX,hH];simp) jBW.1 jBW.2
 refine⟨h3.1.trans (jAg hv),(h3.2 ..).trans ?_⟩;have hne:qAJ 4 awS [(0,v),(1,v)] 0 v1≠0:=by rw[jAg hv];decide
 have e1:qBo 4 awS [(0,v),(1,v)] 0 v1=[(0,v),(1,v)]:=qRx hne;have e2:qBX 4 awS [(0,v),(1,v)] [] 0 v1=[(0,())]:=(qM1 (A:=[]) (jAg hv)).2;unfold hrO slU;show ChR.mk p h sp sr 4 awS [] ([jEs t s2 r2 fm am bm v y2].set 0 ⟨0,t,s2,r2,fm,am,bm,qBo 4 awS [(0,v),(1,v)] 0 v1,qBX 4 awS [(0,v),(1,v)] [] 0 v1,if qAJ 4 awS [(0,v),(1,v)] 0 v1=0 then qCw sR v1 _ [(v,qCP y2)] else[(v,qCP y2)]⟩) (if qAJ 4 awS [(0,v),(1,v)] 0 v1=0 then[y1,y2]++[_] else[y1,y2])=_
 rw[e1,e2,if_neg hne,if_neg hne];rfl
theorem jDG:rnN (qDZ p sp sr h t s2 r2 fm am bm v y1 y2) 0=1∧rnL (qDZ p sp sr h t s2 r2 fm am bm v y1 y2) 0 0=y2.n∧rnF (qDZ p sp sr h t s2 r2 fm am bm v y1 y2) 0 0=y2.f:=by
 refine⟨(qYI (m:=1) (by decide) (fun j hj=>?_) ?_).symm,?_,?_⟩
 ·rw[show j=0 by omega];exact qWH.1
 ·exact qWH.2.2
 ·show(bvB _ 0).wn=_
  rw[qWH.2.1];rfl
 ·show(bvB _ 0).wf=_
  rw[qWH.2.1];rfl
theorem jCC:fgN (qDZ p sp sr h t s2 r2 fm am bm v y1 y2) 1=1∧qBs (fgX (qDZ p sp sr h t s2 r2 fm am bm v y1 y2) 1).D (hgL (fgX (qDZ p sp sr h t s2 r2 fm am bm v y1 y2) 1).l).length=false:=⟨rfl,rfl⟩
end
def blL (b:BytL):qA6:=if b.wn=0 then bysZ else qZu 0 1 1 (qXo [b])
def blG (h:UInt64) (b:BytL) (a r:Nat):Grw UInt8:=qUN h (blL b) a r
def blN (h:UInt64) (b:BytL):Nat:=pkL h (blL b).wn (blL b).wf (blL b).wn
def blF (h:UInt64) (b:BytL):Nat→UInt8:=pkF h (blL b).wn (blL b).wf (blL b).wn
def blQ (h:UInt64) (b:BytL):BytL:=qBO 0 (blN h b) (blN h b) (blF h b)
section
variable {h:UInt64} {b:BytL} {a r:Nat}
theorem qQC (hl:b.wn≤1000):qKn (blL b)=0:=by
 unfold blL;by_cases h0:b.wn=0
 ·rw[if_pos h0];decide
 ·rw[if_neg h0]
  refine jDB ?_ ?_
  ·rw[qCL,Bool.or_eq_false_iff]
   refine⟨rfl,qFP fun k hk=>?_⟩
   have:k=0:=by have:k<1:=hk;omega
   subst this;show(!szB b.wn)=false;rw[qV1.2 ⟨by omega,hl⟩];rfl
  ·exact qFP fun k hk=>by
    have:k=0:=by have:k<1:=hk;omega
    subst this;rfl
theorem qZo (hl:b.wn≤1000):blG h b a r=qAp (blN h b) (blF h b) a r:=by
 unfold blG;rw[qNq (qQC hl)];rfl
theorem qCK (hl:b.wn≤1000):0<blN h b∧blN h b≤2000:=by
 have h1:=qUv (h:=h) (n:=(blL b).wn) (e:=(blL b).wf) (k:=(blL b).wn);refine⟨by unfold blN;omega,?_⟩
 obtain⟨h2,_⟩:=qRM (qQC hl);have h3:=qYS (h:=h) (n:=(blL b).wn) (e:=(blL b).wf) (k:=(blL b).wn) fun i hi=>(h2.2 i hi).2
 have h4:(blL b).wn≤1:=by
  unfold blL;split
  ·exact Nat.zero_le _
  ·exact Nat.le_refl 1
 unfold blN;omega
theorem qQl (hl:b.wn≤1000):gsV (blG h b a r)=.slice (some ⟨a,0,none⟩) (blN h b) (blN h b+r)∧gsE u8C [u8 0] 1 (blG h b a r)=some ⟨a,true,0,spr (blN h b+r) (blN h b) (fun k=>u8 (blF h b k)) (u8 0)⟩:=by
 have h1:=(qCK (h:=h) hl).1;rw[qZo hl];have hz:(qAp (blN h b) (blF h b) a r).z=false:=decide_eq_false (by omega)
 exact⟨qGR hz,by rw[qMu,qM6 hz];rfl⟩
theorem qLe (hl:b.wn≤1000) {nm c:Nat}:unX (qBO nm (blN h b) c (blF h b))=0∧unH (qBO nm (blN h b) c (blF h b))=h:=by
 obtain⟨e1,e2⟩:=qZT (h:=h) (a:=0) (r:=0) (qQC hl);obtain⟨h1,h2,_⟩:=jFX (h:=h) (l:=blL b) (q:=qBO nm (blN h b) c (blF h b)) (qQC hl) rfl fun k _=>rfl
 exact⟨h1,h2⟩
end
structure ClR where
 h:UInt64
 w:Int
 y:BytL
def qHi (x:ClR):List Value:=[u64 x.h,int x.w,qA3 x.y]
def qPS (x:ClR):(qHi x).length=3∧(qHi x).all Value.oneCell'=true:=⟨rfl,rfl⟩
def clZ:List Value:=[u64 0,int 0,.slice none 0 0]
def jGf:ClR:=⟨0,0,qAf none 0⟩
def jCY (bs:List (Option Blk)) (i:Nat):Value:=match bs[i]?with
 |some (some b)=>match b.cont with
  |.lit [_,_,v]=>v
  | _=>undef
 | _=>undef
section
variable {P:Program} {t e:TypeId}
theorem qUo {α:Type} {C:α→List Value} {zc:List Value} {sz:Nat} (hs:qBT P t=some sz) (ha:qWl P t=some true) (hC:∀a,(C a).length=sz) (h0:0<sz) {A:Grw α} (hz:A.z=false) (i:Nat) (hi:i<A.n):
  qFg P (qVH t (ptr A.nm (0+i*sz))) [roO (gsE C zc sz A)] 0 (fun _=>.agg (C (A.f i)).toArray) (fun _=>[none]):=by
 rw[qDy hz];intro w hm hap;have hS:qAn ⟨A.nm,false,0,qGn sz (A.n+A.r) A.n (fun k=>C (A.f k)) zc⟩ w:=hm 0 _ rfl
 refine⟨[],w,rfl,.inl ?_,?_⟩
 ·have hr:=qFu (P:=P) (t:=t) (w:=w) (b:=A.nm) (o:=0+i*sz) (cs:=C (A.f i)) hs ha (hC _) fun k v hk=>by
   have hk4:k<sz:=by
    have:=(List.getElem?_eq_some_iff.1 hk).1;rw[hC] at this;exact this
   rw[Nat.add_assoc];refine hS.cell (i*sz+k) v ?_;show(qAL.tab (A.n+A.r) sz fun k=>if k<A.n then C (A.f k) else zc).get (i*sz+k)=some v
   have hlt:i*sz+k<(A.n+A.r)*sz:=by
    have h1:(i+1)*sz≤(A.n+A.r)*sz:=Nat.mul_le_mul_right sz (by omega)
    rw[Nat.add_mul,Nat.one_mul] at h1;omega
   rw[qAL.get_tab hlt,Nat.mul_comm i sz,Nat.mul_add_div h0,Nat.div_eq_of_lt hk4,Nat.add_zero,Nat.mul_add_mod,Nat.mod_eq_of_lt hk4,if_pos hi];exact hk
  show(Instr.loadAt t (Value.pointer (some {block:=A.nm,off:=0+i*sz})) >>= fun v=>Sem.pure (Next.value v)).run P w=_
  rw[Sem.run_bind,hr];rfl
 ·exact⟨fun p b hpb=>by rcases p with _ |p<;>simp[lM] at hpb,fun p q b c _ hpb=>by rcases p with _ |p<;>simp[lM] at hpb,(Adv.refl _ _).weak fun p b hpb=>by rcases p with _ |p<;>simp[lM] at hpb⟩
end
noncomputable def hrY (X:ChR) (k:UInt64) (w:Int) (y:BytL) (v:Nat→UInt8) (a b c d e f g i:Nat):ChR:=⟨X.p,X.h,X.sp,X.sr,X.n,X.s,X.D,(hrX X k w y v a b c d e f g i).l,(hrX X k w y v a b c d e f g i).R⟩
def qQJ (X:ChR) (k:UInt64) (w:Int) (y:BytL) (v:Nat→UInt8) (a b c d e f g i:Nat):hrY X k w y v a b c d e f g i=hrX X k w y v a b c d e f g i:=by
 unfold hrY hrX;split
 ·rfl
 ·split
  ·rfl
  ·split
   ·rfl
   ·split<;>rfl
structure qGZ where
 wa:Option Addr
 wn:Nat
 wc:Nat
 wb:Nat
 wo:Nat
 wf:Nat→UInt64
def qXy (q:qGZ):Value:=.slice q.wa q.wn q.wc
def jEl (q:qGZ):Blk:=⟨q.wb,false,q.wo,qAd q.wn fun k=>u64 (q.wf k)⟩
structure OkU (q:qGZ):Prop where
 cap:q.wn≤q.wc
 ad:0<q.wn→q.wa=some ⟨q.wb,q.wo,none⟩
 len:q.wn≤9223372036854775807
def qZh (q:qGZ) (b:Blk):Prop:=0<q.wn∧b=jEl q
section
open Go.RowKit Go.WideShapes Go.ChangeShapes Go.ChangeAt Go.Deep
variable {H:Type} {enc:TypeId×Value→H} {P:Program}
theorem qSu {r:Reach} {b0:Nat} {W:World} {base:Nat} {sp:Nat→Bool} {held:Bool} {t e:TypeId} {v:Value} {d:DataW H} {ps:List MemPlace} (ht:P.underlying t=some (.slice e)) (he:P.underlying e=some (.int .u64))
  (hc:P.cellsOf e=1) (hval:Value.okWide P W r b0 t v) (hd:DataW.Trod enc P W base sp held t v d ps):∃q:qGZ,v=.slice q.wa q.wn q.wc∧OkU q∧qCM (qZh q) W:=by
 obtain⟨a1,len,cap,rfl⟩:=okWide_slice ht hval;obtain⟨fuel,hf⟩:=hd;obtain⟨wa,wn,wc,wb,wo,f,e1,e2,e3,e4,_,e6⟩:=qHQ (α:=UInt64) u64 (fun _=>True) ht hc (fun n v x hx=>by
  obtain⟨z,hz⟩:=qRv he hx;exact⟨z,hz,trivial⟩) hf
 injection e1 with h1 h2 h3;subst h1 h2 h3;exact⟨⟨a1,len,cap,wb,wo,f⟩,rfl,⟨e2,e3,e4⟩,fun b ⟨h0,hb⟩=>by subst hb;exact⟨e6 h0,rfl⟩⟩
end
end Go.Eng
namespace Go.Eng
def jFl {X:ChR} (hX:qGN X) (k:UInt64) (a r:Nat):(clG (bvB X k) a r).ok:=fun hz=>by
 show(bvB X k).wn=0;have h1:OkB (bvB X k):=by
  unfold bvB;cases hs:slX X k with
  |none=>exact qG2
  |some x=>
   obtain⟨i,_,hi,_⟩:=qNl hs;exact(hX.look_ok (List.mem_of_getElem? hi) _).1
 refine Nat.eq_zero_of_not_pos fun h0=>?_
 have h2:=h1.ad h0;have hz':(bvB X k).wa.isNone=true:=hz;rw[h2] at hz';cases hz'
def gA (p:Nat→Bool) (L:Nat→Nat) (g:Nat→Nat→UInt8) (c d k:Nat):Nat→Option (Nat×qBc):=fun i=>if i<k∧p i=true then some (qC5 c i,qZa (L i) (qC5 d i) (g i)) else none
def qMk (p:Nat→Bool):Nat→Option Nat
 |0=>none
 |k+1=>if p k=true then some k else qMk p k
def plA (p:Nat→Bool) (L:Nat→Nat) (g:Nat→Nat→UInt8) (c d k:Nat):Option Blk:=match qMk p k with
 |none=>none
 |some m=>some ⟨qC5 c m,true,0,.pile 4 (gA p L g c d k)⟩
section
variable {p:Nat→Bool} {L:Nat→Nat} {g:Nat→Nat→UInt8} {c d k n1 n2:Nat}
theorem qQX:∀{k m:Nat},qMk p k=some m→m<k∧p m=true
 |0,m,h=>by cases h
 |k+1,m,h=>by
  unfold qMk at h;split at h
  ·rename_i h0
   injection h with h;subst h;exact⟨Nat.lt_succ_self _,h0⟩
  ·obtain⟨h1,h2⟩:=qQX (k:=k) h
   exact⟨by omega,h2⟩
theorem qHm:∀{k i:Nat},i<k→p i=true→∃m,qMk p k=some m
 |0,i,h,_=>absurd h (Nat.not_lt_zero i)
 |k+1,i,h,h0=>by
  unfold qMk;split
  ·exact⟨k,rfl⟩
  ·rename_i hk
   by_cases e:i=k
   ·subst e;exact absurd h0 hk
   ·exact qHm (k:=k) (by omega) h0
theorem qYK {i:Nat} (hi:i<k):gA p L g (qAK c k n1) (qAK d k n2) (k+1) i=gA p L g c d k i:=by
 unfold gA;rw[qCu hi,qCu hi];by_cases h:p i=true
 ·rw[if_pos ⟨by omega,h⟩,if_pos ⟨hi,h⟩]
 ·rw[if_neg (fun e=>h e.2),if_neg (fun e=>h e.2)]
theorem jAu (h0:p k=true):plA p L g (qAK c k n1) (qAK d k n2) (k+1)=some ⟨n1,true,0,.pile 4 (gA p L g (qAK c k n1) (qAK d k n2) (k+1))⟩:=by
 unfold plA;rw[show qMk p (k+1)=some k from if_pos h0];show some (⟨qC5 (qAK c k n1) k,true,0,_⟩:Blk)=_;rw[qCt]
theorem jDD (h0:¬p k=true):plA p L g (qAK c k n1) (qAK d k n2) (k+1)=plA p L g c d k:=by
 have hg:gA p L g (qAK c k n1) (qAK d k n2) (k+1)=gA p L g c d k:=funext fun i=>by
  by_cases hi:i<k
  ·exact qYK hi
  ·unfold gA
   have h1:¬(i<k+1∧p i=true):=fun e=>by
    by_cases hk:i=k
    ·subst hk;exact h0 e.2
    ·have:=e.1;omega
   rw[if_neg h1,if_neg (fun e=>hi e.1)]
 unfold plA;rw[show qMk p (k+1)=qMk p k from if_neg h0,hg];cases e:qMk p k with
 |none=>rfl
 |some m=>show some (⟨qC5 (qAK c k n1) m,true,0,_⟩:Blk)=some ⟨qC5 c m,true,0,_⟩;rw[qCu (qQX e).1]
theorem jDd (h0:p k=true):qK2 (plA p L g c d k) ⟨n1,true,0,spr (L k+n2) (L k) (fun j=>u8 (g k j)) (u8 0)⟩ 4 (gA p L g (qAK c k n1) (qAK d k n2) (k+1)):=by
 refine⟨k,fun i j pc hi hg=>?_⟩
 by_cases hik:i<k
 ·left
  rw[qYK hik] at hg;have hp:p i=true:=by
   unfold gA at hg;by_cases h:p i=true
   ·exact h
   ·rw[if_neg (fun e=>h e.2)] at hg;cases hg
  obtain⟨m,hm⟩:=qHm hik hp;exact⟨_,_,_,by unfold plA;rw[hm],rfl,rfl,hi,hg⟩
 ·right
  unfold gA at hg;split at hg
  ·rename_i h
   have:i=k:=by omega
   subst this;injection hg with hg;injection hg with h1 h2;rw[qCt] at h1 h2;refine⟨rfl,h1.symm,.inl ?_⟩;rw[←h2];rfl
  ·cases hg
end
def anN (l:qA6) (f:UInt64) (i:Nat):Nat:=min 4 (i-f.toNat)
def anP (l:qA6) (f:UInt64) (k:Nat):Bool:=!(l.wf (f.toNat+k)).wa.isNone
def anL (l:qA6) (f:UInt64) (k:Nat):Nat:=(l.wf (f.toNat+k)).wn
def anW (l:qA6) (f:UInt64) (k:Nat):Nat→UInt8:=(l.wf (f.toNat+k)).wf
def anY (l:qA6) (f:UInt64) (c d k:Nat):BytL:=qSU (clG (l.wf (f.toNat+k)) (qC5 c k) (qC5 d k))
def anC (l:qA6) (w:Int) (f:UInt64) (c d k:Nat):ClR:=⟨UInt64.ofNat (f.toNat+k),w,anY l f c d k⟩
def plN (l:qA6) (f:UInt64) (c d k:Nat):Option Blk:=plA (anP l f) (anL l f) (anW l f) c d k
abbrev anG (l:qA6) (w:Int) (f:UInt64) (k c d nm r:Nat):Grw ClR:=qAp k (anC l w f c d) nm r
section
variable {l:qA6} {w:Int} {f:UInt64}
theorem jAB {i:Nat} (h:decide (f≤UInt64.ofNat i)=true) (hi:i<18446744073709551616) (hk:anN l f i<4):f.toNat+anN l f i=i∧anN l f (i+1)=anN l f i+1:=by
 have h1:=UInt64.le_iff_toNat_le.1 (of_decide_eq_true h);rw[UInt64.toNat_ofNat_of_lt' hi] at h1;unfold anN at hk ⊢;omega
theorem qZQ {i:Nat} (hi:i<18446744073709551616) (h:decide (f≤UInt64.ofNat i)=false∨¬anN l f i<4):anN l f (i+1)=anN l f i:=by
 rcases h with h|h
 ·have h1:¬f.toNat≤(UInt64.ofNat i).toNat:=fun e=>of_decide_eq_false h (UInt64.le_iff_toNat_le.2 e)
  rw[UInt64.toNat_ofNat_of_lt' hi] at h1;unfold anN;omega
 ·unfold anN at h ⊢;omega
theorem qKd {i k:Nat} (hk:k=anN l f i) (h:qA0 (decide (f≤UInt64.ofNat i)) (decide (k<4)) false=true) (hi:i≤30):f.toNat+k=i∧k+1=anN l f (i+1)∧k<4:=by
 rw[qCH,Bool.and_eq_true] at h;subst hk;have e:=jAB h.1 (by omega) (of_decide_eq_true h.2)
 exact⟨e.1,e.2.symm,of_decide_eq_true h.2⟩
theorem jCA {i k:Nat} (hk:k=anN l f i) (h:qA0 (decide (f≤UInt64.ofNat i)) (decide (k<4)) false=false) (hi:i≤30):k=anN l f (i+1):=by
 rw[qCH,Bool.and_eq_false_iff] at h;subst hk;exact(qZQ (by omega) (h.imp id fun h2=>of_decide_eq_false h2)).symm
theorem qRc {k c d n1 n2 i:Nat} {u:UInt64} (hi:f.toNat+k=i) (hu:u=UInt64.ofNat i) {A:Grw ClR} (hz:A.z=false) (hn:A.n=k+1) (hA:A.f=qAj (anC l w f c d) k fun _ =>⟨u,w,qOf (gsV (clG (l.wf i) n1 n2))⟩):
  gsV A=gsV (anG l w f (k+1) (qAK c k n1) (qAK d k n2) A.nm A.r)∧gsE qHi clZ 3 A=gsE qHi clZ 3 (anG l w f (k+1) (qAK c k n1) (qAK d k n2) A.nm A.r):=
 qNu hn (by rw[hz,decide_eq_false (by omega)]) fun j hj=>by
  rw[hA];unfold qAj;by_cases h:j<k
  ·rw[if_pos h];unfold anC anY;rw[qCu h,qCu h]
  ·have:j=k:=by omega
   subst this;rw[if_neg h];unfold anC anY;rw[qCt,qCt,hi,hu];rfl
theorem jFA {i k a r:Nat} (hi:f.toNat+k=i) (h:anP l f k=true):grO u8 (u8 0) (clG (l.wf i) a r)=some ⟨a,true,0,spr (anL l f k+r) (anL l f k) (fun j=>u8 (anW l f k j)) (u8 0)⟩:=by
 subst hi;have h1:(l.wf (f.toNat+k)).wa.isNone=false:=by simpa[anP] using h
 exact qM6 h1
theorem jFj {i k a r:Nat} (hi:f.toNat+k=i) (h:anP l f k=false):grO u8 (u8 0) (clG (l.wf i) a r)=none:=by
 subst hi;have h1:(l.wf (f.toNat+k)).wa.isNone=true:=by simpa[anP] using h
 exact qZL h1
theorem jCT (hl:OkS l) {c d k:Nat} (hk:f.toNat+k<l.wn):OkB (anY l f c d k):=qQi (jDQ _ (hl.el _ hk) _ _) (hl.el _ hk).len
theorem jCL {K c d i:Nat} (hK:K≤4) {w:World} (hb:∀b,roO (plN l f c d K)=some b→qAn b w) (hi:i<K) (hl:OkS l) (h:f.toNat+i<l.wn):qCM (qBi (anY l f c d i)) w:=fun b hb'=>by
 obtain⟨h0,rfl⟩:=hb';have h0:0<(l.wf (f.toNat+i)).wn:=h0;have hp:anP l f i=true:=by unfold anP;rw[(hl.el _ h).ad h0];rfl
 obtain⟨m,hm⟩:=qHm (p:=anP l f) hi hp;have h1:=(hb ⟨qC5 c m,false,0,.pile 4 (gA (anP l f) (anL l f) (anW l f) c d K)⟩ (by unfold plN plA;rw[hm];rfl)).obj
 have h2:qEG (qC5 c i) false (qZa (anL l f i) (qC5 d i) (anW l f i)) w:=h1.1 i _ _ (by omega) (by unfold gA;rw[if_pos ⟨hi,hp⟩])
 have h3:qAn ⟨qC5 c i,false,0,spr (anL l f i+qC5 d i) (anL l f i) (fun j=>u8 (anW l f i j)) (u8 0)⟩ w:=⟨h2.lt,h2.cell,(fun h=>by cases h),trivial⟩
 exact⟨qBw h3,rfl⟩
end
end Go.Eng
end
section
namespace Go.Eng
open Go.RowKit Go.WideShapes Go.ChangeShapes Go.ChangeAt Go.Deep
instance:Inhabited ClR:=⟨jGf⟩
def jFy (n:Nat) (f:Nat→ClR):qAL:=.tab n 3 fun k=>qHi (f k)
structure ClS where
 wa:Option Addr
 wn:Nat
 wc:Nat
 wb:Nat
 wo:Nat
 wf:Nat→ClR
def jGg (x:ClS):Blk:=⟨x.wb,false,x.wo,jFy x.wn x.wf⟩
structure jDx (x:ClS):Prop where
 ad:0<x.wn→x.wa=some ⟨x.wb,x.wo,none⟩
 len:x.wn≤9223372036854775807
 el:∀k,k<x.wn→OkB (x.wf k).y
def qR6 (x:ClS) (z:Blk):Prop:=(0<x.wn∧z=jGg x)∨∃k,k<x.wn∧qBi (x.wf k).y z
section
variable {H:Type} {enc:TypeId×Value→H} {P:Program}
def clB (P:Program) (e u i s:TypeId):Bool:=match P.underlying e with
 |some (.struct fs)=>match fs.toList with
  |[f0,f1,f2]=>(Nat.beq f0.type u&&Nat.beq f0.offset 0)&&((Nat.beq f1.type i&&Nat.beq f1.offset 1)&&(Nat.beq f2.type s&&Nat.beq f2.offset 2))
  | _=>false
 | _=>false
theorem qZX {P:Program} {e u i s:TypeId} (h:clB P e u i s=true):∃f0 f1 f2:Field,P.underlying e=some (.struct #[f0,f1,f2])∧(f0.type=u∧f0.offset=0)∧(f1.type=i∧f1.offset=1)∧(f2.type=s∧f2.offset=2):=by
 unfold clB at h;split at h
 ·rename_i fs hf
  split at h
  ·rename_i f0 f1 f2 hl
   simp only[Bool.and_eq_true] at h;obtain⟨⟨a0,b0⟩,⟨a1,b1⟩,a2,b2⟩:=h;refine⟨f0,f1,f2,?_,⟨Nat.eq_of_beq_eq_true a0,Nat.eq_of_beq_eq_true b0⟩,⟨Nat.eq_of_beq_eq_true a1,Nat.eq_of_beq_eq_true b1⟩,⟨Nat.eq_of_beq_eq_true a2,Nat.eq_of_beq_eq_true b2⟩⟩;rw[hf];have:fs=#[f0,f1,f2]:=by cases fs;simp_all
   rw[this]
  ·cases h
 ·cases h
def GCl (W:World) (x:ClR):Prop:=OkB x.y∧qCM (qBi x.y) W
theorem qQa {r:Reach} {b0:Nat} {W:World} {base:Nat} {sp:Nat→Bool} {held:Bool} {t e u i s b:TypeId} {v:Value} {d:DataW H} {ps:List MemPlace} (ht:P.underlying t=some (.slice e)) (he:clB P e u i s=true)
  (hs:P.underlying s=some (.slice b)) (hb:P.underlying b=some (.int .u8)) (hi:P.underlying i=some (.int .i64)) (hu:P.underlying u=some (.int .u64)) (cs:P.cellsOf s=1) (cb:P.cellsOf b=1) (ci:P.cellsOf i=1) (cu:P.cellsOf u=1) (ce:P.cellsOf e=3)
  (hval:Value.okWide P W r b0 t v) (hd:DataW.Trod enc P W base sp held t v d ps):∃x:ClS,v=.slice x.wa x.wn x.wc∧jDx x∧qCM (qR6 x) W:=by
 obtain⟨f0,f1,f2,hst,g0,g1,g2⟩:=qZX he;have hin:Inhabited {y:ClR // GCl W y}:=⟨⟨jGf,qG2,qLj⟩⟩;rcases qPJ (α:={y:ClR // GCl W y}) (fun y=>qHi y.1) (sz:=3) (fun a=>(qPS a.1).1) (by decide) ht ce (fun n cs' x hl h=>by
  obtain⟨xs,m,_,_,_,hlen,hf⟩:=DataW.trod_struct hst h;obtain⟨c0,c1,c2,rfl⟩:∃c0 c1 c2,cs'=[c0,c1,c2]:=by
   match cs',hl with
   |[c0,c1,c2],_=>exact⟨c0,c1,c2,rfl⟩
  obtain⟨y0,y1,y2,rfl⟩:∃y0 y1 y2,xs=[y0,y1,y2]:=by
   match xs,hlen with
   |[y0,y1,y2],_=>exact⟨y0,y1,y2,rfl⟩
  have k0:=hf 0 f0 rfl;have k1:=hf 1 f1 rfl;have k2:=hf 2 f2 rfl;rw[g0.1,g0.2,cu] at k0;rw[g1.1,g1.2,ci] at k1;rw[g2.1,g2.2,cs] at k2;obtain⟨x0,rfl⟩:=qRv hu (c:=c0) k0;obtain⟨x1,rfl,l1,h1⟩:=qW2 hi (c:=c1) k1;obtain⟨q,rfl,hq,hF⟩:=qMp (v:=c2) hs hb cb k2;exact⟨⟨⟨x0,x1,q⟩,hq,hF⟩,rfl⟩) hval hd with⟨ao,c,rfl⟩|⟨b',o,n,c,f,rfl,hn,hl,hH⟩
 ·exact⟨⟨ao,0,c,0,0,fun _ =>default⟩,rfl,⟨fun h=>absurd h (Nat.lt_irrefl 0),Nat.zero_le _,fun k hk=>absurd hk (Nat.not_lt_zero k)⟩,fun z hz=>by
   rcases hz with⟨h0,_⟩|⟨k,hk,_⟩
   ·exact absurd h0 (Nat.lt_irrefl 0)
   ·exact absurd hk (Nat.not_lt_zero k)⟩
 ·refine⟨⟨some ⟨b',o,none⟩,n,c,b',o,fun k=>(f k).1⟩,rfl,⟨fun _=>rfl,hl,fun k _=>(f k).2.1⟩,fun z hz=>?_⟩
  rcases hz with⟨_,rfl⟩|⟨k,_,hz⟩
  ·exact⟨hH,rfl⟩
  ·exact(f k).2.2 z hz
end
def c9 (X:ChR) (r:List (Nat×Option Blk)):List (Nat×Option Blk):=(0,chH X)::(1,chK X)::(2,chM X)::(3,chT X)::(4,chS X)::(5,chF X)::(6,chA X)::(7,chB X)::(8,chR X)::r
def jA2 {X:ChR} (h:qGN X):qBn X.D X.l.length≤20:=Nat.le_trans (qHT _ _) h.len
end Go.Eng
end
section
namespace Go.Eng
def qKC (s:Nat→UInt64) (lies:Nat→Bool) (n:Nat):Nat:=qHD (fun w=>if lies w=true then(s w).toNat else 0) n
structure qN3 (lies:Nat→Bool) (N:Nat) (ν:UInt64→Nat→UInt8) (δ:BytL→Nat→UInt8) (X:ChR):Prop where
 ok:qGN X
 d:X.D=[]
 fw:∀x∈X.l,FW X.n X.s x.F
 hon:∀x∈X.l,∀p w,w<X.n→qNg x.F p w=true→lies w=false→x.key.toNat<N∧sR p (ν x.key)=true
 blk:∀x∈X.l,∀e∈x.B,sR e.1 (δ e.2)=true
section
variable {lies:Nat→Bool} {N:Nat} {ν:UInt64→Nat→UInt8} {δ:BytL→Nat→UInt8} {X:ChR}
theorem qN3.zero {n:Nat} {f:Nat→UInt64} (h0:0<n) (hg:qJJ n f) (p sp sr h:Nat):qN3 lies N ν δ (chN n f p sp sr h) where
 ok:=qYL h0 hg p sp sr h
 d:=rfl
 fw:=fun x hx=>by cases hx
 hon:=fun x hx=>by cases hx
 blk:=fun x hx=>by cases hx
theorem qT5 {F:Fst} {who:Int} {v p:Nat→UInt8} {w:Nat} (h:qNg (F++[(who,v)]) p w=true):qNg F p w=true∨(((w:Nat):Int)=who∧sR v p=true):=by
 unfold qNg fdB fdV at h ⊢;rw[qRm] at h;cases hf:qAs eqI ((w:Nat):Int) F with
 |some y=>rw[hf] at h;left;exact h
 |none=>
  rw[hf] at h;simp only at h;by_cases hw:eqI ((w:Nat):Int) who=true
  ·rw[if_pos hw] at h
   right;simp only[Option.isSome_some,Bool.true_and,Option.getD_some] at h;exact⟨by simpa[eqI] using hw,h⟩
  ·rw[if_neg hw] at h;simp at h
theorem qXY {n:Nat} {s:Nat→UInt64} {F:Fst} {who:Int} {v p:Nat→UInt8} {w:Nat} (h:qNg (qBo n s F who v) p w=true):qNg F p w=true∨(((w:Nat):Int)=who∧sR v p=true):=by
 rcases qSh (n:=n) (s:=s) (F:=F) who v with e|⟨_,e⟩
 ·rw[e] at h;exact .inl h
 ·rw[e] at h;exact qT5 h
theorem qN3.step (h:qN3 lies N ν δ X) (hδ:∀a b:BytL,a.wn=b.wn→a.wf=b.wf→δ a=δ b) {k:UInt64} {w:Int} {y:BytL} (h3:y.wn≤3000)
  (hc:∀i:Nat,((i:Nat):Int)=w→i<X.n→lies i=false→k.toNat<N∧sR (δ y) (ν k)=true) (a b c d e f g i:Nat):qN3 lies N ν δ (hrX X k w y (δ y) a b c d e f g i):=by
 have hok:=qUg h.ok h.d k w y (δ y) h3 a b c d e f g i;have hdd:(hrX X k w y (δ y) a b c d e f g i).D=[]:=(jFL ..).trans h.d;by_cases hb:unX y≠0∨unH y≠k
 ·rw[(qVB (X:=X) (w:=w) (v:=δ y) hb).2];exact h
 cases hs:slX X k with
 |some x=>
  obtain⟨j,hj,hl,hk,_,_⟩:=qNl hs;have e3:=(qOa (w:=w) (v:=δ y) hb hs hj).2 a b c d e f g i;rw[e3] at hok hdd ⊢;have hx:x∈X.l:=List.mem_of_getElem? hl;have mem:∀z∈(hrO X j x w (δ y) ⟨a,y.wn,y.wn+b,y.wf⟩).l,z∈X.l∨z=slU X x w (δ y) (qCP ⟨a,y.wn,y.wn+b,y.wf⟩):=fun z hz=>by
   rcases List.mem_or_eq_of_mem_set hz with h1|h1
   ·exact .inl h1
   ·exact .inr h1
  refine⟨hok,hdd,fun z hz=>?_,fun z hz p w' hw' hp hl'=>?_,fun z hz e' he=>?_⟩
  ·rcases mem z hz with hz|rfl
   ·exact h.fw z hz
   ·exact(h.fw x hx).vote w (δ y)
  ·rcases mem z hz with hz|rfl
   ·exact h.hon z hz p w' hw' hp hl'
   ·rcases qXY (n:=X.n) (s:=X.s) (F:=x.F) (who:=w) (v:=δ y) hp with h1|⟨h1,h2⟩
    ·exact h.hon x hx p w' hw' h1 hl'
    ·obtain⟨h4,h5⟩:=hc w' h1 hw' hl'
     have hkk:(slU X x w (δ y) (qCP ⟨a,y.wn,y.wn+b,y.wf⟩)).key=k:=hk;rw[hkk];exact⟨h4,qIz (qLk h2) h5⟩
  ·rcases mem z hz with hz|rfl
   ·exact h.blk z hz e' he
   ·have he:e'∈(if qAJ X.n X.s x.F w (δ y)=0 then qCw sR (δ y) (qCP ⟨a,y.wn,y.wn+b,y.wf⟩) x.B else x.B):=he
    split at he
    ·rcases qQo qIk he with rfl|he
     ·rw[hδ (qCP ⟨a,y.wn,y.wn+b,y.wf⟩) y rfl rfl];exact qEu _
     ·exact h.blk x hx e' he
    ·exact h.blk x hx e' he
 |none=>
  by_cases h20:X.l.length=20
  ·rw[(qVS (w:=w) (v:=δ y) hb hs h20).2];exact h
  by_cases hv:qAJ X.n X.s [] w (δ y)=0
  ·have e5:=(qQY (w:=w) (v:=δ y) hb hs h20 hv).2 a b c d e f g i
   rw[e5] at hok hdd ⊢;have eF:qBo X.n X.s [] w (δ y)=[(w,δ y)]:=by unfold qBo;rw[if_pos hv];rfl
   have mem:∀z∈(hrN X k w (δ y) ⟨a,y.wn,y.wn+b,y.wf⟩ c d e f g i).l,z∈X.l∨z=slN k w (δ y) ⟨a,y.wn,y.wn+b,y.wf⟩ c d e f g i:=fun z hz=>by
    rcases List.mem_append.1 hz with h1|h1
    ·exact .inl h1
    ·exact .inr (List.mem_singleton.1 h1)
   refine⟨hok,hdd,fun z hz=>?_,fun z hz p w' hw' hp hl'=>?_,fun z hz e' he=>?_⟩
   ·rcases mem z hz with hz|rfl
    ·exact h.fw z hz
    ·have:=(FW.nil X.n X.s).vote w (δ y)
     rw[eF] at this;exact this
   ·rcases mem z hz with hz|rfl
    ·exact h.hon z hz p w' hw' hp hl'
    ·rcases qT5 (F:=[]) (who:=w) (v:=δ y) hp with h1|⟨h1,h2⟩
     ·simp[qNg,fdB,qAs] at h1
     ·obtain⟨h4,h5⟩:=hc w' h1 hw' hl'
      exact⟨h4,qIz (qLk h2) h5⟩
   ·rcases mem z hz with hz|rfl
    ·exact h.blk z hz e' he
    ·rw[List.mem_singleton.1 he]
     show sR (δ y) (δ (qCP ⟨a,y.wn,y.wn+b,y.wf⟩))=true;rw[hδ (qCP ⟨a,y.wn,y.wn+b,y.wf⟩) y rfl rfl];exact qEu _
  ·rw[(qVm (w:=w) (v:=δ y) hb hs h20 hv).2];exact h
theorem qN3.believed (h:qN3 lies N ν δ X) (hbad:3*qKC X.s lies X.n<qLy X.s X.n) {k:UInt64} (hb:bvF X k=true):k.toNat<N∧sR (δ (bvB X k)) (ν k)=true:=by
 obtain⟨x,hs,hf⟩:=qP0 hb;obtain⟨j,hj,hl,hk,_,_⟩:=qNl hs;have hx:x∈X.l:=List.mem_of_getElem? hl;obtain⟨i,hi,ht,e1⟩:=qVi hf;have hV:=h.ok.vok x hx;have hon:x.key.toNat<N∧sR (nmB x.B i) (ν x.key)=true:=by
  by_cases hh:∃w,w<X.n∧qNg x.F (nmB x.B i) w=true∧lies w=false
  ·obtain⟨w,hw,h1,h2⟩:=hh;exact h.hon x hx _ w hw h1 h2
  ·exfalso
   have hle:qWm X.s x.F (nmB x.B i)≤qKC X.s lies X.n:=by
    rw[h.fw x hx];refine qNe _ fun w hw=>?_
    by_cases h1:qNg x.F (nmB x.B i) w=true
    ·rw[if_pos h1]
     have:lies w=true:=by
      cases hl':lies w with
      |true=>rfl
      |false=>exact absurd ⟨w,hw,h1,hl'⟩ hh
     rw[if_pos this];exact Nat.le_refl _
    ·rw[if_neg h1];exact Nat.zero_le _
   unfold thB qF1 at ht;have h2:=of_decide_eq_true ht;rw[hV.forV] at h2;have h3:(qBM X.s X.n).a.toNat=qLy X.s X.n:=hV.all;omega
 have hbv:bvB X k=(qAs sR (qFx X.s X.n x.F x.B).1 x.B).getD (qAf none 0):=by unfold bvB;rw[hs]
 have hin:(qBp rB0 x.B i)∈x.B:=qRQ hi;rw[hk] at hon;refine⟨hon.1,?_⟩;rw[hbv,e1];cases hf':qAs sR (nmB x.B i) x.B with
 |none=>
  have h9:=KD.find qIk (h.ok.kd x hx) (k:=nmB x.B i) (x:=(qBp rB0 x.B i).2) hin;rw[hf'] at h9;cases h9
 |some y=>
  obtain⟨p,hp,h1,h2⟩:=qRy qIk hf';have h4:=h.blk x hx p hp;show sR (δ y) (ν k)=true;rw[←h2];exact qIz (qLk h4) (qIz (qLk h1) hon.2)
end
structure qIj where
 wa:Option Addr
 wn:Nat
 wc:Nat
 wb:Nat
 wo:Nat
 wf:Nat→Bool
def jEG (q:qIj):Blk:=⟨q.wb,false,q.wo,qAd q.wn fun k=>Value.bool (q.wf k)⟩
structure jDe (q:qIj):Prop where
 cap:q.wn≤q.wc
 ad:0<q.wn→q.wa=some ⟨q.wb,q.wo,none⟩
 len:q.wn≤9223372036854775807
def qSz (q:qIj) (b:Blk):Prop:=0<q.wn∧b=jEG q
section
open Go.RowKit Go.WideShapes Go.ChangeShapes Go.ChangeAt Go.Deep
variable {H:Type} {enc:TypeId×Value→H} {P:Program}
theorem qSQ {r:Reach} {b0:Nat} {W:World} {base:Nat} {sp:Nat→Bool} {held:Bool} {t e:TypeId} {v:Value} {d:DataW H} {ps:List MemPlace} (ht:P.underlying t=some (.slice e)) (he:P.underlying e=some .bool)
  (hc:P.cellsOf e=1) (hval:Value.okWide P W r b0 t v) (hd:DataW.Trod enc P W base sp held t v d ps):∃q:qIj,v=.slice q.wa q.wn q.wc∧jDe q∧qCM (qSz q) W:=by
 obtain⟨a1,len,cap,rfl⟩:=okWide_slice ht hval;obtain⟨fuel,hf⟩:=hd;obtain⟨wa,wn,wc,wb,wo,f,e1,e2,e3,e4,_,e6⟩:=qHQ (α:=Bool) Value.bool (fun _=>True) ht hc (fun n v x hx=>by
  obtain⟨z,hz,_⟩:=DataW.trod_bool he hx;simp at hz;exact⟨z,hz,trivial⟩) hf
 injection e1 with h1 h2 h3;subst h1 h2 h3;exact⟨⟨a1,len,cap,wb,wo,f⟩,rfl,⟨e2,e3,e4⟩,fun b ⟨h0,hb⟩=>by subst hb;exact⟨e6 h0,rfl⟩⟩
end
def lgL (l:qA6) (k:Nat):Nat:=blN (UInt64.ofNat k) (l.wf k)
def lgF (l:qA6) (k:Nat):Nat→UInt8:=blF (UInt64.ofNat k) (l.wf k)
def lgS (l:qA6) (n c d nm r:Nat):qA6:=qTa (qAp n (elF c d (lgL l) (lgF l)) nm r)
end Go.Eng
end
section
namespace Go.Proofs.YtmdpendnbkajdaaGreatDoor
open Go Go.Eng
abbrev qTc (a:ByteArray) (b:BytL):=qAj (qAj (qBx (UInt64.ofNat a.size)) 8 (qHM a)) (8+a.size) (qBx (UInt64.ofNat b.wn))
abbrev qPs (a:BytL):=Value.slice a.wa a.wn a.wc
def v2Z(q:UInt64):=qAd 32 (fun k=>u8 (qA8 (N4.mk q 0 0 0) k))
def qMr (q:UInt64):qBI TP 66 [(u64 q)] [] 1 (fun ns=>(Value.slice (some ⟨(ns.getD 0 0),24,none⟩) 8 8)) (fun ns=>[some ⟨(ns.getD 0 0),true,0,(qAd 32 (fun k=>u8 (qA8 (N4.mk q 0 0 0) k)))⟩]):=
 qAl mix Tryz.func66 rfl rfl 400 (.reg (rg [.g]) (.regn (rg [.g,(.call [] 0 0 (fun _=>(Value.agg #[(u64 q),(u64 0),(u64 0),(u64 0)])) (fun _=>[])),(.call [] 1 1 (fun ns=>vS (some ⟨ns.getD 0 0,0,none⟩) 32 32) (fun ns=>[some ⟨ns.getD 0 0,true,0,qAd 32 (fun k=>u8 (qA8 (N4.mk q 0 0 0) k))⟩])),.g,.g]) v1a)) [] [0] rfl
  (Eq.mp (by kernel_rfl) (aI kV1 (fun(n1:Nat)=>aI (sk (aI (aT (qFQ q)) (aI (aT (qSq (N4.mk q 0 0 0))) kV2))) (aT (eX (fun(ns:List Nat)=>ns.length=1∧((vS (some ⟨n1,24,none⟩) 8 8):Value)=(fun ns=>(vS (some ⟨(g0 ns),24,none⟩) 8 8)) ns∧([some ⟨n1,true,0,(v2Z q)⟩]:List (Option Blk))=(fun ns=>[some ⟨(g0 ns),true,0,(v2Z q)⟩]) ns) [n1] (aI v0R (aI (@rfl Value (vS (some ⟨n1,24,none⟩) 8 8)) (@rfl (List (Option Blk)) [some ⟨n1,true,0,(v2Z q)⟩]))))))))
def qMU {F:Blk→Prop} (hT:∀x,qHU x→F x) (c:Nat) (H:HS) (nm:Nat) (f:Nat→UInt8):
  qAt F TP 65 [ptr c 0,.slice (some ⟨nm,24,none⟩) 8 8] [⟨c,true,0,qA1 H⟩,⟨nm,false,0,qAd 32 fun k=>u8 (f k)⟩] 0 (fun _=>.tuple #[]) (fun _=>[some ⟨c,true,0,qA1 (wrH H (fun k=>f (24+k)) 8)⟩,none]):=
 qAt.lendW (cs:=[⟨nm,false,0,qAd 32 fun k=>u8 (f k)⟩]) (qLf c H (qR5 nm 24 8 8 f) (qRS (by decide) (by decide))) (qSF hT) (qR4 hT) rfl (by simp)
def wa1(a:Nat):=@qAo TP 22 29 (.tmp a) (by kernel_rfl)
def wb1(a b:Nat):=@qAk TP 22 29 (.tmp a) (.tmp b) 1 (by kernel_rfl) (by kernel_rfl)
def wc1(a:Nat):=@qAo TP 29 5 (.tmp a) (by kernel_rfl)
def wd1(a:Nat):=@qAM TP 3 23 (.tmp a) (by kernel_rfl) (by kernel_rfl)
def v08(t:ByteArray)(a:BytL):=wrH (wrH (wrH qKV (fun k=>qA8 (N4.mk (uO t.size) 0 0 0) (24+k)) 8) (qHM t) t.size) (fun k=>qA8 (N4.mk (uO a.wn) 0 0 0) (24+k)) 8
def v0h(t:ByteArray):=wrH (wrH qKV (fun k=>qA8 (N4.mk (uO t.size) 0 0 0) (24+k)) 8) (qHM t) t.size
def v0l(t:ByteArray):=wrH qKV (fun k=>qA8 (N4.mk (uO t.size) 0 0 0) (24+k)) 8
def v2t(t:ByteArray):=uO t.size
def v4h(p:Nat)(a:BytL):=@rfl (List (Option Blk)) [some ⟨p,false,0,(.lit [(qPs a)])⟩]
def v51(n3:Nat)(t:ByteArray)(n4:Nat):=vS (some ⟨n3,0,none⟩) t.size (t.size+n4)
def v6a(t:ByteArray)(a:BytL):=qBJ 32 (fun k=>u8 (qTh (wrH (v08 t a) a.wf a.wn) k))
def qYH (p:Nat) (t:ByteArray) (a:BytL) (ht:t.size≤200) (ha:OkB a) (han:a.wn≤3000):qAt (qB8 [a]) TP 42 [(Value.string t),(Value.slice (some ⟨p,0,none⟩) 1 1)] [⟨p,false,0,(.lit [(Value.slice a.wa a.wn a.wc)])⟩] 0 (fun _=>(qBJ 32 (fun k=>u8 (qTh (wrH (wrH (wrH (wrH qKV (fun k=>qA8 (N4.mk (UInt64.ofNat t.size) 0 0 0) (24+k)) 8) (qHM t) t.size) (fun k=>qA8 (N4.mk (UInt64.ofNat a.wn) 0 0 0) (24+k)) 8) a.wf a.wn) k)))) (fun _=>[some ⟨p,false,0,(.lit [(Value.slice a.wa a.wn a.wc)])⟩]):=
 qAm (F:=(qB8 [a])) mix Tryz.func42 rfl rfl 400 (.regn v1f (more (fun n1=>fun _=>(.regn (rg [(.call [] 1 1 (fun ns=>ptr (g0 ns) 0) (fun ns=>[some ⟨ns.getD 0 0,true,0,qA1 qKV⟩])),.g]) (more (fun n2=>fun _=>(.regn (rg [.g,(.oth [] 2 1 (fun ns=>vS (some ⟨ns.getD 0 0,0,none⟩) t.size (t.size+ns.getD 1 0)) (fun ns=>[some ⟨(g0 ns),true,0,(spr (t.size+(g1 ns)) t.size (fun k=>u8 (qHM t k)) (u8 0))⟩])),.bsl,.g,(.othB [(4,false),(0,true)] 2 0 (fun ns=>vS (some ⟨ns.getD 0 0,0,none⟩) 2 (2+ns.getD 1 0)) (fun bs ns=>[some ⟨ns.getD 0 0,true,0,spr (2+ns.getD 1 0) 2 (fun j=>(jDS bs 0++jDS bs 1).getD j v1l) v1l⟩,none])),(aJ 2),.g]) (m5 fun n3 n4 n5 n6 n7=>(.unroll (.reg (rg [.g]) (.yes (.reg (rg [(.as (ptr n6 (0+0*1))),(.ld 4 (.tab 0 0)),.g]) (.regn (rg [.g,.g,(aN t.size),(aQ (v2t t)),(.call [] 1 1 (fun ns=>vS (some ⟨ns.getD 0 0,24,none⟩) 8 8) (fun ns=>[some ⟨ns.getD 0 0,true,0,qAd 32 (fun k=>u8 ((qA8 (N4.mk (v2t t) 0 0 0)) k))⟩])),(.callF [(2,false),(5,true)] 0 0 (fun _=>(vT #[])) (fun _=>[some ⟨n2,true,0,qA1 (v0l t)⟩,none]))]) (more (fun n8=>fun _=>(.reg (rg [.g,.g,(.callF [(2,false),(3,true)] 0 0 (fun _=>(vT #[])) (fun _=>[some ⟨n2,true,0,qA1 (v0h t)⟩,none]))]) (.reg v00 (.unroll (.reg (rg [.g]) (.yes (.reg (rg [(.as (ptr n6 (0+1*1))),(.ld 4 (.tab 1 0)),.g]) (.regn (rg [.g,.g,(aN a.wn),(aQ (uO a.wn)),(.call [] 1 1 (fun ns=>vS (some ⟨ns.getD 0 0,24,none⟩) 8 8) (fun ns=>[some ⟨ns.getD 0 0,true,0,qAd 32 (fun k=>u8 ((qA8 (N4.mk (uO a.wn) 0 0 0)) k))⟩])),(.callF [(2,false),(6,true)] 0 0 (fun _=>(vT #[])) (fun _=>[some ⟨n2,true,0,qA1 (v08 t a)⟩,none]))]) (more (fun n9=>fun _=>(.reg (rg [.g,.g,(.callF [(2,false)] 0 0 (fun _=>(vT #[])) (fun _=>[some ⟨n2,true,0,qA1 (wrH (v08 t a) a.wf a.wn)⟩]))]) (.reg v00 (.unroll (.reg (rg [.g]) (.no (.reg (rg [.g,(.callF [(2,true)] 0 0 (fun _=>(v6a t a)) (fun _=>[none])),v15]) .done)))))))))))))))))))))))))))))) [(1,0)] [] rfl
  (Eq.mp (by kernel_rfl) (fun(n1:Nat)=>aI kV1 (fun(n2:Nat)=>aI (aI (aI tV qWn) kV1) (fun(n3 n4 n5 n6 n7:Nat)=>aI (sk (aI (aT (qWB (P:=TP) (src:=9) (dst:=29) (e:=5) (by kernel_rfl) (by kernel_rfl) (by kernel_rfl) t)) (aI (aT (qAO (P:=TP) (t:=22) (e:=29) qNP 1 #[(0,(v51 n3 t n4))] #[(v51 n3 t n4)] (by kernel_rfl) (by decide) (by kernel_rfl))) (sk (aI (aT (qLX (P:=TP) (t:=22) (ty:=22) (e:=29) (by kernel_rfl) qNP n5 p [(v51 n3 t n4)] [(qPs a)] (by kernel_rfl) (show _∧_ from⟨oT (by kernel_rfl),oT (by kernel_rfl)⟩))) (aI (aT (@wa1 13 (some ⟨n6,0,none⟩) 2 (2+n7))) kV1)))))) (aI kV1 (aT (aI v01 (aI (aI (aT (@wb1 13 15 n6 0 2 (2+n7) 0 (show 0<2 from by omega))) (aI (aT (aI (show 0<2+n7 from by omega) (@rfl Value (ptr n6 (0+0*1))))) kV1)) (fun(n8:Nat)=>aI (sK2 (aI (aT (@wc1 20 (some ⟨n3,0,none⟩) t.size (t.size+n4))) (aI (aT (@wd1 21 t.size)) (aI (aT (qMr (v2t t))) (aI (aT (qMU (qNv (l:=[a])) n2 qKV n8 (qA8 (N4.mk (v2t t) 0 0 0)))) tV))))) (aI (sK2 (aI (aT (qOw (qNv (l:=[a])) n2 (v0l t) n3 t.size (t.size+n4) (qHM t) ⟨n3,false,0,(spr (t.size+n4) t.size (fun k=>u8 (qHM t k)) (u8 0))⟩ rfl rfl (fun w h=>qBw h) (show t.size≤t.size+n4 from by omega) (show t.size≤9223372036854775807 from by omega))) tV)) (aI kV2 (aI kV1 (aT (aI v01 (aI (aI (aT (@wb1 13 15 n6 0 2 (2+n7) 1 (show 1<2 from by omega))) (aI (aT (aI (show 1<2+n7 from by omega) (@rfl Value (ptr n6 (0+1*1))))) kV1)) (fun(n9:Nat)=>aI (sK2 (aI (aT (@wc1 20 a.wa a.wn a.wc)) (aI (aT (@wd1 21 a.wn)) (aI (aT (qMr (uO a.wn))) (aI (aT (qMU (qNv (l:=[a])) n2 (v0h t) n9 (qA8 (N4.mk (uO a.wn) 0 0 0)))) tV))))) (aI (sK2 (aI (aT (qAt.mono (qQI (l:=[a]) (q:=a) (by simp)) (qLf n2 (v08 t a) a ha))) tV)) (aI kV2 (aI kV1 (aT (aI v05 (aI (sk (aI (aT (qAt.mono (qNv (l:=[a])) (qAt.darkF [true] (jBu n2 (wrH (v08 t a) a.wf a.wn))))) (v6d n1))) (aI (v0z n1) (eX (fun(ns:List Nat)=>ns.length=0∧((v6a t a):Value)=(fun _=>(v6a t a)) ns∧([some ⟨p,false,0,(.lit [(qPs a)])⟩]:List (Option Blk))=(fun _=>[some ⟨p,false,0,(.lit [(qPs a)])⟩]) ns) [] (aI v0b (aI (@rfl Value (v6a t a)) (v4h p a)))))))))))))))))))))))))))
def we1(a b:Nat):=@qBa TP 23 3 (.tmp a) (.tmp b)
def wf1(a:Nat):=@qAN TP 23 5 (.tmp a) (by kernel_rfl) (by kernel_rfl)
def v04(q:UInt64):=qAj (qAj (qAj (fun _=>((qAa q 56).toUInt8)) 1 (fun _=>((qAa q 48).toUInt8))) 2 (fun _=>((qAa q 40).toUInt8))) 3 (fun _=>((qAa q 32).toUInt8))
def v06(q:UInt64):=qAj (qAj (fun _=>((qAa q 56).toUInt8)) 1 (fun _=>((qAa q 48).toUInt8))) 2 (fun _=>((qAa q 40).toUInt8))
def v0d(q:UInt64):=qAj (fun _=>((qAa q 56).toUInt8)) 1 (fun _=>((qAa q 48).toUInt8))
def v2j(q:UInt64):=u8 ((qAa q 56).toUInt8)
def v2k(q:UInt64):=u8 ((qAa q 48).toUInt8)
def v2l(q:UInt64):=u8 ((qAa q 40).toUInt8)
def v2m(q:UInt64):=u8 ((qAa q 32).toUInt8)
def v2n(q:UInt64):=u8 ((qAa q 24).toUInt8)
def v2o(q:UInt64):=u8 ((qAa q 16).toUInt8)
def v2u(q:UInt64):=u8 ((qAa q 8).toUInt8)
def v2v(q:UInt64):=u8 ((qAa q 0).toUInt8)
def v5V(q:UInt64):=qAj (qAj (v04 q) 4 (fun _=>((qAa q 24).toUInt8))) 5 (fun _=>((qAa q 16).toUInt8))
def v5X(q:UInt64):=qAj (v04 q) 4 (fun _=>((qAa q 24).toUInt8))
def v6W(q:UInt64):=qAj (v5V q) 6 (fun _=>((qAa q 8).toUInt8))
def qKW (q:UInt64):qBI TP 76 [(u64 q)] [] 2 (fun ns=>(Value.slice (some ⟨(ns.getD 0 0),0,none⟩) 8 (8+(ns.getD 1 0)))) (fun ns=>[some ⟨(ns.getD 0 0),true,0,(spr (8+(ns.getD 1 0)) 8 (fun k=>u8 (qBx q k)) (u8 0))⟩]):=
 qAl mix Tryz.func76 rfl rfl 400 (.reg (rg [.g]) (.reg (rg [.g]) (.reg (rg [.g]) (.unroll (.reg v00 (.yes (.regn (rg [.g,.g,.g,.g,.g,(aQ (qAa q 56)),(.as (v2j q)),(.oth [] 1 1 (fun ns=>vS (some ⟨ns.getD 0 0,0,none⟩) 1 1) (fun ns=>[some ⟨ns.getD 0 0,true,0,.lit [(v2j q)]⟩])),(.oth [(0,true)] 2 1 (fun ns=>vS (some ⟨(g0 ns),0,none⟩) 1 (1+(g1 ns))) (fun ns=>[none,some ⟨(g0 ns),true,0,(spr (1+(g1 ns)) 1 (fun k=>u8 ((fun _=>((qAa q 56).toUInt8)) k)) (u8 0))⟩])),.g]) (m3 fun n1 n2 n3=>(.reg v0F (.unroll (.reg v00 (.yes (.regn (rg [.g,.g,.g,.g,.g,(aQ (qAa q 48)),(.as (v2k q)),(.oth [] 1 1 (fun ns=>vS (some ⟨ns.getD 0 0,0,none⟩) 1 1) (fun ns=>[some ⟨ns.getD 0 0,true,0,.lit [(v2k q)]⟩])),(.oth [(1,false),(2,true)] 2 0 (fun ns=>vS (some ⟨(g0 ns),0,none⟩) (2) (2+(g1 ns))) (fun ns=>[some ⟨(g0 ns),true,0,(spr (2+(g1 ns)) 2 (fun k=>u8 (qAj (fun _=>((qAa q 56).toUInt8)) 1 (fun _=>((qAa q 48).toUInt8)) k)) (u8 0))⟩,none])),.g]) (m3 fun n4 n5 n6=>(.reg v0F (.unroll (.reg v00 (.yes (.regn (rg [.g,.g,.g,.g,.g,(aQ (qAa q 40)),(.as (v2l q)),(.oth [] 1 1 (fun ns=>vS (some ⟨ns.getD 0 0,0,none⟩) 1 1) (fun ns=>[some ⟨ns.getD 0 0,true,0,.lit [(v2l q)]⟩])),(.oth [(1,false),(3,true)] 2 0 (fun ns=>vS (some ⟨(g0 ns),0,none⟩) (3) (3+(g1 ns))) (fun ns=>[some ⟨(g0 ns),true,0,(spr (3+(g1 ns)) 3 (fun k=>u8 (qAj (v0d q) 2 (fun _=>((qAa q 40).toUInt8)) k)) (u8 0))⟩,none])),.g]) (m3 fun n7 n8 n9=>(.reg v0F (.unroll (.reg v00 (.yes (.regn (rg [.g,.g,.g,.g,.g,(aQ (qAa q 32)),(.as (v2m q)),(.oth [] 1 1 (fun ns=>vS (some ⟨ns.getD 0 0,0,none⟩) 1 1) (fun ns=>[some ⟨ns.getD 0 0,true,0,.lit [(v2m q)]⟩])),(.oth [(1,false),(4,true)] 2 0 (fun ns=>vS (some ⟨(g0 ns),0,none⟩) (4) (4+(g1 ns))) (fun ns=>[some ⟨(g0 ns),true,0,(spr (4+(g1 ns)) 4 (fun k=>u8 (qAj (v06 q) 3 (fun _=>((qAa q 32).toUInt8)) k)) (u8 0))⟩,none])),.g]) (m3 fun n10 n11 n12=>(.reg v0F (.unroll (.reg v00 (.yes (.regn (rg [.g,.g,.g,.g,.g,(aQ (qAa q 24)),(.as (v2n q)),(.oth [] 1 1 (fun ns=>vS (some ⟨ns.getD 0 0,0,none⟩) 1 1) (fun ns=>[some ⟨ns.getD 0 0,true,0,.lit [(v2n q)]⟩])),(.oth [(1,false),(5,true)] 2 0 (fun ns=>vS (some ⟨(g0 ns),0,none⟩) (5) (5+(g1 ns))) (fun ns=>[some ⟨(g0 ns),true,0,(spr (5+(g1 ns)) 5 (fun k=>u8 (qAj (v04 q) 4 (fun _=>((qAa q 24).toUInt8)) k)) (u8 0))⟩,none])),.g]) (m3 fun n13 n14 n15=>(.reg v0F (.unroll (.reg v00 (.yes (.regn (rg [.g,.g,.g,.g,.g,(aQ (qAa q 16)),(.as (v2o q)),(.oth [] 1 1 (fun ns=>vS (some ⟨ns.getD 0 0,0,none⟩) 1 1) (fun ns=>[some ⟨ns.getD 0 0,true,0,.lit [(v2o q)]⟩])),(.oth [(1,false),(6,true)] 2 0 (fun ns=>vS (some ⟨(g0 ns),0,none⟩) (6) (6+(g1 ns))) (fun ns=>[some ⟨(g0 ns),true,0,(spr (6+(g1 ns)) 6 (fun k=>u8 (qAj (v5X q) 5 (fun _=>((qAa q 16).toUInt8)) k)) (u8 0))⟩,none])),.g]) (m3 fun n16 n17 n18=>(.reg v0F (.unroll (.reg v00 (.yes (.regn (rg [.g,.g,.g,.g,.g,(aQ (qAa q 8)),(.as (v2u q)),(.oth [] 1 1 (fun ns=>vS (some ⟨ns.getD 0 0,0,none⟩) 1 1) (fun ns=>[some ⟨ns.getD 0 0,true,0,.lit [(v2u q)]⟩])),(.oth [(1,false),(7,true)] 2 0 (fun ns=>vS (some ⟨(g0 ns),0,none⟩) (7) (7+(g1 ns))) (fun ns=>[some ⟨(g0 ns),true,0,(spr (7+(g1 ns)) 7 (fun k=>u8 (qAj (v5V q) 6 (fun _=>((qAa q 8).toUInt8)) k)) (u8 0))⟩,none])),.g]) (m3 fun n19 n20 n21=>(.reg v0F (.unroll (.reg v00 (.yes (.regn (rg [.g,.g,.g,.g,.g,(aQ (qAa q 0)),(.as (v2v q)),(.oth [] 1 1 (fun ns=>vS (some ⟨ns.getD 0 0,0,none⟩) 1 1) (fun ns=>[some ⟨ns.getD 0 0,true,0,.lit [(v2v q)]⟩])),(.oth [(1,false),(8,true)] 2 0 (fun ns=>vS (some ⟨(g0 ns),0,none⟩) (8) (8+(g1 ns))) (fun ns=>[some ⟨(g0 ns),true,0,(spr (8+(g1 ns)) 8 (fun k=>u8 (qAj (v6W q) 7 (fun _=>((qAa q 0).toUInt8)) k)) (u8 0))⟩,none])),.g]) (m3 fun n22 n23 n24=>(.reg v0F (.unroll (.reg v00 (.no v5T)))))))))))))))))))))))))))))))))))))))))))))))))))))) [] [1] rfl
  (Eq.mp (by kernel_rfl) (aI kV1 (aI kV1 (aI kV1 (aI kV2 (aT (aI v01 (fun(n1 n2 n3:Nat)=>aI (sK4 (sk (aI (aT (@we1 10 13 q .i64 56)) (aI (aT (@wf1 14 (qAa q 56))) (aI (aT (qAO (P:=TP) (t:=29) (e:=5) qDK 1 #[(0,(v2j q))] #[(v2j q)] (by kernel_rfl) (by decide) (by kernel_rfl))) (aI (aT (qAu.dark [true] (qNF (P:=TP) (t:=29) (ty:=29) (e:=5) (by kernel_rfl) qDK n1 0 0 1 1 u8 (fun _=>((qAa q 56).toUInt8)) (.lit [(v2j q)]) (qBy (v2j q)) (show 0<1∧1*1≤140737488355328∧1≤9223372036854775807 from by omega)))) kV1)))))) (aI kV3 (aI kV2 (aT (aI v01 (fun(n4 n5 n6:Nat)=>aI (sK4 (sk (aI (aT (@we1 10 13 q .i64 48)) (aI (aT (@wf1 14 (qAa q 48))) (aI (aT (qAO (P:=TP) (t:=29) (e:=5) qDK 1 #[(0,(v2k q))] #[(v2k q)] (by kernel_rfl) (by decide) (by kernel_rfl))) (aI (aT (qAu.dark [false,true] (qAZ (P:=TP) (t:=29) (ty:=29) (e:=5) (by kernel_rfl) qDK n2 1 n3 n4 0 0 1 1 u8 (fun _=>((qAa q 56).toUInt8)) (fun _=>((qAa q 48).toUInt8)) (.lit [(v2k q)]) (qBy (v2k q)) (fun _=>rfl) (show(1+1)*1≤140737488355328∧1+1≤9223372036854775807 from by omega)))) kV1)))))) (aI kV3 (aI kV2 (aT (aI v01 (fun(n7 n8 n9:Nat)=>aI (sK4 (sk (aI (aT (@we1 10 13 q .i64 40)) (aI (aT (@wf1 14 (qAa q 40))) (aI (aT (qAO (P:=TP) (t:=29) (e:=5) qDK 1 #[(0,(v2l q))] #[(v2l q)] (by kernel_rfl) (by decide) (by kernel_rfl))) (aI (aT (qAu.dark [false,true] (qAZ (P:=TP) (t:=29) (ty:=29) (e:=5) (by kernel_rfl) qDK n5 2 n6 n7 0 0 1 1 u8 (v0d q) (fun _=>((qAa q 40).toUInt8)) (.lit [(v2l q)]) (qBy (v2l q)) (fun _=>rfl) (show(2+1)*1≤140737488355328∧2+1≤9223372036854775807 from by omega)))) kV1)))))) (aI kV3 (aI kV2 (aT (aI v01 (fun(n10 n11 n12:Nat)=>aI (sK4 (sk (aI (aT (@we1 10 13 q .i64 32)) (aI (aT (@wf1 14 (qAa q 32))) (aI (aT (qAO (P:=TP) (t:=29) (e:=5) qDK 1 #[(0,(v2m q))] #[(v2m q)] (by kernel_rfl) (by decide) (by kernel_rfl))) (aI (aT (qAu.dark [false,true] (qAZ (P:=TP) (t:=29) (ty:=29) (e:=5) (by kernel_rfl) qDK n8 3 n9 n10 0 0 1 1 u8 (v06 q) (fun _=>((qAa q 32).toUInt8)) (.lit [(v2m q)]) (qBy (v2m q)) (fun _=>rfl) (show(3+1)*1≤140737488355328∧3+1≤9223372036854775807 from by omega)))) kV1)))))) (aI kV3 (aI kV2 (aT (aI v01 (fun(n13 n14 n15:Nat)=>aI (sK4 (sk (aI (aT (@we1 10 13 q .i64 24)) (aI (aT (@wf1 14 (qAa q 24))) (aI (aT (qAO (P:=TP) (t:=29) (e:=5) qDK 1 #[(0,(v2n q))] #[(v2n q)] (by kernel_rfl) (by decide) (by kernel_rfl))) (aI (aT (qAu.dark [false,true] (qAZ (P:=TP) (t:=29) (ty:=29) (e:=5) (by kernel_rfl) qDK n11 4 n12 n13 0 0 1 1 u8 (v04 q) (fun _=>((qAa q 24).toUInt8)) (.lit [(v2n q)]) (qBy (v2n q)) (fun _=>rfl) (show(4+1)*1≤140737488355328∧4+1≤9223372036854775807 from by omega)))) kV1)))))) (aI kV3 (aI kV2 (aT (aI v01 (fun(n16 n17 n18:Nat)=>aI (sK4 (sk (aI (aT (@we1 10 13 q .i64 16)) (aI (aT (@wf1 14 (qAa q 16))) (aI (aT (qAO (P:=TP) (t:=29) (e:=5) qDK 1 #[(0,(v2o q))] #[(v2o q)] (by kernel_rfl) (by decide) (by kernel_rfl))) (aI (aT (qAu.dark [false,true] (qAZ (P:=TP) (t:=29) (ty:=29) (e:=5) (by kernel_rfl) qDK n14 5 n15 n16 0 0 1 1 u8 (v5X q) (fun _=>((qAa q 16).toUInt8)) (.lit [(v2o q)]) (qBy (v2o q)) (fun _=>rfl) (show(5+1)*1≤140737488355328∧5+1≤9223372036854775807 from by omega)))) kV1)))))) (aI kV3 (aI kV2 (aT (aI v01 (fun(n19 n20 n21:Nat)=>aI (sK4 (sk (aI (aT (@we1 10 13 q .i64 8)) (aI (aT (@wf1 14 (qAa q 8))) (aI (aT (qAO (P:=TP) (t:=29) (e:=5) qDK 1 #[(0,(v2u q))] #[(v2u q)] (by kernel_rfl) (by decide) (by kernel_rfl))) (aI (aT (qAu.dark [false,true] (qAZ (P:=TP) (t:=29) (ty:=29) (e:=5) (by kernel_rfl) qDK n17 6 n18 n19 0 0 1 1 u8 (v5V q) (fun _=>((qAa q 8).toUInt8)) (.lit [(v2u q)]) (qBy (v2u q)) (fun _=>rfl) (show(6+1)*1≤140737488355328∧6+1≤9223372036854775807 from by omega)))) kV1)))))) (aI kV3 (aI kV2 (aT (aI v01 (fun(n22 n23 n24:Nat)=>aI (sK4 (sk (aI (aT (@we1 10 13 q .i64 0)) (aI (aT (@wf1 14 (qAa q 0))) (aI (aT (qAO (P:=TP) (t:=29) (e:=5) qDK 1 #[(0,(v2v q))] #[(v2v q)] (by kernel_rfl) (by decide) (by kernel_rfl))) (aI (aT (qAu.dark [false,true] (qAZ (P:=TP) (t:=29) (ty:=29) (e:=5) (by kernel_rfl) qDK n20 7 n21 n22 0 0 1 1 u8 (v6W q) (fun _=>((qAa q 0).toUInt8)) (.lit [(v2v q)]) (qBy (v2v q)) (fun _=>rfl) (show(7+1)*1≤140737488355328∧7+1≤9223372036854775807 from by omega)))) kV1)))))) (aI kV3 (aI kV2 (aT (aI v05 (aI kV2 (aT (eX (fun(ns:List Nat)=>ns.length=2∧((vS (some ⟨n23,0,none⟩) 8 (8+n24)):Value)=(fun ns=>(vS (some ⟨(g0 ns),0,none⟩) 8 (8+(g1 ns)))) ns∧([some ⟨n23,true,0,(spr (8+n24) 8 (fun k=>u8 (qAj (v6W q) 7 (fun _=>((qAa q 0).toUInt8)) k)) (u8 0))⟩]:List (Option Blk))=(fun ns=>[some ⟨(g0 ns),true,0,(spr (8+(g1 ns)) 8 (fun k=>u8 (qBx q k)) (u8 0))⟩]) ns) [n23,n24] (aI v0W (aI (@rfl Value (vS (some ⟨n23,0,none⟩) 8 (8+n24))) ((show([some ⟨n23,true,0,(spr (8+n24) 8 (fun k=>u8 (qAj (qAj (qAj (qAj (qAj (qAj (qAj (fun _=>((qAa q 56).toUInt8)) 1 (fun _=>((qAa q 48).toUInt8))) 2 (fun _=>((qAa q 40).toUInt8))) 3 (fun _=>((qAa q 32).toUInt8))) 4 (fun _=>((qAa q 24).toUInt8))) 5 (fun _=>((qAa q 16).toUInt8))) 6 (fun _=>((qAa q 8).toUInt8))) 7 (fun _=>((qAa q 0).toUInt8)) k)) (u8 0))⟩]:List (Option Blk))=[some ⟨n23,true,0,(spr (8+n24) 8 (fun k=>u8 (qBx q k)) (u8 0))⟩] from by rw[qRs (g:=fun k=>u8 (qBx q k)) (fun k hk=>congrArg u8 (by match k,hk with|0,_=>exact qO7 q (j:=7) (by decide)|1,_=>exact qO7 q (j:=6) (by decide)|2,_=>exact qO7 q (j:=5) (by decide)|3,_=>exact qO7 q (j:=4) (by decide)|4,_=>exact qO7 q (j:=3) (by decide)|5,_=>exact qO7 q (j:=2) (by decide)|6,_=>exact qO7 q (j:=1) (by decide)|7,_=>exact qO7 q (j:=0) (by decide)|(k+8),hk=>exact absurd hk (by omega)))]))))))))))))))))))))))))))))))))))))))))))))))))))))))
def v3x(t:ByteArray)(a:BytL)(n10:Nat):=spr (8+t.size+8+a.wn+n10) (8+t.size+8+a.wn) (fun k=>u8 (qAj (qTc t a) (8+t.size+8) a.wf k)) (u8 0)
def v47(p:Nat):=sK2 (aI (aT (@wa1 14 (some ⟨p,0,none⟩) 1 1)) kV1)
def v5t:=rg [.g,.g,(aJ 1),.g]
def jAG (p:Nat) (t:ByteArray) (a:BytL) (ht:t.size≤200) (ha:OkB a) (han:a.wn≤3000):qAt (qB8 [a]) TP 51 [(Value.string t),(Value.slice (some ⟨p,0,none⟩) 1 1)] [⟨p,false,0,(.lit [(Value.slice a.wa a.wn a.wc)])⟩] 2 (fun ns=>(Value.slice (some ⟨(ns.getD 0 0),0,none⟩) (8+t.size+8+a.wn) (8+t.size+8+a.wn+(ns.getD 1 0)))) (fun ns=>[some ⟨p,false,0,(.lit [(Value.slice a.wa a.wn a.wc)])⟩,some ⟨(ns.getD 0 0),true,0,(spr (8+t.size+8+a.wn+(ns.getD 1 0)) (8+t.size+8+a.wn) (fun k=>u8 (qAj (qAj (qAj (qBx (UInt64.ofNat t.size)) 8 (qHM t)) (8+t.size) (qBx (UInt64.ofNat a.wn))) (8+t.size+8) a.wf k)) (u8 0))⟩]):=
 qAm (F:=(qB8 [a])) mix Tryz.func51 rfl rfl 400 (.reg (rg [.g]) (.regn (rg [.g,(aN t.size),(aQ (v2t t)),(.call [] 2 1 (fun ns=>vS (some ⟨ns.getD 0 0,0,none⟩) 8 (8+ns.getD 1 0)) (fun ns=>[some ⟨(g0 ns),true,0,(spr (8+(g1 ns)) 8 (fun k=>u8 (qBx (v2t t) k)) (u8 0))⟩])),.g,(.oth [(1,false)] 2 0 (fun ns=>vS (some ⟨(g0 ns),0,none⟩) (8+t.size) (8+t.size+(g1 ns))) (fun ns=>[some ⟨(g0 ns),true,0,(spr (8+t.size+(g1 ns)) (8+t.size) (fun k=>u8 (qAj (qBx (v2t t)) 8 (qHM t) k)) (u8 0))⟩])),.g]) (m4 fun n1 n2 n3 n4=>(.reg (rg [.g]) (.unroll (.reg v5t (.yes (.regn (rg [.g,.g,.g,(.as (ptr p 0)),v0j,(aN a.wn),(aQ (uO a.wn)),(.call [] 2 1 (fun ns=>vS (some ⟨ns.getD 0 0,0,none⟩) 8 (8+ns.getD 1 0)) (fun ns=>[some ⟨(g0 ns),true,0,(spr (8+(g1 ns)) 8 (fun k=>u8 (qBx (uO a.wn) k)) (u8 0))⟩])),(.oth [(1,false),(2,true)] 2 0 (fun ns=>vS (some ⟨(g0 ns),0,none⟩) (8+t.size+8) (8+t.size+8+(g1 ns))) (fun ns=>[some ⟨(g0 ns),true,0,(spr (8+t.size+8+(g1 ns)) (8+t.size+8) (fun k=>u8 (qAj (qAj (qBx (v2t t)) 8 (qHM t)) (8+t.size) (qBx (uO a.wn)) k)) (u8 0))⟩,none])),.g]) (m4 fun n5 n6 n7 n8=>(.regn (rg [.g,.g,.g,(.as (ptr p 0)),v0j,(.othF [(1,false)] 2 0 (fun ns=>vS (some ⟨(g0 ns),0,none⟩) (8+t.size+8+a.wn) (8+t.size+8+a.wn+(g1 ns))) (fun ns=>[some ⟨(g0 ns),true,0,(spr (8+t.size+8+a.wn+(g1 ns)) (8+t.size+8+a.wn) (fun k=>u8 (qAj (qTc t a) (8+t.size+8) a.wf k)) (u8 0))⟩])),.g]) (m2 fun n9 n10=>(.reg v0F (.unroll (.reg v5t (.no v5T))))))))))))))) [] [1] rfl
  (Eq.mp (by kernel_rfl) (aI kV1 (fun(n1 n2 n3 n4:Nat)=>aI (sk (aI (aT (qU3 (P:=TP) (t:=9) (x:=(.tmp 7)) (by kernel_rfl) t)) (aI (aT (@wd1 8 t.size)) (aI (aT (qKW (v2t t))) (sk (aI (aT (qNr (P:=TP) (t:=29) (tx:=9) (ty:=29) (e:=5) (by kernel_rfl) (by kernel_rfl) qDK n1 8 n2 (qBx (v2t t)) t (show(8+t.size)*1≤140737488355328∧8+t.size≤9223372036854775807 from by omega))) kV1)))))) (aI kV1 (aI (v47 p) (aT (aI v01 (fun(n5 n6 n7 n8:Nat)=>aI (sK3 (aI (aT (@wb1 20 21 p 0 1 1 0 (show 0<1 from by omega))) (aI (aT (ad p 0)) (aI (aT (@wc1 23 a.wa a.wn a.wc)) (aI (aT (@wd1 24 a.wn)) (aI (aT (qKW (uO a.wn))) (aI (aT (qAu.dark [false,true] (qAZ (P:=TP) (t:=29) (ty:=29) (e:=5) (by kernel_rfl) qDK n3 (8+t.size) n4 n5 0 0 8 (8+n6) u8 (qAj (qBx (v2t t)) 8 (qHM t)) (qBx (uO a.wn)) (spr (8+n6) 8 (fun k=>u8 (qBx (uO a.wn) k)) (u8 0)) (jAT) (fun _=>rfl) (show(8+t.size+8)*1≤140737488355328∧8+t.size+8≤9223372036854775807 from by omega)))) kV1))))))) (fun(n9 n10:Nat)=>aI (sK3 (aI (aT (@wb1 29 30 p 0 1 1 0 (show 0<1 from by omega))) (aI (aT (ad p 0)) (aI (aT (qGu (P:=TP) (t:=29) (ty:=29) (e:=5) (by kernel_rfl) qDK n7 (8+t.size+8) n8 (qTc t a) a ha (fun zz hz=>(qQI (l:=[a]) (q:=a) (by simp)) zz (Or.inr hz)) (show(8+t.size+8+a.wn)*1≤140737488355328∧8+t.size+8+a.wn≤9223372036854775807 from by omega))) kV1)))) (aI kV3 (aI (v47 p) (aT (aI v05 (aI kV2 (aT (eX (fun(ns:List Nat)=>ns.length=2∧((vS (some ⟨n9,0,none⟩) (8+t.size+8+a.wn) (8+t.size+8+a.wn+n10)):Value)=(fun ns=>(vS (some ⟨(g0 ns),0,none⟩) (8+t.size+8+a.wn) (8+t.size+8+a.wn+(g1 ns)))) ns∧([some ⟨p,false,0,(.lit [(qPs a)])⟩,some ⟨n9,true,0,(v3x t a n10)⟩]:List (Option Blk))=(fun ns=>[some ⟨p,false,0,(.lit [(qPs a)])⟩,some ⟨(g0 ns),true,0,(spr (8+t.size+8+a.wn+(g1 ns)) (8+t.size+8+a.wn) (fun k=>u8 (qAj (qTc t a) (8+t.size+8) a.wf k)) (u8 0))⟩]) ns) [n9,n10] (aI v0W (aI (@rfl Value (vS (some ⟨n9,0,none⟩) (8+t.size+8+a.wn) (8+t.size+8+a.wn+n10))) (@rfl (List (Option Blk)) [some ⟨p,false,0,(.lit [(qPs a)])⟩,some ⟨n9,true,0,(v3x t a n10)⟩])))))))))))))))))))
def qVT (p:Nat) (t:ByteArray) (a:BytL) (ht:t.size≤200) (ha:OkB a) (han:a.wn≤3000):qAt (qB8 [a]) TP 42 [(Value.string t),(Value.slice (some ⟨p,0,none⟩) 1 1)] [⟨p,false,0,(.lit [(Value.slice a.wa a.wn a.wc)])⟩] 0 (fun _=>qBJ 32 fun k=>u8 (qIq (qAj (qAj (qAj (qBx (UInt64.ofNat t.size)) 8 (qHM t)) (8+t.size) (qBx (UInt64.ofNat a.wn))) (8+t.size+8) a.wf) (8+t.size+8+a.wn) k)) (fun _=>[none]):=by
 have h:=qYH p t a ht ha han;rw[show qTh _=qIq (qAj (qAj (qAj (qBx (UInt64.ofNat t.size)) 8 (qHM t)) (8+t.size) (qBx (UInt64.ofNat a.wn))) (8+t.size+8) a.wf) (8+t.size+8+a.wn) from(show qC7 _ (qAj (qAj (qAj (qBx (UInt64.ofNat t.size)) 8 (qHM t)) (8+t.size) (qBx (UInt64.ofNat a.wn))) (8+t.size+8) a.wf) (8+t.size+8+a.wn) from(qPW (UInt64.ofNat a.wn) (qSm (UInt64.ofNat t.size) (by omega)) (by omega))).sum (by omega)] at h
 exact qAt.darkF [true] h
def v0Y(t:ByteArray)(a:BytL):=qBJ 32 (fun k=>u8 (qIq (qAj (qTc t a) (8+t.size+8) a.wf) (8+t.size+8+a.wn) k))
def qTE (p:Nat) (t:ByteArray) (a:BytL) (ht:t.size≤200) (ha:OkB a) (han:a.wn≤3000):qAt (qB8 [a]) TP 30 [(Value.string t),(Value.slice (some ⟨p,0,none⟩) 1 1)] [⟨p,false,0,(.lit [(Value.slice a.wa a.wn a.wc)])⟩] 0 (fun _=>(qBJ 32 (fun k=>u8 (qIq (qAj (qAj (qAj (qBx (UInt64.ofNat t.size)) 8 (qHM t)) (8+t.size) (qBx (UInt64.ofNat a.wn))) (8+t.size+8) a.wf) (8+t.size+8+a.wn) k)))) (fun _=>[some ⟨p,false,0,(.lit [(Value.slice a.wa a.wn a.wc)])⟩]):=
 qAm (F:=(qB8 [a])) mix Tryz.func30 rfl rfl 400 (.regn v1f (more (fun n1=>fun _=>(.regn (rg [.g,.g,(.callF [(0,true)] 2 1 (fun ns=>vS (some ⟨ns.getD 0 0,0,none⟩) (8+t.size+8+a.wn) (8+t.size+8+a.wn+ns.getD 1 0)) (fun ns=>[none,some ⟨(g0 ns),true,0,(spr (8+t.size+8+a.wn+(g1 ns)) (8+t.size+8+a.wn) (fun k=>u8 (qAj (qTc t a) (8+t.size+8) a.wf k)) (u8 0))⟩])),(.callF [(2,true)] 0 0 (fun _=>(v0Y t a)) (fun _=>[none])),v15]) v5z)))) [(1,0)] [] rfl
  (Eq.mp (by kernel_rfl) (fun(n1:Nat)=>aI kV1 (fun(n2 n3:Nat)=>aI (sK2 (aI (aT (qAt.darkF [true] (jAG p t a (by omega) ha (by omega)))) (aI (aT (qAt.lendS (F':=(qB8 [a])) (cs:=[⟨n2,false,0,(spr (8+t.size+8+a.wn+n3) (8+t.size+8+a.wn) (fun k=>u8 (qAj (qTc t a) (8+t.size+8) a.wf k)) (u8 0))⟩]) (jE6 (qBO n2 (8+t.size+8+a.wn) (8+t.size+8+a.wn+n3) (qAj (qTc t a) (8+t.size+8) a.wf)) (qFo (show 8+t.size+8+a.wn≤8+t.size+8+a.wn+n3 from by omega) (show 8+t.size+8+a.wn≤9223372036854775807 from by omega)) (show 0<8+t.size+8+a.wn from by omega) (show 8+t.size+8+a.wn≤1000000 from by omega)) (fun w _ hb=>qD7 (qBw (hb _ (List.Mem.head _)))) (by simp))) (v6d n1)))) (aI (v0z n1) (eX (fun(ns:List Nat)=>ns.length=0∧((v0Y t a):Value)=(fun _=>(v0Y t a)) ns∧([some ⟨p,false,0,(.lit [(qPs a)])⟩]:List (Option Blk))=(fun _=>[some ⟨p,false,0,(.lit [(qPs a)])⟩]) ns) [] (aI v0b (aI (@rfl Value (v0Y t a)) (v4h p a))))))))
def qK7:ByteArray:=ByteArray.mk #[98,108,111,99,107]
noncomputable def qAy (q:BytL):Nat→UInt8:=qIq (qAj (qAj (qAj (qBx (UInt64.ofNat qK7.size)) 8 (qHM qK7)) (8+qK7.size) (qBx (UInt64.ofNat q.wn))) (8+qK7.size+8) q.wf) (8+qK7.size+8+q.wn)
def v0v(q:BytL):H:=.regn (rg [.new]) (more (fun n1=>fun _=>(.regn (rg [.g,(.oth [] 1 1 (fun ns=>vS (some ⟨ns.getD 0 0,0,none⟩) 1 1) (fun ns=>[some ⟨ns.getD 0 0,true,0,.lit [(qPs q)]⟩])),(.callF [(1,true)] 0 0 (fun _=>(qBJ 32 (fun k=>u8 (qAy q k)))) (fun _=>[none])),(.st 0 (.lit 0))]) (more (fun n2=>fun _=>.done)))))
def v20(q:BytL):=aT (qAO (P:=TP) (t:=22) (e:=29) qNP 1 #[(0,(qPs q))] #[(qPs q)] (by kernel_rfl) (by decide) (by kernel_rfl))
def v5k(q:BytL):=@rfl Value (qBJ 32 fun k=>u8 (qAy q k))
def v62(q:BytL):=eX (fun(ns:List Nat)=>ns.length=0∧((qBJ 32 (fun k=>u8 (qAy q k))):Value)=(fun _=>qBJ 32 fun k=>u8 (qAy q k)) ns∧([]:List (Option Blk))=(fun _=>[]) ns) [] (aI v0b (aI (v5k q) v0f))
def qKB (q:BytL) (hq:OkB q) (hl:q.wn≤3000):qAt (qB8 [q]) TP 24 [(Value.slice q.wa q.wn q.wc)] [] 0 (fun _=>qBJ 32 fun k=>u8 (qAy q k)) (fun _=>[]):=
 qAm (F:=(qB8 [q])) mix Tryz.func24 rfl rfl 400 (v0v q) [(0,0)] [] rfl
  (Eq.mp (by kernel_rfl) (fun(n1:Nat)=>aI kV1 (fun(n2:Nat)=>aI (sk (aI (v20 q) (aI (aT (qVT n2 qK7 q (show 5≤200 by decide) hq hl)) (v6d n1)))) (aI (v0z n1) (v62 q)))))
def qOW (q:BytL) (hq:OkB q) (hl:q.wn≤3000):qAt (qB8 [q]) TP 15 [(Value.slice q.wa q.wn q.wc)] [] 0 (fun _=>qBJ 32 fun k=>u8 (qAy q k)) (fun _=>[]):=
 qAm (F:=(qB8 [q])) mix Tryz.func15 rfl rfl 400 (v0v q) [(0,0)] [] rfl
  (Eq.mp (by kernel_rfl) (fun(n1:Nat)=>aI kV1 (fun(n2:Nat)=>aI (sk (aI (v20 q) (aI (aT (qAt.darkF [true] (qTE n2 qK7 q (show 5≤200 by decide) hq hl))) (v6d n1)))) (aI (v0z n1) (v62 q)))))
abbrev jGn (a:BytL) (b:List Nat):=unL a (b.getD 0 0) (b.getD 1 0) (b.getD 2 0) (b.getD 3 0)
abbrev qHG (a:Nat):=Value.map (some a)
abbrev qS7 (a b c:Nat):=Value.slice (some ⟨a,0,none⟩) b c
abbrev jCq (a:BytL) (b:List Nat):=Value.tuple #[(u64 (unH a)),(gsV (jGn a b)),(int (unX a))]
abbrev jFM:=Value.tuple #[(Value.agg #[(Value.pointer none),(Value.map none)]),(Value.bool false)]
abbrev jB6 (a:BytL) (b:List Nat):=gsE qBN [Value.slice none 0 0] 1 (jGn a b)
abbrev qR7 (a:List (UInt64×CV)):=qA9 u64 clV [] a
def wg1(a b:Nat):=@qBl TP 23 23 (.tmp a) (.tmp b)
def v0s(y:BytL):OpH:=.callO [] 4 2 (fun ns=>(jCq y ns)) (fun ns=>[(jB6 y ns),unP y (g0 ns) (g1 ns)])
def v22(y:BytL)(hy:OkB y)(hl:y.wn≤3000):=qEr y hy (Nat.le_trans hl (by decide))
def v2K(y:BytL)(k:UInt64):OpH:=.opt (aB (!((unH y)==k)))
def v33:=sK2 (sk kV4)
def v3M(y:BytL)(k:UInt64):=@wg1 24 26 (unH y) k
def jD4 (p:Nat) (k:UInt64) (w:Int) (y:BytL) (hy:OkB y) (hl:y.wn≤3000) (hb:unX y≠0∨unH y≠k):qAc (qB8 [y]) TP 12 [(ptr p 0),(Value.agg #[(u64 k),(int w),(Value.slice y.wa y.wn y.wc)])] [] 0 (fun _=>int 31) (fun _=>[]):=
 qAv mix Tryz.func12 rfl rfl 400 (.regn v0T (more (fun n1=>fun _=>(.regn (rg [.g,v1p,(v0s y),.g,.g,.g,.g,.g,.g,.g]) (m4 fun n2 n3 n4 n5=>(.reg (rg [.g,.g,.g,(.opt .g),(.opt .g),(.opt v0j),(v2K y k),.pk]) v6s)))))) [] [] rfl
  (Eq.mp (by kernel_rfl) (fun(n1:Nat)=>aI kV2 (fun(n2 n3 n4 n5:Nat)=>aI (sk (aI (v1j n1) (aI (aT (qAc.mono (fun z (hz:qBi y z)=>(Or.inr ⟨y,List.mem_singleton.2 rfl,hz⟩:qB8 [y] z)) (v22 y hy hl))) v33))) (aI (sK3 (aI (fun(hg:(sB (((unX y):Int)!=0) false)=true)=>t2) (aI (fun(hg:(sB (((unX y):Int)!=0) false)=true)=>t2) (aI (fun(hg:(sB (((unX y):Int)!=0) false)=true)=>(aI (aI hg tV) (ad n1 0))) (aI (fun(hg:(sB (((unX y):Int)!=0) false)=true)=>(aI (aI hg (aI hg tV)) (v3M y k))) (aI (aT (aI (fun(_:(((unX y):Int)!=0)=true)=>tV) (fun(hp:(((unX y):Int)!=0)=false)=>(qAS hp)))) tV)))))) ((fun(hp1:(qA0 (((unX y):Int)!=0) true (!((unH y)==k)))=true)=>have f1:((((unX y):Int)!=0)=true)∨(((unH y)==k)=false):=(Or.imp (fun h=>h) (fun h=>(qBr h)) (qG9 hp1));aT (aI hp1 (aI kV1 (aT (eX (fun(ns:List Nat)=>ns.length=0∧((int 31):Value)=(fun _=>int 31) ns∧([]:List (Option Blk))=(fun _=>[]) ns) [] (aI v0b (aI (@rfl Value (int 31)) v0f))))))) (show(qA0 (((unX y):Int)!=0) true (!((unH y)==k)))=true from by exact jFK hb))))))
def wh1(a:Nat):=@qES TP 3 3 (.tmp a) (.const (.int .i64 20))
def v1g(p h:Nat)(l:List (UInt64×CV)):=sK3 (aI (aT (ad p 1)) (aI (aT (qI2 (P:=TP) qN1.hm 3 h false l)) (aI (aT (@wh1 44  l.length 20)) tV)))
def v1w(p h:Nat)(l:List (UInt64×CV))(y:BytL)(hs:qDE eqW (unH y) [] l=none)(n6:Nat):=sK3 (aI (aT (ad p 1)) (sk (aI (aT (qAu.valE (qFV (P:=TP) qN1 h false [] l (unH y)) (qQw hs))) (sK4 (aI (aT (ad n6 0)) kV1)))))
def v4H(l:List (UInt64×CV)):OpH:=.oth [(1,true)] 0 0 (fun _=>(nat l.length)) (fun _=>[none])
def jCO (p:Nat) (k:UInt64) (w:Int) (y:BytL) (h:Nat) (v0:Value) (l:List (UInt64×CV)) (hy:OkB y) (hl:y.wn≤3000) (hb:¬(unX y≠0∨unH y≠k)) (hs:qDE eqW (unH y) [] l=none) (h20:l.length=20):qAc (qB8 [y]) TP 12 [(ptr p 0),(Value.agg #[(u64 k),(int w),(Value.slice y.wa y.wn y.wc)])] [some ⟨p,false,0,(.lit [v0,(Value.map (some h))])⟩,some ⟨h,false,0,(qA9 u64 clV [] l)⟩] 0 (fun _=>int 52) (fun _=>[some ⟨p,false,0,(.lit [v0,(Value.map (some h))])⟩,some ⟨h,false,0,(qA9 u64 clV [] l)⟩]):=
 qAv mix Tryz.func12 rfl rfl 400 (.regn v0T (more (fun n1=>fun _=>(.regn (rg [.g,(.ld 2 (.lit 2)),(v0s y),.g,.g,.g,.g,.g,.g,.g]) (m4 fun n2 n3 n4 n5=>(.reg (rg [.g,.g,.g,(.opt .g),(.opt .g),(.opt v1X),(v2K y k),.pk]) (.no (.regn (rg [.g,.g,.g,v0o,.g,(.oth [(1,true)] 0 0 (fun _=>(jFM)) (fun _=>[none])),.g,.g,.g,.new,v4T,.g]) (more (fun n6=>fun _=>(.reg v00 (.yes (.reg (rg [.g,.g,.g,v0o,(v4H l),(aB (decide (l.length=20)))]) v6s))))))))))))) [] [] rfl
  (Eq.mp (by kernel_rfl) (fun(n1:Nat)=>aI kV2 (fun(n2 n3 n4 n5:Nat)=>aI (sk (aI (v1j n1) (aI (aT (qAc.mono (fun z (hz:qBi y z)=>(Or.inr ⟨y,List.mem_singleton.2 rfl,hz⟩:qB8 [y] z)) (v22 y hy hl))) v33))) (aI (sK3 (aI (fun(hg:(sB (((unX y):Int)!=0) false)=true)=>t2) (aI (fun(hg:(sB (((unX y):Int)!=0) false)=true)=>t2) (aI (fun(hg:(sB (((unX y):Int)!=0) false)=true)=>(aI (aI hg tV) (ad n1 0))) (aI (fun(hg:(sB (((unX y):Int)!=0) false)=true)=>(aI (aI hg (aI hg tV)) (v3M y k))) (aI (aT (aI (fun(_:(((unX y):Int)!=0)=true)=>tV) (fun(hp:(((unX y):Int)!=0)=false)=>(qAS hp)))) tV)))))) ((fun(hp1:(qA0 (((unX y):Int)!=0) true (!((unH y)==k)))=false)=>have f1:(((unX y):Int)!=0)=false:=(qBj hp1);have f2:((unH y)==k)=true:=(qAQ (qBK hp1));aT (aI hp1 (fun(n6:Nat)=>aI (v1w p h l y hs n6) (aI kV2 (aT (aI v01 (aI (v1g p h l) ((fun(hp2:(decide (l.length=20))=true)=>have f3:=(oT hp2);aT (aI hp2 (aI kV1 (aT (eX (fun(ns:List Nat)=>ns.length=0∧((int 52):Value)=(fun _=>int 52) ns∧([some ⟨p,false,0,(.lit [v0,(qHG h)])⟩,some ⟨h,false,0,(qR7 l)⟩]:List (Option Blk))=(fun _=>[some ⟨p,false,0,(.lit [v0,(qHG h)])⟩,some ⟨h,false,0,(qR7 l)⟩]) ns) [] (aI v0b (aI (@rfl Value (int 52)) (@rfl (List (Option Blk)) [some ⟨p,false,0,(.lit [v0,(qHG h)])⟩,some ⟨h,false,0,(qR7 l)⟩])))))))) (show(decide (l.length=20))=true from by exact decide_eq_true h20))))))))) (show(qA0 (((unX y):Int)!=0) true (!((unH y)==k)))=false from by exact qT6 hb))))))
def v18(y:BytL):OpH:=.callF [] 0 0 (fun _=>(qBJ 32 (fun k=>u8 (qAy y k)))) (fun _=>[])
def v2b(n:Nat)(s:Nat→UInt64)(F:Fst)(w:Int)(y:BytL)(fm am:Nat)(A:List (Int×Unit)):OpH:=.call [(2,true),(3,true),(4,false),(5,false)] 0 0 (fun _=>(int (qAJ n s F w (qAy y)))) (fun _=>[none,none,some ⟨fm,true,0,(qB5 (qBo n s F w (qAy y)))⟩,some ⟨am,true,0,(qEj (qBX n s F A w (qAy y)))⟩])
def v2w(t bm:Nat):OpH:=.oth [(1,true)] 0 0 (fun _=>(vT #[(Value.agg #[(ptr t 0),(qHG bm)]),(vB true)])) (fun _=>[none])
def v31(n6:Nat):=aT (ad n6 0)
def v4I:OpH:=.ld 10 (.lit 0)
def jD6 (p:Nat) (k:UInt64) (w:Int) (y:BytL) (h:Nat) (v0:Value) (l:List (UInt64×CV)) (t sp sc fm am bm n:Nat) (s:Nat→UInt64) (F:Fst) (A:List (Int×Unit)) (hy:OkB y) (hl:y.wn≤3000) (hb:¬(unX y≠0∨unH y≠k)) (hs:qDE eqW (unH y) [] l=some (some (t,bm))) (hn:n≤40) (hv:qAJ n s F w (qAy y)≠0):qAc (qB8 [y]) TP 12 [(ptr p 0),(Value.agg #[(u64 k),(int w),(Value.slice y.wa y.wn y.wc)])] [some ⟨p,false,0,(.lit [v0,(Value.map (some h))])⟩,some ⟨h,false,0,(qA9 u64 clV [] l)⟩,some ⟨t,false,0,(.lit [(Value.slice (some ⟨sp,0,none⟩) n sc),(u64 (qBM s n).a),(Value.map (some fm)),(Value.map (some am))])⟩,some ⟨sp,false,0,(qAd n (fun k=>u64 (s k)))⟩,some ⟨fm,true,0,(qB5 F)⟩,some ⟨am,true,0,(qEj A)⟩] 0 (fun ns=>(int (qAJ n s F w (qAy y)))) (fun ns=>[some ⟨p,false,0,(.lit [v0,(Value.map (some h))])⟩,some ⟨h,false,0,(qA9 u64 clV [] l)⟩,some ⟨t,false,0,(.lit [(Value.slice (some ⟨sp,0,none⟩) n sc),(u64 (qBM s n).a),(Value.map (some fm)),(Value.map (some am))])⟩,some ⟨sp,false,0,(qAd n (fun k=>u64 (s k)))⟩,some ⟨fm,true,0,(qB5 (qBo n s F w (qAy y)))⟩,some ⟨am,true,0,(qEj (qBX n s F A w (qAy y)))⟩]):=
 qAv mix Tryz.func12 rfl rfl 400 (.regn v0T (more (fun n1=>fun _=>(.regn (rg [.g,(.ld 6 (.lit 2)),(v0s y),.g,.g,.g,.g,.g,.g,.g]) (m4 fun n2 n3 n4 n5=>(.reg (rg [.g,.g,.g,(.opt .g),(.opt .g),(.opt v2H),(v2K y k),.pk]) (.no (.regn (rg [.g,.g,.g,v0o,.g,(v2w t bm),.g,.g,.g,.new,(.st 9 (.lit 0)),.g]) (more (fun n6=>fun _=>(.reg v00 (.no (.regn (rg [.g,(.ld 6 (.lit 2)),(v18 y),.new,(.st 10 (.lit 0))]) (more (fun n7=>fun _=>(.reg (rg [.g,v4V,.g,v3L,v4I,(v2b n s F w y fm am A),.g]) (.reg v00 v6Z))))))))))))))))) [] [] rfl
  (Eq.mp (by kernel_rfl) (fun(n1:Nat)=>aI kV2 (fun(n2 n3 n4 n5:Nat)=>aI (sk (aI (v1j n1) (aI (aT (qAc.mono (fun z (hz:qBi y z)=>(Or.inr ⟨y,List.mem_singleton.2 rfl,hz⟩:qB8 [y] z)) (v22 y hy hl))) v33))) (aI (sK3 (aI (fun(hg:(sB (((unX y):Int)!=0) false)=true)=>t2) (aI (fun(hg:(sB (((unX y):Int)!=0) false)=true)=>t2) (aI (fun(hg:(sB (((unX y):Int)!=0) false)=true)=>(aI (aI hg tV) (ad n1 0))) (aI (fun(hg:(sB (((unX y):Int)!=0) false)=true)=>(aI (aI hg (aI hg tV)) (v3M y k))) (aI (aT (aI (fun(_:(((unX y):Int)!=0)=true)=>tV) (fun(hp:(((unX y):Int)!=0)=false)=>(qAS hp)))) tV)))))) ((fun(hp1:(qA0 (((unX y):Int)!=0) true (!((unH y)==k)))=false)=>have f1:(((unX y):Int)!=0)=false:=(qBj hp1);have f2:((unH y)==k)=true:=(qAQ (qBK hp1));aT (aI hp1 (fun(n6:Nat)=>aI (sK3 (aI (v1Z p) (sk (aI (aT (qAu.valE (qFV (P:=TP) qN1 h false [] l (unH y)) (qRA hs))) (sK4 (aI (v31 n6) kV1)))))) (aI kV2 (aT (aI v05 (fun(n7:Nat)=>aI (sk (aI (v1j n1) (aI (aT (qKB y hy hl)) (sk (aI (aT (ad n7 0)) tV))))) (aI (sk (aI (v31 n6) (sk (aI (v1U n1) (aI (aT (ad n7 0)) (aI (aT (qBI.dark [true,true,false,false] (qIN t sp sc fm am n s F A w (qAy y) hn))) kV1)))))) (aI kV2 ((fun(hp2:(((qAJ n s F w (qAy y)):Int)!=0)=true)=>aT (aI hp2 (aI kV2 (aT (eX (fun(ns:List Nat)=>ns.length=0∧((int (qAJ n s F w (qAy y))):Value)=(fun ns=>(int (qAJ n s F w (qAy y)))) ns∧([some ⟨p,false,0,(.lit [v0,(qHG h)])⟩,some ⟨h,false,0,(qR7 l)⟩,some ⟨t,false,0,(.lit [(qS7 sp n sc),(v16 s n),(qHG fm),(qHG am)])⟩,some ⟨sp,false,0,(v0g n s)⟩,some ⟨fm,true,0,(qB5 (qBo n s F w (qAy y)))⟩,some ⟨am,true,0,(qEj (qBX n s F A w (qAy y)))⟩]:List (Option Blk))=(fun ns=>[some ⟨p,false,0,(.lit [v0,(qHG h)])⟩,some ⟨h,false,0,(qR7 l)⟩,some ⟨t,false,0,(.lit [(qS7 sp n sc),(v16 s n),(qHG fm),(qHG am)])⟩,some ⟨sp,false,0,(v0g n s)⟩,some ⟨fm,true,0,(qB5 (qBo n s F w (qAy y)))⟩,some ⟨am,true,0,(qEj (qBX n s F A w (qAy y)))⟩]) ns) [] (aI v0b (aI (@rfl Value (int (qAJ n s F w (qAy y)))) (@rfl (List (Option Blk)) [some ⟨p,false,0,(.lit [v0,(qHG h)])⟩,some ⟨h,false,0,(qR7 l)⟩,some ⟨t,false,0,(.lit [(qS7 sp n sc),(v16 s n),(qHG fm),(qHG am)])⟩,some ⟨sp,false,0,(v0g n s)⟩,some ⟨fm,true,0,(qB5 (qBo n s F w (qAy y)))⟩,some ⟨am,true,0,(qEj (qBX n s F A w (qAy y)))⟩])))))))) (show(((qAJ n s F w (qAy y)):Int)!=0)=true from by exact jF3 hv))))))))))) (show(qA0 (((unX y):Int)!=0) true (!((unH y)==k)))=false from by exact qT6 hb))))))
def v1d(y:BytL):OpH:=.callF [] 2 1 (fun ns=>vS (some ⟨(g0 ns),0,none⟩) y.wn (y.wn+(g1 ns))) (fun ns=>[some ⟨(g0 ns),true,0,(spr (y.wn+(g1 ns)) y.wn (fun k=>u8 (y.wf k)) (u8 0))⟩])
def v3e(y:BytL)(n9:Nat):=spr (y.wn+n9) y.wn (fun k=>u8 (y.wf k)) (u8 0)
def v4W:OpH:=.ld 7 (.lit 2)
def v5G:=@rfl Value (int 0)
def jD2 (p:Nat) (k:UInt64) (w:Int) (y:BytL) (h:Nat) (v0:Value) (l:List (UInt64×CV)) (t sp sc fm am bm n:Nat) (s:Nat→UInt64) (F:Fst) (A:List (Int×Unit)) (B:Bks) (hy:OkB y) (hl:y.wn≤3000) (h0:0<y.wn) (hb:¬(unX y≠0∨unH y≠k)) (hs:qDE eqW (unH y) [] l=some (some (t,bm))) (hn:n≤40) (hv:qAJ n s F w (qAy y)=0):qAc (qB8 [y]) TP 12 [(ptr p 0),(Value.agg #[(u64 k),(int w),(Value.slice y.wa y.wn y.wc)])] [some ⟨p,false,0,(.lit [v0,(Value.map (some h))])⟩,some ⟨h,true,0,(qA9 u64 clV [] l)⟩,some ⟨t,false,0,(.lit [(Value.slice (some ⟨sp,0,none⟩) n sc),(u64 (qBM s n).a),(Value.map (some fm)),(Value.map (some am))])⟩,some ⟨sp,false,0,(qAd n (fun k=>u64 (s k)))⟩,some ⟨fm,true,0,(qB5 F)⟩,some ⟨am,true,0,(qEj A)⟩,some ⟨bm,true,0,(bkC B)⟩] 2 (fun ns=>(int 0)) (fun ns=>[some ⟨p,false,0,(.lit [v0,(Value.map (some h))])⟩,some ⟨h,true,0,(qA9 u64 clV [] l)⟩,some ⟨t,false,0,(.lit [(Value.slice (some ⟨sp,0,none⟩) n sc),(u64 (qBM s n).a),(Value.map (some fm)),(Value.map (some am))])⟩,some ⟨sp,false,0,(qAd n (fun k=>u64 (s k)))⟩,some ⟨fm,true,0,(qB5 (qBo n s F w (qAy y)))⟩,some ⟨am,true,0,(qEj (qBX n s F A w (qAy y)))⟩,some ⟨bm,true,0,(bkC (qCw sR (qAy y) (qCP (RwP.mk (ns.getD 0 0) y.wn (y.wn+(ns.getD 1 0)) y.wf)) B))⟩,some ⟨(ns.getD 0 0),true,0,(spr (y.wn+(ns.getD 1 0)) y.wn (fun k=>u8 (y.wf k)) (u8 0))⟩]):=
 qAv mix Tryz.func12 rfl rfl 400 (.regn v0T (more (fun n1=>fun _=>(.regn (rg [.g,v4W,(v0s y),.g,.g,.g,.g,.g,.g,.g]) (m4 fun n2 n3 n4 n5=>(.reg (rg [.g,.g,.g,(.opt .g),(.opt .g),(.opt (.ld 7 (.lit 0))),(v2K y k),.pk]) (.no (.regn (rg [.g,.g,.g,v0o,.g,(v2w t bm),.g,.g,.g,.new,(.st 10 (.lit 0)),.g]) (more (fun n6=>fun _=>(.reg v00 (.no (.regn (rg [.g,v4W,(v18 y),.new,(.st 11 (.lit 0))]) (more (fun n7=>fun _=>(.reg (rg [.g,v4I,.g,(.ld 7 (.lit 1)),(.ld 11 (.lit 0)),(v2b n s F w y fm am A),.g]) (.reg v00 (.no (.regn (rg [.g,(.ld 10 (.lit 1)),(.ld 11 (.lit 0)),.g,v4W,(v1d y),(.othB [(6,false),(12,true)] 0 0 (fun _=>undef) (fun bs _=>[some ⟨bm,true,0,bkC (qCw sR (qAy y) (rwL y.wn y.wf bs) B)⟩,none]))]) (m2 fun n8 n9=>(.reg (rg [.g,.g,.g,v0o,.g,v4I,(.upd 1 (qR7 l))]) v0c))))))))))))))))))))) [] [12] rfl
  (Eq.mp (by kernel_rfl) (fun(n1:Nat)=>aI kV2 (fun(n2 n3 n4 n5:Nat)=>aI (sk (aI (v1j n1) (aI (aT (qAc.mono (fun z (hz:qBi y z)=>(Or.inr ⟨y,List.mem_singleton.2 rfl,hz⟩:qB8 [y] z)) (v22 y hy hl))) v33))) (aI (sK3 (aI (fun(hg:(sB (((unX y):Int)!=0) false)=true)=>t2) (aI (fun(hg:(sB (((unX y):Int)!=0) false)=true)=>t2) (aI (fun(hg:(sB (((unX y):Int)!=0) false)=true)=>(aI (aI hg tV) (ad n1 0))) (aI (fun(hg:(sB (((unX y):Int)!=0) false)=true)=>(aI (aI hg (aI hg tV)) (v3M y k))) (aI (aT (aI (fun(_:(((unX y):Int)!=0)=true)=>tV) (fun(hp:(((unX y):Int)!=0)=false)=>(qAS hp)))) tV)))))) ((fun(hp1:(qA0 (((unX y):Int)!=0) true (!((unH y)==k)))=false)=>have f2:(((unX y):Int)!=0)=false:=(qBj hp1);have f3:((unH y)==k)=true:=(qAQ (qBK hp1));aT (aI hp1 (fun(n6:Nat)=>aI (sK3 (aI (v1Z p) (sk (aI (aT (qAu.valE (qFV (P:=TP) qN1 h false [] l (unH y)) (qRA hs))) (sK4 (aI (v31 n6) kV1)))))) (aI kV2 (aT (aI v05 (fun(n7:Nat)=>aI (sk (aI (v1j n1) (aI (aT (qKB y hy hl)) (sk (aI (aT (ad n7 0)) tV))))) (aI (sk (aI (v31 n6) (sk (aI (v1U n1) (aI (aT (ad n7 0)) (aI (aT (qBI.dark [true,true,false,false] (qIN t sp sc fm am n s F A w (qAy y) hn))) kV1)))))) (aI kV2 ((fun(hp2:(((qAJ n s F w (qAy y)):Int)!=0)=false)=>aT (aI hp2 (fun(n8 n9:Nat)=>aI (sk (aI (aT (ad n6 1)) (aI (aT (ad n7 0)) (sk (aI (v1j n1) (aI (aT (qAt.mono (fun z (hz:qBi y z)=>(Or.inr ⟨y,List.mem_singleton.2 rfl,hz⟩:qB8 [y] z)) (qIG y hy h0 (Nat.le_trans hl (by decide))))) (aI (aT (qAu.beside (b:=⟨n8,false,0,(v3e y n9)⟩) (qHn (P:=TP) jB3 bm B (qAy y) (qCP (RwP.mk n8 y.wn (y.wn+n9) y.wf))))) tV))))))) (aI (sK3 (aI (v1Z p) (sk (aI (v31 n6) (aI (aT (qOD (P:=TP) qN1 h l (unH y) (some (t,bm)) (qWv ((qMb _ _).symm.trans hs)))) tV))))) (aI kV1 (aT (eX (fun(ns:List Nat)=>ns.length=2∧((int 0):Value)=(fun ns=>(int 0)) ns∧([some ⟨p,false,0,(.lit [v0,(qHG h)])⟩,some ⟨h,true,0,(qR7 l)⟩,some ⟨t,false,0,(.lit [(qS7 sp n sc),(v16 s n),(qHG fm),(qHG am)])⟩,some ⟨sp,false,0,(v0g n s)⟩,some ⟨fm,true,0,(qB5 (qBo n s F w (qAy y)))⟩,some ⟨am,true,0,(qEj (qBX n s F A w (qAy y)))⟩,some ⟨bm,true,0,(bkC (qCw sR (qAy y) (qCP (RwP.mk n8 y.wn (y.wn+n9) y.wf)) B))⟩,some ⟨n8,true,0,(v3e y n9)⟩]:List (Option Blk))=(fun ns=>[some ⟨p,false,0,(.lit [v0,(qHG h)])⟩,some ⟨h,true,0,(qR7 l)⟩,some ⟨t,false,0,(.lit [(qS7 sp n sc),(v16 s n),(qHG fm),(qHG am)])⟩,some ⟨sp,false,0,(v0g n s)⟩,some ⟨fm,true,0,(qB5 (qBo n s F w (qAy y)))⟩,some ⟨am,true,0,(qEj (qBX n s F A w (qAy y)))⟩,some ⟨bm,true,0,(bkC (qCw sR (qAy y) (qCP (RwP.mk (g0 ns) y.wn (y.wn+(g1 ns)) y.wf)) B))⟩,some ⟨(g0 ns),true,0,(spr (y.wn+(g1 ns)) y.wn (fun k=>u8 (y.wf k)) (u8 0))⟩]) ns) [n8,n9] (aI v0W (aI v5G (@rfl (List (Option Blk)) [some ⟨p,false,0,(.lit [v0,(qHG h)])⟩,some ⟨h,true,0,(qR7 l)⟩,some ⟨t,false,0,(.lit [(qS7 sp n sc),(v16 s n),(qHG fm),(qHG am)])⟩,some ⟨sp,false,0,(v0g n s)⟩,some ⟨fm,true,0,(qB5 (qBo n s F w (qAy y)))⟩,some ⟨am,true,0,(qEj (qBX n s F A w (qAy y)))⟩,some ⟨bm,true,0,(bkC (qCw sR (qAy y) (qCP (RwP.mk n8 y.wn (y.wn+n9) y.wf)) B))⟩,some ⟨n8,true,0,(v3e y n9)⟩])))))))))) (show(((qAJ n s F w (qAy y)):Int)!=0)=false from by exact jF0 hv))))))))))) (show(qA0 (((unX y):Int)!=0) true (!((unH y)==k)))=false from by exact qT6 hb))))))
def v0U(n:Nat)(s:Nat→UInt64)(w:Int)(y:BytL)(n10 n11:Nat):=rg [.g,(.ld 6 (.lit 0)),.g,(.ld 3 (.lit 1)),(.ld 12 (.lit 0)),(.call [(7,true),(8,true),(9,false),(10,false)] 0 0 (fun _=>(int (qAJ n s ([]) w (qAy y)))) (fun _=>[none,none,some ⟨n10,true,0,(qB5 (qBo n s ([]) w (qAy y)))⟩,some ⟨n11,true,0,(qEj (qBX n s ([]) ([]) w (qAy y)))⟩])),.g]
def v1A:=rg [.g,(.oth [] 1 1 (fun ns=>vM (some (g0 ns))) (fun ns=>[some ⟨ns.getD 0 0,true,0,bkC []⟩])),.g,(.st 6 (.lit 0))]
def v3j:OpH:=.oth [(2,true)] 0 0 (fun _=>(jFM)) (fun _=>[none])
def v3R:=aT (qHu (P:=TP) (kv:=qDf) (ev:=qA3) 66)
def v4J(l:List (UInt64×CV)):OpH:=.oth [(2,true)] 0 0 (fun _=>(nat l.length)) (fun _=>[none])
def v4K:OpH:=.st 12 (.lit 0)
def v5U(n:Nat)(s:Nat→UInt64):=rg [.g,.g,.g,v0j,(.callO [(1,true)] 5 4 (fun ns=>vT #[ptr (g0 ns) 0,int 0]) (fun ns=>[none,some ⟨(g0 ns),true,0,(.lit [(vS (some ⟨(g1 ns),0,none⟩) n (n+(g2 ns))),(v16 s n),(vM (some (g3 ns))),(vM (some (g4 ns)))])⟩,some ⟨(g1 ns),true,0,(v0g n s)⟩,some ⟨(g3 ns),true,0,v4c⟩,some ⟨(g4 ns),true,0,v4d⟩])),.g,.g,.g,.g,.g]
def v6n:=rg [.g,.g,.g,v0o,.g,v3j,.g,.g,.g,.new,v2G,.g]
def v6D(y:BytL)(k:UInt64):=rg [.g,.g,.g,(.opt .g),(.opt .g),(.opt v2f),(v2K y k),.pk]
def v6K(y:BytL):=rg [.g,v1Y,(v0s y),.g,.g,.g,.g,.g,.g,.g]
def v6L(l:List (UInt64×CV)):=rg [.g,.g,.g,v0o,(v4J l),(aB (decide (l.length=20)))]
def jD8 (p:Nat) (k:UInt64) (w:Int) (y:BytL) (h cp cc n:Nat) (s:Nat→UInt64) (l:List (UInt64×CV)) (hy:OkB y) (hl:y.wn≤3000) (hb:¬(unX y≠0∨unH y≠k)) (hs:qDE eqW (unH y) [] l=none) (h20:¬l.length=20) (hp:0<n) (hg:qJJ n s) (hn:n≤40) (hv:qAJ n s [] w (qAy y)≠0):qAc (qB8 [y]) TP 12 [(ptr p 0),(Value.agg #[(u64 k),(int w),(Value.slice y.wa y.wn y.wc)])] [some ⟨p,false,0,(.lit [(Value.slice (some ⟨cp,0,none⟩) n cc),(Value.map (some h))])⟩,some ⟨cp,false,0,(qAd n (fun k=>u64 (s k)))⟩,some ⟨h,false,0,(qA9 u64 clV [] l)⟩] 0 (fun _=>int (qAJ n s [] w (qAy y))) (fun _=>[some ⟨p,false,0,(.lit [(Value.slice (some ⟨cp,0,none⟩) n cc),(Value.map (some h))])⟩,some ⟨cp,false,0,(qAd n (fun k=>u64 (s k)))⟩,some ⟨h,false,0,(qA9 u64 clV [] l)⟩]):=
 qAv mix Tryz.func12 rfl rfl 400 (.regn v0T (more (fun n1=>fun _=>(.regn (v6K y) (m4 fun n2 n3 n4 n5=>(.reg (v6D y k) (.no (.regn v6n (more (fun n6=>fun _=>(.reg v00 (.yes (.reg (v6L l) (.no (.regn (v5U n s) (m5 fun n7 n8 n9 n10 n11=>(.regn v1A (more (fun n12=>fun _=>(.regn (rg [.g,v1Y,(v18 y),.new,v4K]) (more (fun n13=>fun _=>(.reg (v0U n s w y n10 n11) (.reg v00 v6Z)))))))))))))))))))))))) [] [] rfl
  (Eq.mp (by kernel_rfl) (fun(n1:Nat)=>aI kV2 (fun(n2 n3 n4 n5:Nat)=>aI (sk (aI (v1j n1) (aI (aT (qAc.mono (fun z (hz:qBi y z)=>(Or.inr ⟨y,List.mem_singleton.2 rfl,hz⟩:qB8 [y] z)) (v22 y hy hl))) v33))) (aI (sK3 (aI (fun(hg:(sB (((unX y):Int)!=0) false)=true)=>t2) (aI (fun(hg:(sB (((unX y):Int)!=0) false)=true)=>t2) (aI (fun(hg:(sB (((unX y):Int)!=0) false)=true)=>(aI (aI hg tV) (ad n1 0))) (aI (fun(hg:(sB (((unX y):Int)!=0) false)=true)=>(aI (aI hg (aI hg tV)) (v3M y k))) (aI (aT (aI (fun(_:(((unX y):Int)!=0)=true)=>tV) (fun(hp:(((unX y):Int)!=0)=false)=>(qAS hp)))) tV)))))) ((fun(hp1:(qA0 (((unX y):Int)!=0) true (!((unH y)==k)))=false)=>have f3:(((unX y):Int)!=0)=false:=(qBj hp1);have f4:((unH y)==k)=true:=(qAQ (qBK hp1));aT (aI hp1 (fun(n6:Nat)=>aI (v1w p h l y hs n6) (aI kV2 (aT (aI v01 (aI (v1g p h l) ((fun(hp2:(decide (l.length=20))=false)=>have f5:=(oF hp2);aT (aI hp2 (fun(n7 n8 n9 n10 n11:Nat)=>aI (sK3 (aI (aT (ad p 0)) (aI (aT (qAc.darkV (F:=(qB8 [y])) [true] (qLA cp 0 n cc s (show 0<n from by omega) hg).toO)) (sk kV4)))) (fun(n12:Nat)=>aI (sk (aI v3R (sk (aI (v31 n6) tV)))) (fun(n13:Nat)=>aI (sk (aI (v1j n1) (aI (aT (qKB y hy hl)) (sk (aI (aT (ad n13 0)) tV))))) (aI (sk (aI (v31 n6) (sk (aI (v1U n1) (aI (aT (ad n13 0)) (aI (aT (qBI.dark [true,true,false,false] (qIN n7 n8 (n+n9) n10 n11 n s ([]) ([]) w (qAy y) hn))) kV1)))))) (aI kV2 ((fun(hp3:(((qAJ n s ([]) w (qAy y)):Int)!=0)=true)=>aT (aI hp3 (aI kV2 (aT (eX (fun(ns:List Nat)=>ns.length=0∧((int (qAJ n s ([]) w (qAy y))):Value)=(fun _=>int (qAJ n s [] w (qAy y))) ns∧([some ⟨p,false,0,(.lit [(qS7 cp n cc),(qHG h)])⟩,some ⟨cp,false,0,(v0g n s)⟩,some ⟨h,false,0,(qR7 l)⟩]:List (Option Blk))=(fun _=>[some ⟨p,false,0,(.lit [(qS7 cp n cc),(qHG h)])⟩,some ⟨cp,false,0,(v0g n s)⟩,some ⟨h,false,0,(qR7 l)⟩]) ns) [] (aI v0b (aI (@rfl Value (int (qAJ n s [] w (qAy y)))) (@rfl (List (Option Blk)) [some ⟨p,false,0,(.lit [(qS7 cp n cc),(qHG h)])⟩,some ⟨cp,false,0,(v0g n s)⟩,some ⟨h,false,0,(qR7 l)⟩])))))))) (show(((qAJ n s ([]) w (qAy y)):Int)!=0)=true from by exact jF3 hv))))))))) (show(decide (l.length=20))=false from by exact decide_eq_false h20))))))))) (show(qA0 (((unX y):Int)!=0) true (!((unH y)==k)))=false from by exact qT6 hb))))))
def v2x:OpH:=.ld 12 (.lit 0)
def v3k(y:BytL)(n15:Nat):=spr (y.wn+n15) y.wn (fun k=>u8 (y.wf k)) (u8 0)
def v5H(y:BytL)(n14 n15:Nat):=bkC (qCw sR (qAy y) (qCP (RwP.mk n14 y.wn (y.wn+n15) y.wf)) ([]))
def jC1 (p:Nat) (k:UInt64) (w:Int) (y:BytL) (h cp cc n:Nat) (s:Nat→UInt64) (l:List (UInt64×CV)) (hy:OkB y) (hl:y.wn≤3000) (h0:0<y.wn) (hb:¬(unX y≠0∨unH y≠k)) (hs:qDE eqW (unH y) [] l=none) (h20:¬l.length=20) (hp:0<n) (hg:qJJ n s) (hn:n≤40) (hv:qAJ n s [] w (qAy y)=0):qAc (qB8 [y]) TP 12 [(ptr p 0),(Value.agg #[(u64 k),(int w),(Value.slice y.wa y.wn y.wc)])] [some ⟨p,false,0,(.lit [(Value.slice (some ⟨cp,0,none⟩) n cc),(Value.map (some h))])⟩,some ⟨cp,false,0,(qAd n (fun k=>u64 (s k)))⟩,some ⟨h,true,0,(qA9 u64 clV [] l)⟩] 8 (fun ns=>(int 0)) (fun ns=>[some ⟨p,false,0,(.lit [(Value.slice (some ⟨cp,0,none⟩) n cc),(Value.map (some h))])⟩,some ⟨cp,false,0,(qAd n (fun k=>u64 (s k)))⟩,some ⟨h,true,0,(qA9 u64 clV [] (l++[((unH y),(some ((ns.getD 0 0),(ns.getD 5 0))))]))⟩,some ⟨(ns.getD 0 0),true,0,(.lit [(Value.slice (some ⟨(ns.getD 1 0),0,none⟩) n (n+(ns.getD 2 0))),(u64 (qBM s n).a),(Value.map (some (ns.getD 3 0))),(Value.map (some (ns.getD 4 0)))])⟩,some ⟨(ns.getD 1 0),true,0,(qAd n (fun k=>u64 (s k)))⟩,some ⟨(ns.getD 3 0),true,0,(qB5 (qBo n s ([]) w (qAy y)))⟩,some ⟨(ns.getD 4 0),true,0,(qEj (qBX n s ([]) ([]) w (qAy y)))⟩,some ⟨(ns.getD 5 0),true,0,(bkC (qCw sR (qAy y) (qCP (RwP.mk (ns.getD 6 0) y.wn (y.wn+(ns.getD 7 0)) y.wf)) ([])))⟩,some ⟨(ns.getD 6 0),true,0,(spr (y.wn+(ns.getD 7 0)) y.wn (fun k=>u8 (y.wf k)) (u8 0))⟩]):=
 qAv mix Tryz.func12 rfl rfl 400 (.regn v0T (more (fun n1=>fun _=>(.regn (v6K y) (m4 fun n2 n3 n4 n5=>(.reg (v6D y k) (.no (.regn v6n (more (fun n6=>fun _=>(.reg v00 (.yes (.reg (v6L l) (.no (.regn (v5U n s) (m5 fun n7 n8 n9 n10 n11=>(.regn v1A (more (fun n12=>fun _=>(.regn (rg [.g,v1Y,(v18 y),.new,v4K]) (more (fun n13=>fun _=>(.reg (v0U n s w y n10 n11) (.reg v00 (.no (.regn (rg [.g,v3L,v2x,.g,v1Y,(v1d y),(.othB [(11,false),(13,true)] 0 0 (fun _=>undef) (fun bs _=>[some ⟨n12,true,0,bkC (qCw sR (qAy y) (rwL y.wn y.wf bs) ([]))⟩,none]))]) (m2 fun n14 n15=>(.reg (rg [.g,.g,.g,v0o,.g,v2H,(.upd 2 (qA9 u64 clV [] (l++[((unH y),(some (n7,n12)))])))]) v0c)))))))))))))))))))))))))))) [] [7,8,9,10,11,13] rfl
  (Eq.mp (by kernel_rfl) (fun(n1:Nat)=>aI kV2 (fun(n2 n3 n4 n5:Nat)=>aI (sk (aI (v1j n1) (aI (aT (qAc.mono (fun z (hz:qBi y z)=>(Or.inr ⟨y,List.mem_singleton.2 rfl,hz⟩:qB8 [y] z)) (v22 y hy hl))) v33))) (aI (sK3 (aI (fun(hg:(sB (((unX y):Int)!=0) false)=true)=>t2) (aI (fun(hg:(sB (((unX y):Int)!=0) false)=true)=>t2) (aI (fun(hg:(sB (((unX y):Int)!=0) false)=true)=>(aI (aI hg tV) (ad n1 0))) (aI (fun(hg:(sB (((unX y):Int)!=0) false)=true)=>(aI (aI hg (aI hg tV)) (v3M y k))) (aI (aT (aI (fun(_:(((unX y):Int)!=0)=true)=>tV) (fun(hp:(((unX y):Int)!=0)=false)=>(qAS hp)))) tV)))))) ((fun(hp1:(qA0 (((unX y):Int)!=0) true (!((unH y)==k)))=false)=>have f4:(((unX y):Int)!=0)=false:=(qBj hp1);have f5:((unH y)==k)=true:=(qAQ (qBK hp1));aT (aI hp1 (fun(n6:Nat)=>aI (v1w p h l y hs n6) (aI kV2 (aT (aI v01 (aI (v1g p h l) ((fun(hp2:(decide (l.length=20))=false)=>have f6:=(oF hp2);aT (aI hp2 (fun(n7 n8 n9 n10 n11:Nat)=>aI (sK3 (aI (aT (ad p 0)) (aI (aT (qAc.darkV (F:=(qB8 [y])) [true] (qLA cp 0 n cc s (show 0<n from by omega) hg).toO)) (sk kV4)))) (fun(n12:Nat)=>aI (sk (aI v3R (sk (aI (v31 n6) tV)))) (fun(n13:Nat)=>aI (sk (aI (v1j n1) (aI (aT (qKB y hy hl)) (sk (aI (aT (ad n13 0)) tV))))) (aI (sk (aI (v31 n6) (sk (aI (v1U n1) (aI (aT (ad n13 0)) (aI (aT (qBI.dark [true,true,false,false] (qIN n7 n8 (n+n9) n10 n11 n s ([]) ([]) w (qAy y) hn))) kV1)))))) (aI kV2 ((fun(hp3:(((qAJ n s ([]) w (qAy y)):Int)!=0)=false)=>aT (aI hp3 (fun(n14 n15:Nat)=>aI (sk (aI (aT (ad n6 1)) (aI (aT (ad n13 0)) (sk (aI (v1j n1) (aI (aT (qAt.mono (fun z (hz:qBi y z)=>(Or.inr ⟨y,List.mem_singleton.2 rfl,hz⟩:qB8 [y] z)) (qIG y hy h0 (Nat.le_trans hl (by decide))))) (aI (aT (qAu.beside (b:=⟨n14,false,0,(v3k y n15)⟩) (qHn (P:=TP) jB3 n12 ([]) (qAy y) (qCP (RwP.mk n14 y.wn (y.wn+n15) y.wf))))) tV))))))) (aI (sK3 (aI (v1Z p) (sk (aI (v31 n6) (aI (aT (qOD (P:=TP) qN1 h l (unH y) (some (n7,n12)) (qN0 ((qMb _ _).symm.trans hs)))) tV))))) (aI kV1 (aT (eX (fun(ns:List Nat)=>ns.length=8∧((int 0):Value)=(fun ns=>(int 0)) ns∧([some ⟨p,false,0,(.lit [(qS7 cp n cc),(qHG h)])⟩,some ⟨cp,false,0,(v0g n s)⟩,some ⟨h,true,0,(qA9 u64 clV [] (l++[((unH y),(some (n7,n12)))]))⟩,some ⟨n7,true,0,(.lit [(vS (some ⟨n8,0,none⟩) n (n+n9)),(v16 s n),(qHG n10),(qHG n11)])⟩,some ⟨n8,true,0,(v0g n s)⟩,some ⟨n10,true,0,(qB5 (qBo n s ([]) w (qAy y)))⟩,some ⟨n11,true,0,(qEj (qBX n s ([]) ([]) w (qAy y)))⟩,some ⟨n12,true,0,(v5H y n14 n15)⟩,some ⟨n14,true,0,(v3k y n15)⟩]:List (Option Blk))=(fun ns=>[some ⟨p,false,0,(.lit [(qS7 cp n cc),(qHG h)])⟩,some ⟨cp,false,0,(v0g n s)⟩,some ⟨h,true,0,(qA9 u64 clV [] (l++[((unH y),(some ((g0 ns),(g5 ns))))]))⟩,some ⟨(g0 ns),true,0,(.lit [(vS (some ⟨(g1 ns),0,none⟩) n (n+(g2 ns))),(v16 s n),(vM (some (g3 ns))),(vM (some (g4 ns)))])⟩,some ⟨(g1 ns),true,0,(v0g n s)⟩,some ⟨(g3 ns),true,0,(qB5 (qBo n s ([]) w (qAy y)))⟩,some ⟨(g4 ns),true,0,(qEj (qBX n s ([]) ([]) w (qAy y)))⟩,some ⟨(g5 ns),true,0,(bkC (qCw sR (qAy y) (qCP (RwP.mk (g6 ns) y.wn (y.wn+(g7 ns)) y.wf)) ([])))⟩,some ⟨(g6 ns),true,0,(spr (y.wn+(g7 ns)) y.wn (fun k=>u8 (y.wf k)) (u8 0))⟩]) ns) [n7,n8,n9,n10,n11,n12,n14,n15] (aI (@rfl Nat 8) (aI v5G (@rfl (List (Option Blk)) [some ⟨p,false,0,(.lit [(qS7 cp n cc),(qHG h)])⟩,some ⟨cp,false,0,(v0g n s)⟩,some ⟨h,true,0,(qA9 u64 clV [] (l++[((unH y),(some (n7,n12)))]))⟩,some ⟨n7,true,0,(.lit [(vS (some ⟨n8,0,none⟩) n (n+n9)),(v16 s n),(qHG n10),(qHG n11)])⟩,some ⟨n8,true,0,(v0g n s)⟩,some ⟨n10,true,0,(qB5 (qBo n s ([]) w (qAy y)))⟩,some ⟨n11,true,0,(qEj (qBX n s ([]) ([]) w (qAy y)))⟩,some ⟨n12,true,0,(v5H y n14 n15)⟩,some ⟨n14,true,0,(v3k y n15)⟩])))))))))) (show(((qAJ n s ([]) w (qAy y)):Int)!=0)=false from by exact jF0 hv))))))))) (show(decide (l.length=20))=false from by exact decide_eq_false h20))))))))) (show(qA0 (((unX y):Int)!=0) true (!((unH y)==k)))=false from by exact qT6 hb))))))
def qYu {F0:Blk→Prop} (X:ChR) (hX:qGN X) (hD:X.D=[]) (k:UInt64) (w:Int) (y:BytL) (hy:OkB y) (hl:y.wn≤3000) (hb:¬(unX y≠0∨unH y≠k)) (x:qGx) (hs:slX X k=some x) (hF:∀z,qB8 [y] z→F0 z):qAc F0 TP 12 [ptr X.p 0,.agg #[u64 k,int w,qA3 y]] (chO X) 8 (fun ns=>int (qD6 X k w y (qAy y))) (fun ns=>chO (hrX X k w y (qAy y) (ns.getD 6 0) (ns.getD 7 0) (ns.getD 0 0) (ns.getD 1 0) (ns.getD 2 0) (ns.getD 3 0) (ns.getD 4 0) (ns.getD 5 0))):=by
 have hk:unH y=k:=Decidable.byContradiction fun z=>hb (.inr z)
 have h0:0<y.wn:=qZs (Decidable.byContradiction fun z=>hb (.inl z))
 obtain⟨j,hj,hl',_,_,hv⟩:=qNl hs;rw[hD,←hk] at hv;have hm:x∈X.l:=List.mem_of_getElem? hl';have hg:∀{g:qGx→Nat×qBc},(X.l.map g)[j]?=some (g x):=by intro g;rw[List.getElem?_map,hl'];rfl
 obtain⟨e1,e2⟩:=qOa (w:=w) (v:=qAy y) hb hs hj;simp only[e1,e2];refine qAc.mono hF ?_;by_cases he:qAJ X.n X.s x.F w (qAy y)=0
 ·have c0:=jD2 X.p k w y X.h (.slice (some ⟨X.sp,0,none⟩) X.n (X.n+X.sr)) (hgL X.l) x.t x.sp (X.n+x.sr) x.fm x.am x.bm X.n X.s x.F x.A x.B hy hl h0 hb hv hX.good.2.1 he
  rw[←hD] at c0;have c1:=c0.as (bs':=[roO (chH X),chM X,some (qCD false (qJi X.n X.s x)),some (qCD false (qLY X.n X.s x)),some (qCD true (qJy x)),some (qCD true (qMe x)),some (qCD true (bkP x))]) (k':=8) (v':=fun _=>int (qAJ X.n X.s x.F w (qAy y)))
   (out':=fun ns=>[none,chM X,none,none,some (qCD true (x.fm,qJA int qDf (qBo X.n X.s x.F w (qAy y)))),some (qCD true (x.am,qJA int ev0 (qBX X.n X.s x.F x.A w (qAy y)))),some (qCD true (x.bm,qJA qDf qA3 (qCw sR (qAy y) (qCP ⟨ns.getD 6 0,y.wn,y.wn+ns.getD 7 0,y.wf⟩) x.B))),some (qCD true (qJh ⟨ns.getD 6 0,y.wn,y.wn+ns.getD 7 0,y.wf⟩))])
   (.cons _ (.cons _ (qQm X.n X.s x (.cons _ (.cons _ (.cons _ (.cons _ (.zz _)))))))) (fun ns=>[0,0,0,0,0,0,ns.getD 0 0,ns.getD 1 0]) fun ns hns=>⟨rfl,congrArg int he,.dr _ (.cons _ (.dr _ (.dr _ (.cons _ (.cons _ (.cons _ (.cons _ (.zz _)))))))),⟨rfl,rfl,rfl,rfl,rfl,tV⟩⟩
  have c2:=qAc.focusL (bs:=[roO (chH X),chM X]) (o:=fun _=>[none,chM X]) (q:=X.p) (ow:=false) c1 (hg (g:=qJi X.n X.s)) (fun _=>rfl)
  have c3:=qAc.focusL (bs:=[roO (chH X),chM X,roO (chT X)]) (o:=fun _=>[none,chM X,none]) (q:=X.p) (ow:=false) c2 (hg (g:=qLY X.n X.s)) (fun _=>rfl)
  have c4:=qAc.focus (bs:=[roO (chH X),chM X,roO (chT X),roO (chS X)]) (o:=fun _=>[none,chM X,none,none]) (q:=X.p) (pc':=fun _=>qJA int qDf (qBo X.n X.s x.F w (qAy y))) c3 (hg (g:=qJy)) (fun _=>rfl)
  have c5:=qAc.focus (bs:=[roO (chH X),chM X,roO (chT X),roO (chS X),chF X]) (o:=fun _=>[none,chM X,none,none,lpO X.p ((X.l.map qJy).set j (x.fm,qJA int qDf (qBo X.n X.s x.F w (qAy y))))]) (q:=X.p) (pc':=fun _=>qJA int ev0 (qBX X.n X.s x.F x.A w (qAy y))) c4 (hg (g:=qMe)) (fun _=>rfl)
  have c6:=qAc.focus (bs:=[roO (chH X),chM X,roO (chT X),roO (chS X),chF X,chA X]) (o:=fun _=>[none,chM X,none,none,lpO X.p ((X.l.map qJy).set j (x.fm,qJA int qDf (qBo X.n X.s x.F w (qAy y)))),lpO X.p ((X.l.map qMe).set j (x.am,qJA int ev0 (qBX X.n X.s x.F x.A w (qAy y))))]) (q:=X.p)
   (pc':=fun ns=>qJA qDf qA3 (qCw sR (qAy y) (qCP ⟨ns.getD 6 0,y.wn,y.wn+ns.getD 7 0,y.wf⟩) x.B)) c5 (hg (g:=bkP)) (fun _=>rfl)
  have c7:=qAc.frame (bs:=chO X) (ps:=[(0,true),(2,false),(3,true),(4,true),(5,false),(6,false),(7,false)]) (v':=fun _=>int (qAJ X.n X.s x.F w (qAy y)))
   (out':=fun ns=>[chH X,chK X,chM X,chT X,chS X,lpO X.p ((X.l.map qJy).set j (x.fm,qJA int qDf (qBo X.n X.s x.F w (qAy y)))),lpO X.p ((X.l.map qMe).set j (x.am,qJA int ev0 (qBX X.n X.s x.F x.A w (qAy y)))),lpO X.p ((X.l.map bkP).set j (x.bm,qJA qDf qA3 (qCw sR (qAy y) (qCP ⟨ns.getD 6 0,y.wn,y.wn+ns.getD 7 0,y.wf⟩) x.B))),lpO X.p (X.R.map qJh),some (qCD true (qJh ⟨ns.getD 6 0,y.wn,y.wn+ns.getD 7 0,y.wf⟩))])
   c6 rfl id fun ns hns=>⟨hns,rfl,Nat.le_of_ble_eq_true rfl,fun p b hb0=>(by
    have hp:=qKS hb0;match p,hp with
    |0,_=>exact hb0
    |1,_=>exact hb0
    |2,_=>exact hb0
    |3,_=>exact hb0
    |4,_=>exact hb0
    |5,_=>exact hb0
    |6,_=>exact hb0
    |7,_=>exact hb0
    |8,_=>exact hb0
    |9,_=>exact hb0
    |p+10,hp=>exact absurd hp (by simp))⟩
  have c8:=qAc.gather (o:=fun ns=>[chH X,chK X,chM X,chT X,chS X,lpO X.p ((X.l.map qJy).set j (x.fm,qJA int qDf (qBo X.n X.s x.F w (qAy y)))),lpO X.p ((X.l.map qMe).set j (x.am,qJA int ev0 (qBX X.n X.s x.F x.A w (qAy y)))),lpO X.p ((X.l.map bkP).set j (x.bm,qJA qDf qA3 (qCw sR (qAy y) (qCP ⟨ns.getD 6 0,y.wn,y.wn+ns.getD 7 0,y.wf⟩) x.B)))]) (q:=X.p) (L:=fun _=>X.R.map qJh) (x:=fun ns=>qJh ⟨ns.getD 6 0,y.wn,y.wn+ns.getD 7 0,y.wf⟩) (r:=fun _=>[]) (t:=fun _=>[]) c7
  refine c8.as (.refl _) id fun ns hns=>⟨hns,rfl,?_,qPx _⟩
  rw[id,qWg hl',if_pos he,if_pos he,List.map_append];exact .cons _ (.cons _ (.cons _ (.cons _ (.cons _ (.cons _ (.cons _ (.cons _ (.cons _ (.zz _)))))))))
 ·have c0:=jD6 X.p k w y X.h (.slice (some ⟨X.sp,0,none⟩) X.n (X.n+X.sr)) (hgL X.l) x.t x.sp (X.n+x.sr) x.fm x.am x.bm X.n X.s x.F x.A hy hl hb hv hX.good.2.1 he
  rw[←hD] at c0;have c1:=c0.as (bs':=[roO (chH X),roO (chM X),some (qCD false (qJi X.n X.s x)),some (qCD false (qLY X.n X.s x)),some (qCD true (qJy x)),some (qCD true (qMe x))]) (k':=8) (v':=fun _=>int (qAJ X.n X.s x.F w (qAy y)))
   (out':=fun ns=>[none,none,none,none,some (qCD true (x.fm,qJA int qDf (qBo X.n X.s x.F w (qAy y)))),some (qCD true (x.am,qJA int ev0 (qBX X.n X.s x.F x.A w (qAy y))))])
   (.cons _ (.cons _ (qQm X.n X.s x (.cons _ (.cons _ (.cons _ (.zz _))))))) (fun ns=>[0,0,0,0,0,0,0,0]) fun ns hns=>⟨rfl,rfl,.dr _ (.dr _ (.dr _ (.dr _ (.cons _ (.cons _ (.zz _)))))),⟨rfl,rfl,tV⟩⟩
  have c2:=qAc.focusL (bs:=[roO (chH X),roO (chM X)]) (o:=fun _=>[none,none]) (q:=X.p) (ow:=false) c1 (hg (g:=qJi X.n X.s)) (fun _=>rfl)
  have c3:=qAc.focusL (bs:=[roO (chH X),roO (chM X),roO (chT X)]) (o:=fun _=>[none,none,none]) (q:=X.p) (ow:=false) c2 (hg (g:=qLY X.n X.s)) (fun _=>rfl)
  have c4:=qAc.focus (bs:=[roO (chH X),roO (chM X),roO (chT X),roO (chS X)]) (o:=fun _=>[none,none,none,none]) (q:=X.p) (pc':=fun _=>qJA int qDf (qBo X.n X.s x.F w (qAy y))) c3 (hg (g:=qJy)) (fun _=>rfl)
  have c5:=qAc.focus (bs:=[roO (chH X),roO (chM X),roO (chT X),roO (chS X),chF X]) (o:=fun _=>[none,none,none,none,lpO X.p ((X.l.map qJy).set j (x.fm,qJA int qDf (qBo X.n X.s x.F w (qAy y))))]) (q:=X.p) (pc':=fun _=>qJA int ev0 (qBX X.n X.s x.F x.A w (qAy y))) c4 (hg (g:=qMe)) (fun _=>rfl)
  refine qAc.frame (bs:=chO X) (ps:=[(0,true),(2,true),(3,true),(4,true),(5,false),(6,false)]) c5 rfl id fun ns hns=>⟨hns,rfl,Nat.le_of_ble_eq_true rfl,?_⟩
  rw[id,qWg hl',if_neg he,if_neg he,show(X.l.map bkP).set j (x.bm,qJA qDf qA3 x.B)=X.l.map bkP from qQN (hg (g:=bkP))];exact fun p b hb0=>(by
    have hp:=qKS hb0;match p,hp with
    |0,_=>exact hb0
    |1,_=>exact hb0
    |2,_=>exact hb0
    |3,_=>exact hb0
    |4,_=>exact hb0
    |5,_=>exact hb0
    |6,_=>exact hb0
    |7,_=>exact hb0
    |8,_=>exact hb0
    |p+9,hp=>exact absurd hp (by simp))
def jAK {F0:Blk→Prop} (X:ChR) (hX:qGN X) (hD:X.D=[]) (k:UInt64) (w:Int) (y:BytL) (hy:OkB y) (hl:y.wn≤3000) (hb:¬(unX y≠0∨unH y≠k)) (hs:slX X k=none) (hF:∀z,qB8 [y] z→F0 z):qAc F0 TP 12 [ptr X.p 0,.agg #[u64 k,int w,qA3 y]] (chO X) 8 (fun ns=>int (qD6 X k w y (qAy y))) (fun ns=>chO (hrX X k w y (qAy y) (ns.getD 6 0) (ns.getD 7 0) (ns.getD 0 0) (ns.getD 1 0) (ns.getD 2 0) (ns.getD 3 0) (ns.getD 4 0) (ns.getD 5 0))):=by
 have hk:unH y=k:=Decidable.byContradiction fun z=>hb (.inr z)
 have h0:0<y.wn:=qZs (Decidable.byContradiction fun z=>hb (.inl z))
 have hv:=qZ9 hs;rw[hD,←hk] at hv;have hll:(hgL X.l).length=X.l.length:=List.length_map ..;have hgd:qJJ X.n X.s:=qGM.2 hX.good.2;refine qAc.mono hF ?_;by_cases h20:X.l.length=20
 ·obtain⟨e1,e2⟩:=qVS (w:=w) (v:=qAy y) hb hs h20
  simp only[e1,e2];have c0:=jCO X.p k w y X.h (.slice (some ⟨X.sp,0,none⟩) X.n (X.n+X.sr)) (hgL X.l) hy hl hb hv (hll.trans h20);rw[←hD] at c0;exact qAc.reads (bs:=chO X) [(0,true),(2,true)] c0 rfl rfl
 by_cases he:qAJ X.n X.s [] w (qAy y)=0
 ·obtain⟨e1,e2⟩:=qQY hb hs h20 he
  simp only[e1,e2];have c0:=jC1 X.p k w y X.h X.sp (X.n+X.sr) X.n X.s (hgL X.l) hy hl h0 hb hv (fun z=>h20 (hll.symm.trans z)) hX.good.1 hgd hX.good.2.1 he
  have hva:=qP4 (A:=[]) he;rw[←hD,hk,hva.1,hva.2] at c0;have c1:=qAc.frame (bs:=chO X) (ps:=[(0,true),(1,true),(2,false)]) (v':=fun _=>int 0)
   (out':=fun ns=>[chH X,chK X,some ⟨X.h,true,0,qA9 u64 clV X.D (hgL X.l++[(k,some (ns.getD 0 0,ns.getD 5 0))])⟩,chT X,chS X,chF X,chA X,chB X,chR X,some ⟨ns.getD 0 0,true,0,.lit (qV6 X.n X.s (slN k w (qAy y) ⟨ns.getD 6 0,y.wn,y.wn+ns.getD 7 0,y.wf⟩ (ns.getD 0 0) (ns.getD 1 0) (ns.getD 2 0) (ns.getD 3 0) (ns.getD 4 0) (ns.getD 5 0)))⟩,some (qCD true (qLY X.n X.s (slN k w (qAy y) ⟨ns.getD 6 0,y.wn,y.wn+ns.getD 7 0,y.wf⟩ (ns.getD 0 0) (ns.getD 1 0) (ns.getD 2 0) (ns.getD 3 0) (ns.getD 4 0) (ns.getD 5 0)))),some (qCD true (qJy (slN k w (qAy y) ⟨ns.getD 6 0,y.wn,y.wn+ns.getD 7 0,y.wf⟩ (ns.getD 0 0) (ns.getD 1 0) (ns.getD 2 0) (ns.getD 3 0) (ns.getD 4 0) (ns.getD 5 0)))),some (qCD true (qMe (slN k w (qAy y) ⟨ns.getD 6 0,y.wn,y.wn+ns.getD 7 0,y.wf⟩ (ns.getD 0 0) (ns.getD 1 0) (ns.getD 2 0) (ns.getD 3 0) (ns.getD 4 0) (ns.getD 5 0)))),some (qCD true (bkP (slN k w (qAy y) ⟨ns.getD 6 0,y.wn,y.wn+ns.getD 7 0,y.wf⟩ (ns.getD 0 0) (ns.getD 1 0) (ns.getD 2 0) (ns.getD 3 0) (ns.getD 4 0) (ns.getD 5 0)))),some (qCD true (qJh ⟨ns.getD 6 0,y.wn,y.wn+ns.getD 7 0,y.wf⟩))])
   c0 rfl id fun ns hns=>⟨hns,rfl,Nat.le_of_ble_eq_true rfl,fun p b hb0=>(by
    have hp:=qKS hb0;match p,hp with
    |0,_=>exact hb0
    |1,_=>exact hb0
    |2,_=>exact hb0
    |3,_=>exact hb0
    |4,_=>exact hb0
    |5,_=>exact hb0
    |6,_=>exact hb0
    |7,_=>exact hb0
    |8,_=>exact hb0
    |9,_=>exact hb0
    |10,_=>exact hb0
    |11,_=>exact hb0
    |12,_=>exact hb0
    |13,_=>exact hb0
    |14,_=>exact hb0
    |p+15,hp=>exact absurd hp (by simp))⟩
  have c2:=c1.as (bs':=chO X) (k':=8) (v':=fun _=>int 0) (out':=fun ns=>[chH X,chK X,some ⟨X.h,true,0,qA9 u64 clV X.D (hgL X.l++[(k,some (ns.getD 0 0,ns.getD 5 0))])⟩,chT X,chS X,chF X,chA X,chB X,chR X,some (qCD true (qJi X.n X.s (slN k w (qAy y) ⟨ns.getD 6 0,y.wn,y.wn+ns.getD 7 0,y.wf⟩ (ns.getD 0 0) (ns.getD 1 0) (ns.getD 2 0) (ns.getD 3 0) (ns.getD 4 0) (ns.getD 5 0)))),some (qCD true (qLY X.n X.s (slN k w (qAy y) ⟨ns.getD 6 0,y.wn,y.wn+ns.getD 7 0,y.wf⟩ (ns.getD 0 0) (ns.getD 1 0) (ns.getD 2 0) (ns.getD 3 0) (ns.getD 4 0) (ns.getD 5 0)))),some (qCD true (qJy (slN k w (qAy y) ⟨ns.getD 6 0,y.wn,y.wn+ns.getD 7 0,y.wf⟩ (ns.getD 0 0) (ns.getD 1 0) (ns.getD 2 0) (ns.getD 3 0) (ns.getD 4 0) (ns.getD 5 0)))),some (qCD true (qMe (slN k w (qAy y) ⟨ns.getD 6 0,y.wn,y.wn+ns.getD 7 0,y.wf⟩ (ns.getD 0 0) (ns.getD 1 0) (ns.getD 2 0) (ns.getD 3 0) (ns.getD 4 0) (ns.getD 5 0)))),some (qCD true (bkP (slN k w (qAy y) ⟨ns.getD 6 0,y.wn,y.wn+ns.getD 7 0,y.wf⟩ (ns.getD 0 0) (ns.getD 1 0) (ns.getD 2 0) (ns.getD 3 0) (ns.getD 4 0) (ns.getD 5 0)))),some (qCD true (qJh ⟨ns.getD 6 0,y.wn,y.wn+ns.getD 7 0,y.wf⟩))]) (.refl _) id fun ns hns=>⟨hns,rfl,.cons _ (.cons _ (.cons _ (.cons _ (.cons _ (.cons _ (.cons _ (.cons _ (.cons _ (jBe X.n X.s (slN k w (qAy y) ⟨ns.getD 6 0,y.wn,y.wn+ns.getD 7 0,y.wf⟩ (ns.getD 0 0) (ns.getD 1 0) (ns.getD 2 0) (ns.getD 3 0) (ns.getD 4 0) (ns.getD 5 0)) (.cons _ (.cons _ (.cons _ (.cons _ (.cons _ (.zz _))))))))))))))),by exact⟨rfl,rfl,rfl,rfl,rfl,rfl,rfl,rfl,rfl,rfl,rfl,rfl,rfl,rfl,rfl,tV⟩⟩
  have g1:=qAc.gather (o:=fun ns=>[chH X,chK X,some ⟨X.h,true,0,qA9 u64 clV X.D (hgL X.l++[(k,some (ns.getD 0 0,ns.getD 5 0))])⟩]) (q:=X.p) (L:=fun _=>X.l.map (qJi X.n X.s)) (x:=fun ns=>(qJi X.n X.s (slN k w (qAy y) ⟨ns.getD 6 0,y.wn,y.wn+ns.getD 7 0,y.wf⟩ (ns.getD 0 0) (ns.getD 1 0) (ns.getD 2 0) (ns.getD 3 0) (ns.getD 4 0) (ns.getD 5 0)))) (r:=fun ns=>[chS X,chF X,chA X,chB X,chR X]) (t:=fun ns=>[some (qCD true (qLY X.n X.s (slN k w (qAy y) ⟨ns.getD 6 0,y.wn,y.wn+ns.getD 7 0,y.wf⟩ (ns.getD 0 0) (ns.getD 1 0) (ns.getD 2 0) (ns.getD 3 0) (ns.getD 4 0) (ns.getD 5 0)))),some (qCD true (qJy (slN k w (qAy y) ⟨ns.getD 6 0,y.wn,y.wn+ns.getD 7 0,y.wf⟩ (ns.getD 0 0) (ns.getD 1 0) (ns.getD 2 0) (ns.getD 3 0) (ns.getD 4 0) (ns.getD 5 0)))),some (qCD true (qMe (slN k w (qAy y) ⟨ns.getD 6 0,y.wn,y.wn+ns.getD 7 0,y.wf⟩ (ns.getD 0 0) (ns.getD 1 0) (ns.getD 2 0) (ns.getD 3 0) (ns.getD 4 0) (ns.getD 5 0)))),some (qCD true (bkP (slN k w (qAy y) ⟨ns.getD 6 0,y.wn,y.wn+ns.getD 7 0,y.wf⟩ (ns.getD 0 0) (ns.getD 1 0) (ns.getD 2 0) (ns.getD 3 0) (ns.getD 4 0) (ns.getD 5 0)))),some (qCD true (qJh ⟨ns.getD 6 0,y.wn,y.wn+ns.getD 7 0,y.wf⟩))]) c2
  have g2:=qAc.gather (o:=fun ns=>[chH X,chK X,some ⟨X.h,true,0,qA9 u64 clV X.D (hgL X.l++[(k,some (ns.getD 0 0,ns.getD 5 0))])⟩,lpO X.p (X.l.map (qJi X.n X.s)++[(qJi X.n X.s (slN k w (qAy y) ⟨ns.getD 6 0,y.wn,y.wn+ns.getD 7 0,y.wf⟩ (ns.getD 0 0) (ns.getD 1 0) (ns.getD 2 0) (ns.getD 3 0) (ns.getD 4 0) (ns.getD 5 0)))])]) (q:=X.p) (L:=fun _=>X.l.map (qLY X.n X.s)) (x:=fun ns=>(qLY X.n X.s (slN k w (qAy y) ⟨ns.getD 6 0,y.wn,y.wn+ns.getD 7 0,y.wf⟩ (ns.getD 0 0) (ns.getD 1 0) (ns.getD 2 0) (ns.getD 3 0) (ns.getD 4 0) (ns.getD 5 0)))) (r:=fun ns=>[chF X,chA X,chB X,chR X,none]) (t:=fun ns=>[some (qCD true (qJy (slN k w (qAy y) ⟨ns.getD 6 0,y.wn,y.wn+ns.getD 7 0,y.wf⟩ (ns.getD 0 0) (ns.getD 1 0) (ns.getD 2 0) (ns.getD 3 0) (ns.getD 4 0) (ns.getD 5 0)))),some (qCD true (qMe (slN k w (qAy y) ⟨ns.getD 6 0,y.wn,y.wn+ns.getD 7 0,y.wf⟩ (ns.getD 0 0) (ns.getD 1 0) (ns.getD 2 0) (ns.getD 3 0) (ns.getD 4 0) (ns.getD 5 0)))),some (qCD true (bkP (slN k w (qAy y) ⟨ns.getD 6 0,y.wn,y.wn+ns.getD 7 0,y.wf⟩ (ns.getD 0 0) (ns.getD 1 0) (ns.getD 2 0) (ns.getD 3 0) (ns.getD 4 0) (ns.getD 5 0)))),some (qCD true (qJh ⟨ns.getD 6 0,y.wn,y.wn+ns.getD 7 0,y.wf⟩))]) g1
  have g3:=qAc.gather (o:=fun ns=>[chH X,chK X,some ⟨X.h,true,0,qA9 u64 clV X.D (hgL X.l++[(k,some (ns.getD 0 0,ns.getD 5 0))])⟩,lpO X.p (X.l.map (qJi X.n X.s)++[(qJi X.n X.s (slN k w (qAy y) ⟨ns.getD 6 0,y.wn,y.wn+ns.getD 7 0,y.wf⟩ (ns.getD 0 0) (ns.getD 1 0) (ns.getD 2 0) (ns.getD 3 0) (ns.getD 4 0) (ns.getD 5 0)))]),lpO X.p (X.l.map (qLY X.n X.s)++[(qLY X.n X.s (slN k w (qAy y) ⟨ns.getD 6 0,y.wn,y.wn+ns.getD 7 0,y.wf⟩ (ns.getD 0 0) (ns.getD 1 0) (ns.getD 2 0) (ns.getD 3 0) (ns.getD 4 0) (ns.getD 5 0)))])]) (q:=X.p) (L:=fun _=>X.l.map qJy) (x:=fun ns=>(qJy (slN k w (qAy y) ⟨ns.getD 6 0,y.wn,y.wn+ns.getD 7 0,y.wf⟩ (ns.getD 0 0) (ns.getD 1 0) (ns.getD 2 0) (ns.getD 3 0) (ns.getD 4 0) (ns.getD 5 0)))) (r:=fun ns=>[chA X,chB X,chR X,none,none]) (t:=fun ns=>[some (qCD true (qMe (slN k w (qAy y) ⟨ns.getD 6 0,y.wn,y.wn+ns.getD 7 0,y.wf⟩ (ns.getD 0 0) (ns.getD 1 0) (ns.getD 2 0) (ns.getD 3 0) (ns.getD 4 0) (ns.getD 5 0)))),some (qCD true (bkP (slN k w (qAy y) ⟨ns.getD 6 0,y.wn,y.wn+ns.getD 7 0,y.wf⟩ (ns.getD 0 0) (ns.getD 1 0) (ns.getD 2 0) (ns.getD 3 0) (ns.getD 4 0) (ns.getD 5 0)))),some (qCD true (qJh ⟨ns.getD 6 0,y.wn,y.wn+ns.getD 7 0,y.wf⟩))]) g2
  have g4:=qAc.gather (o:=fun ns=>[chH X,chK X,some ⟨X.h,true,0,qA9 u64 clV X.D (hgL X.l++[(k,some (ns.getD 0 0,ns.getD 5 0))])⟩,lpO X.p (X.l.map (qJi X.n X.s)++[(qJi X.n X.s (slN k w (qAy y) ⟨ns.getD 6 0,y.wn,y.wn+ns.getD 7 0,y.wf⟩ (ns.getD 0 0) (ns.getD 1 0) (ns.getD 2 0) (ns.getD 3 0) (ns.getD 4 0) (ns.getD 5 0)))]),lpO X.p (X.l.map (qLY X.n X.s)++[(qLY X.n X.s (slN k w (qAy y) ⟨ns.getD 6 0,y.wn,y.wn+ns.getD 7 0,y.wf⟩ (ns.getD 0 0) (ns.getD 1 0) (ns.getD 2 0) (ns.getD 3 0) (ns.getD 4 0) (ns.getD 5 0)))]),lpO X.p (X.l.map qJy++[(qJy (slN k w (qAy y) ⟨ns.getD 6 0,y.wn,y.wn+ns.getD 7 0,y.wf⟩ (ns.getD 0 0) (ns.getD 1 0) (ns.getD 2 0) (ns.getD 3 0) (ns.getD 4 0) (ns.getD 5 0)))])]) (q:=X.p) (L:=fun _=>X.l.map qMe) (x:=fun ns=>(qMe (slN k w (qAy y) ⟨ns.getD 6 0,y.wn,y.wn+ns.getD 7 0,y.wf⟩ (ns.getD 0 0) (ns.getD 1 0) (ns.getD 2 0) (ns.getD 3 0) (ns.getD 4 0) (ns.getD 5 0)))) (r:=fun ns=>[chB X,chR X,none,none,none]) (t:=fun ns=>[some (qCD true (bkP (slN k w (qAy y) ⟨ns.getD 6 0,y.wn,y.wn+ns.getD 7 0,y.wf⟩ (ns.getD 0 0) (ns.getD 1 0) (ns.getD 2 0) (ns.getD 3 0) (ns.getD 4 0) (ns.getD 5 0)))),some (qCD true (qJh ⟨ns.getD 6 0,y.wn,y.wn+ns.getD 7 0,y.wf⟩))]) g3
  have g5:=qAc.gather (o:=fun ns=>[chH X,chK X,some ⟨X.h,true,0,qA9 u64 clV X.D (hgL X.l++[(k,some (ns.getD 0 0,ns.getD 5 0))])⟩,lpO X.p (X.l.map (qJi X.n X.s)++[(qJi X.n X.s (slN k w (qAy y) ⟨ns.getD 6 0,y.wn,y.wn+ns.getD 7 0,y.wf⟩ (ns.getD 0 0) (ns.getD 1 0) (ns.getD 2 0) (ns.getD 3 0) (ns.getD 4 0) (ns.getD 5 0)))]),lpO X.p (X.l.map (qLY X.n X.s)++[(qLY X.n X.s (slN k w (qAy y) ⟨ns.getD 6 0,y.wn,y.wn+ns.getD 7 0,y.wf⟩ (ns.getD 0 0) (ns.getD 1 0) (ns.getD 2 0) (ns.getD 3 0) (ns.getD 4 0) (ns.getD 5 0)))]),lpO X.p (X.l.map qJy++[(qJy (slN k w (qAy y) ⟨ns.getD 6 0,y.wn,y.wn+ns.getD 7 0,y.wf⟩ (ns.getD 0 0) (ns.getD 1 0) (ns.getD 2 0) (ns.getD 3 0) (ns.getD 4 0) (ns.getD 5 0)))]),lpO X.p (X.l.map qMe++[(qMe (slN k w (qAy y) ⟨ns.getD 6 0,y.wn,y.wn+ns.getD 7 0,y.wf⟩ (ns.getD 0 0) (ns.getD 1 0) (ns.getD 2 0) (ns.getD 3 0) (ns.getD 4 0) (ns.getD 5 0)))])]) (q:=X.p) (L:=fun _=>X.l.map bkP) (x:=fun ns=>(bkP (slN k w (qAy y) ⟨ns.getD 6 0,y.wn,y.wn+ns.getD 7 0,y.wf⟩ (ns.getD 0 0) (ns.getD 1 0) (ns.getD 2 0) (ns.getD 3 0) (ns.getD 4 0) (ns.getD 5 0)))) (r:=fun ns=>[chR X,none,none,none,none]) (t:=fun ns=>[some (qCD true (qJh ⟨ns.getD 6 0,y.wn,y.wn+ns.getD 7 0,y.wf⟩))]) g4
  have g6:=qAc.gather (o:=fun ns=>[chH X,chK X,some ⟨X.h,true,0,qA9 u64 clV X.D (hgL X.l++[(k,some (ns.getD 0 0,ns.getD 5 0))])⟩,lpO X.p (X.l.map (qJi X.n X.s)++[(qJi X.n X.s (slN k w (qAy y) ⟨ns.getD 6 0,y.wn,y.wn+ns.getD 7 0,y.wf⟩ (ns.getD 0 0) (ns.getD 1 0) (ns.getD 2 0) (ns.getD 3 0) (ns.getD 4 0) (ns.getD 5 0)))]),lpO X.p (X.l.map (qLY X.n X.s)++[(qLY X.n X.s (slN k w (qAy y) ⟨ns.getD 6 0,y.wn,y.wn+ns.getD 7 0,y.wf⟩ (ns.getD 0 0) (ns.getD 1 0) (ns.getD 2 0) (ns.getD 3 0) (ns.getD 4 0) (ns.getD 5 0)))]),lpO X.p (X.l.map qJy++[(qJy (slN k w (qAy y) ⟨ns.getD 6 0,y.wn,y.wn+ns.getD 7 0,y.wf⟩ (ns.getD 0 0) (ns.getD 1 0) (ns.getD 2 0) (ns.getD 3 0) (ns.getD 4 0) (ns.getD 5 0)))]),lpO X.p (X.l.map qMe++[(qMe (slN k w (qAy y) ⟨ns.getD 6 0,y.wn,y.wn+ns.getD 7 0,y.wf⟩ (ns.getD 0 0) (ns.getD 1 0) (ns.getD 2 0) (ns.getD 3 0) (ns.getD 4 0) (ns.getD 5 0)))]),lpO X.p (X.l.map bkP++[(bkP (slN k w (qAy y) ⟨ns.getD 6 0,y.wn,y.wn+ns.getD 7 0,y.wf⟩ (ns.getD 0 0) (ns.getD 1 0) (ns.getD 2 0) (ns.getD 3 0) (ns.getD 4 0) (ns.getD 5 0)))])]) (q:=X.p) (L:=fun _=>X.R.map qJh) (x:=fun ns=>(qJh ⟨ns.getD 6 0,y.wn,y.wn+ns.getD 7 0,y.wf⟩)) (r:=fun ns=>[none,none,none,none,none]) (t:=fun ns=>[]) g5
  refine g6.as (.refl _) id fun ns hns=>⟨hns,rfl,?_,qPx _⟩
  rw[id,jAY];exact .cons _ (.cons _ (.cons _ (.cons _ (.cons _ (.cons _ (.cons _ (.cons _ (.cons _ (.zz _)))))))))
 ·obtain⟨e1,e2⟩:=qVm hb hs h20 he
  simp only[e1,e2];have c0:=jD8 X.p k w y X.h X.sp (X.n+X.sr) X.n X.s (hgL X.l) hy hl hb hv (fun z=>h20 (hll.symm.trans z)) hX.good.1 hgd hX.good.2.1 he
  rw[←hD] at c0;exact qAc.reads (bs:=chO X) [(0,true),(1,true),(2,true)] c0 rfl rfl
def qV7 {F0:Blk→Prop} (X:ChR) (hX:qGN X) (hD:X.D=[]) (k:UInt64) (w:Int) (y:BytL) (hy:OkB y) (hl:y.wn≤3000) (hF:∀z,qB8 [y] z→F0 z):qAc F0 TP 12 [ptr X.p 0,.agg #[u64 k,int w,qA3 y]] (chO X) 8 (fun ns=>int (qD6 X k w y (qAy y))) (fun ns=>chO (hrX X k w y (qAy y) (ns.getD 6 0) (ns.getD 7 0) (ns.getD 0 0) (ns.getD 1 0) (ns.getD 2 0) (ns.getD 3 0) (ns.getD 4 0) (ns.getD 5 0))):=by
 by_cases hb:unX y≠0∨unH y≠k
 ·obtain⟨e1,e2⟩:=qVB (X:=X) (w:=w) (v:=qAy y) hb
  simp only[e1,e2];exact qAc.mono hF (qAc.reads (bs:=chO X) [] (jD4 X.p k w y hy hl hb) rfl rfl)
 ·cases hs:slX X k with
  |none=>exact jAK X hX hD k w y hy hl hb hs hF
  |some x=>exact qYu X hX hD k w y hy hl hb x hs hF
def itH (n:Nat):List Blk→qAL
 |b:: _=>itC b.name n []
 |[]=>.lit []
def qEe (p:Nat) (h:Nat) (v0:Value) (l:List (UInt64×CV)) (b:UInt64) (n1:Nat) (x1:(List Nat)×(List Nat)):St:=⟨[(0,.v (ptr p 0)),(1,.v (u64 b)),(5,.v (nat l.length)),(16,.v (v1M n1))],[(0,some ⟨p,false,0,(.lit [v0,(v17 h)])⟩),(1,some ⟨h,true,0,(qA9 u64 clV x1.2 l)⟩),(2,some ⟨n1,true,0,(itC h l.length x1.1)⟩)],3⟩
def qCf (p:Nat) (h:Nat) (v0:Value) (l:List (UInt64×CV)) (b:UInt64) (n1:Nat) (x1:(List Nat)×(List Nat)):Prop:=(OrdN l.length x1.1)∧(x1.2=x1.1.filter (lsK l b))
def qBU (p:Nat) (h:Nat) (v0:Value) (l:List (UInt64×CV)) (b:UInt64) (n1:Nat) (x1:(List Nat)×(List Nat)):Nat:=qFv x1.1 l.length
def wi1(a b:Nat):=@qAD TP 3 3 (.tmp a) (.tmp b)
def v3N(l:List (UInt64×CV))(b:UInt64):=l.length-(qBn (fgD l b) l.length)
def qSd {F:Blk→Prop} (p h:Nat) (v0:Value) (l:List (UInt64×CV)) (b:UInt64) (hk:(l.map (·.1)).Nodup) (h20:l.length≤20):qAc F TP 17 [(ptr p 0),(u64 b)] [some ⟨p,false,0,(.lit [v0,(Value.map (some h))])⟩,some ⟨h,true,0,(qA9 u64 clV [] l)⟩] 0 (fun ns=>(nat (l.length-(qBn (fgD l b) l.length)))) (fun ns=>[some ⟨p,false,0,(.lit [v0,(Value.map (some h))])⟩,some ⟨h,true,0,(qA9 u64 clV (fgD l b) l)⟩]):=
 qAv mix Tryz.func17 rfl rfl 400 (.reg (rg [.g]) (.reg (rg [.g,.g,.g,v0o,(v4H l),.g]) (.regn (rg [.g,.g,.g,v0o,(.othB [(1,true)] 1 1 (fun ns=>ptr (g0 ns) 0) (fun bs ns=>[none,some ⟨(g0 ns),true,0,itH l.length bs⟩]))]) (more (fun n1=>fun _=>(.inv [0,1,5,16] [0,1,2] 3 (qCf p h v0 l b n1) (qEe p h v0 l b n1) (qBU p h v0 l b n1) ((([]),[]):(List Nat)×(List Nat)) (fun(x1:(List Nat)×(List Nat))=>(.both (qBs x1.1 l.length) (.regn (rg [(.oth [(2,false),(1,true)] 1 0 (fun ns=>(vT #[(vB true),(u64 (qBp d0W l (pk x1.1 l.length (g0 ns))).1),(clV (qBp d0W l (pk x1.1 l.length (g0 ns))).2)])) (fun ns=>[some ⟨n1,true,0,(itC h l.length (x1.1++[pk x1.1 l.length (g0 ns)]))⟩,none])),.g]) (more (fun n2=>fun _=>(.yes (.reg (rg [(.oth [(2,true),(1,true)] 0 0 (fun _=>(vT #[(u64 (qBp d0W l (pk x1.1 l.length n2)).1),(clV (qBp d0W l (pk x1.1 l.length n2)).2)])) (fun _=>[none,none])),.g,.g]) (.reg (rg [.g,.g,(aB (decide ((qBp d0W l (pk x1.1 l.length n2)).1<b)))]) (.br (.reg (rg [.g,.g,.g,v0o,.g,(.oth [(1,false)] 0 0 (fun _=>vT #[]) (fun _=>[some ⟨h,true,0,(qA9 u64 clV (x1.2++[pk x1.1 l.length n2]) l)⟩]))]) .done) .done))))))) (.reg (rg [(.oth [(2,true),(1,true)] 0 0 (fun _=>vT #[.bool false]) (fun _=>[none,none])),.g]) (.no (.keep [0,5] [0,1,2] 3 (.told ⟨[(0,.v (ptr p 0)),(5,.v (nat l.length))],[(0,some ⟨p,false,0,(.lit [v0,(v17 h)])⟩),(1,some ⟨h,true,0,(qA9 u64 clV (fgD l b) l)⟩),(2,some ⟨n1,true,0,(itC h l.length x1.1)⟩)],3⟩ (.reg (rg [.g,.g,.g,.g,v0o,(.oth [(1,true)] 0 0 (fun _=>(nat (qBn (fgD l b) l.length))) (fun _=>[none])),(aN (v3N l b)),.g]) .done))))))))))))) [] [] rfl
  (have f1:qBn (fgD l b) l.length≤l.length:=(qHT _ _);Eq.mp (by kernel_rfl) (aI kV1 (aI (sK3 (aI (v1Z p) (aI (aT (qI2 (P:=TP) qN1.hm 3 h false l)) kV1))) (fun(n1:Nat)=>aI (sK3 (aI (v1Z p) (aI (aT (qAu.dark [true] (qLS (P:=TP) (mt:=59) (kv:=u64) (ev:=clV) qN1.hm h false [] l))) tV))) (aI (show(qCf p h v0 l b n1) ((([]),[]):(List Nat)×(List Nat)) from(show(OrdN l.length ([]))∧(([])=([]).filter (lsK l b)) from by exact⟨OrdN.nil _,rfl⟩)) (aI (@rfl St ((qEe p h v0 l b n1) ((([]),[]):(List Nat)×(List Nat)))) (fun(x1:(List Nat)×(List Nat)) (hx1:(qCf p h v0 l b n1) x1)=>have B0:OrdN l.length x1.1:=hx1.1;have B1:x1.2=x1.1.filter (lsK l b):=hx1.2;aI (fun(h1:(qBs x1.1 l.length)=true)=>fun(n2:Nat)=>aI (aI (aT (qAu.dark [false,true] (qPi (P:=TP) (kv:=u64) (ev:=clV) 0 n1 h false l x1.1 x1.2 x1.1 d0W (show qJT x1.1 x1.2 x1.1 from by rw[B1];exact qKO _ _) h1))) kV1) ((have f5:(pk x1.1 l.length n2)<l.length:=(qD8 h1 n2).1;aT (aI v01 (aI (aI (aT (qOZ (P:=TP) (kv:=u64) (ev:=clV) n1 h false false l x1.2 x1.1 (pk x1.1 l.length n2) d0W (qD8 h1 n2).1 (qNE (show qJT x1.1 x1.2 x1.1 from by rw[B1];exact qKO _ _) (qD8 h1 n2).2))) kV2) (aI (sK2 (aI (aT (@qKz TP 23 23 (.tmp 21) (.tmp 22) (qBp d0W l (pk x1.1 l.length n2)).1 b)) tV)) (aT (aI (fun(h2:(decide ((qBp d0W l (pk x1.1 l.length n2)).1<b))=true)=>have f6:=(oT h2);aI (sK3 (aI (v1Z p) (sk (aI (aT (qUQ (P:=TP) qN1 23 0 h x1.2 l d0W (pk x1.1 l.length n2) hk (qD8 h1 n2).1 (qNE (show qJT x1.1 x1.2 x1.1 from by rw[B1];exact qKO _ _) (qD8 h1 n2).2))) tV)))) ((rnd (qCf p h v0 l b n1) (qEe p h v0 l b n1) (qBU p h v0 l b n1) x1 (((x1.1++[pk x1.1 l.length n2]),(x1.2++[pk x1.1 l.length n2])):(List Nat)×(List Nat)) (show((OrdN l.length (x1.1++[pk x1.1 l.length n2]))∧((x1.2++[pk x1.1 l.length n2])=(x1.1++[pk x1.1 l.length n2]).filter (lsK l b)))∧(qFv (x1.1++[pk x1.1 l.length n2]) l.length)<(qFv x1.1 l.length) from by exact⟨⟨B0.snoc h1 _,by rw[B1];exact jAe h2⟩,qHx (qD8 h1 _).1 (qD8 h1 _).2⟩)))) (fun(h2:(decide ((qBp d0W l (pk x1.1 l.length n2)).1<b))=false)=>have f6:=(oF h2);(rnd (qCf p h v0 l b n1) (qEe p h v0 l b n1) (qBU p h v0 l b n1) x1 (((x1.1++[pk x1.1 l.length n2]),x1.2):(List Nat)×(List Nat)) (show((OrdN l.length (x1.1++[pk x1.1 l.length n2]))∧(x1.2=(x1.1++[pk x1.1 l.length n2]).filter (lsK l b)))∧(qFv (x1.1++[pk x1.1 l.length n2]) l.length)<(qFv x1.1 l.length) from by exact⟨⟨B0.snoc h1 _,by rw[B1];exact jDs h2⟩,qHx (qD8 h1 _).1 (qD8 h1 _).2⟩))))))))))) (fun(h1:(qBs x1.1 l.length)=false)=>aI (aI (aT (qJR (P:=TP) (kv:=u64) (ev:=clV) 0 n1 h false false l x1.1 x1.2 x1.1 (show qJT x1.1 x1.2 x1.1 from by rw[B1];exact qKO _ _) h1)) kV1) (aT (aI v05 (aI (show(⟨[(0,.v (ptr p 0)),(5,.v (nat l.length))],[(0,some ⟨p,false,0,(.lit [v0,(vM (some h))])⟩),(1,some ⟨h,true,0,(qA9 u64 clV x1.2 l)⟩),(2,some ⟨n1,true,0,(itC h l.length x1.1)⟩)],3⟩:St)=⟨[(0,.v (ptr p 0)),(5,.v (nat l.length))],[(0,some ⟨p,false,0,(.lit [v0,(vM (some h))])⟩),(1,some ⟨h,true,0,(qA9 u64 clV (fgD l b) l)⟩),(2,some ⟨n1,true,0,(itC h l.length x1.1)⟩)],3⟩ from by rw[B1,qSV fun j _=>jAo ⟨B0,h1⟩ j]) (aI (sK4 (aI (v1Z p) (aI (aT (qPa (P:=TP) (kv:=u64) (ev:=clV) qN1.hm 3 h false (fgD l b) l)) (aI (aT (@wi1 29 34  l.length (qBn (fgD l b) l.length) (show(qBn (fgD l b) l.length)≤l.length∧l.length-(qBn (fgD l b) l.length)≤9223372036854775807 from by omega))) kV1)))) (aT (eX (fun(ns:List Nat)=>ns.length=0∧((nat (v3N l b)):Value)=(fun ns=>(nat (v3N l b))) ns∧([some ⟨p,false,0,(.lit [v0,(v17 h)])⟩,some ⟨h,true,0,(qA9 u64 clV (fgD l b) l)⟩]:List (Option Blk))=(fun ns=>[some ⟨p,false,0,(.lit [v0,(v17 h)])⟩,some ⟨h,true,0,(qA9 u64 clV (fgD l b) l)⟩]) ns) [] (aI v0b (aI (@rfl Value (nat (v3N l b))) (@rfl (List (Option Blk)) [some ⟨p,false,0,(.lit [v0,(v17 h)])⟩,some ⟨h,true,0,(qA9 u64 clV (fgD l b) l)⟩])))))))))))))))))
def qX5 {F:Blk→Prop} (X:ChR) (hX:qGN X) (hD:X.D=[]) (b:UInt64):qAc F TP 17 [ptr X.p 0,u64 b] (chO X) 0 (fun _=>nat (fgN X b)) (fun _=>chO (fgX X b)):=by
 have h:=qSd (F:=F) X.p X.h (.slice (some ⟨X.sp,0,none⟩) X.n (X.n+X.sr)) (hgL X.l) b (by rw[jBI];exact hX.keys) (by rw[qQ0];exact hX.len)
 rw[←hD,qQ0] at h;exact qAc.frame (bs:=chO X) (ps:=[(0,true),(2,false)]) (v':=fun _=>nat (fgN X b)) (out':=fun _=>chO (fgX X b)) h rfl id fun ns hns=>⟨hns,rfl,Nat.le_of_ble_eq_true rfl,fun p b hb0=>(by
  have hp:=qKS hb0;match p,hp with
  |0,_=>exact hb0
  |1,_=>exact hb0
  |2,_=>exact hb0
  |3,_=>exact hb0
  |4,_=>exact hb0
  |5,_=>exact hb0
  |6,_=>exact hb0
  |7,_=>exact hb0
  |8,_=>exact hb0
  |p+9,hp=>exact absurd hp (by simp[chO]))⟩
abbrev qY5 (a:Nat×UInt64×Nat×Nat×Nat×Nat) (b:ChR) (c:UInt64):=qAp a.1 (elF a.2.2.1 a.2.2.2.1 (rnL b c) (rnF b c)) a.2.2.2.2.1 a.2.2.2.2.2
abbrev jCk (a:ChR) (b:UInt64) (c:Nat×UInt64×Nat×Nat×Nat×Nat):=qAp (rnN a b) (elF c.2.2.1 c.2.2.2.1 (rnL a b) (rnF a b)) c.2.2.2.2.1 c.2.2.2.2.2
abbrev jCn (a:Nat) (b:ChR) (c:UInt64) (d:Nat):=Value.slice (some ⟨a,0,none⟩) ((bvB b c).wn) ((bvB b c).wn+d)
def qNk (X:ChR) (k0:UInt64) (x1:Nat×UInt64×Nat×Nat×Nat×Nat):St:=⟨[(0,.v (ptr X.p 0)),(1,.v (u64 x1.2.1)),(5,.v (gsV (qY5 x1 X k0)))],[(0,(chH X)),(1,(chK X)),(2,(chM X)),(3,(chT X)),(4,(chS X)),(5,(chF X)),(6,(chA X)),(7,(chB X)),(8,(chR X)),(9,(gsE qBN [vS none 0 0] 1 (qY5 x1 X k0))),(10,(plO x1.1 x1.2.2.1 x1.2.2.2.1 (rnL X k0) (rnF X k0)))],11⟩
def qIZ (X:ChR) (k0:UInt64) (x1:Nat×UInt64×Nat×Nat×Nat×Nat):Prop:=(x1.2.1=upK k0 x1.1)∧(∀j,j<x1.1→bvF X (upK k0 j)=true)∧(x1.1≤20)
def qI3 (X:ChR) (k0:UInt64) (x1:Nat×UInt64×Nat×Nat×Nat×Nat):Nat:=20-x1.1
def v55(X:ChR)(k0:UInt64)(x1:Nat×UInt64×Nat×Nat×Nat×Nat):=plO (rnN X k0) x1.2.2.1 x1.2.2.2.1 (rnL X k0) (rnF X k0)
def jFr {F:Blk→Prop} (X:ChR) (k0:UInt64) (hX:qGN X):qAc F TP 16 [(ptr X.p 0),(u64 k0)] [(chH X),(chK X),(chM X),(chT X),(chS X),(chF X),(chA X),(chB X),(chR X)] 4 (fun ns=>(gsV (qAp (rnN X k0) (elF (ns.getD 0 0) (ns.getD 1 0) (rnL X k0) (rnF X k0)) (ns.getD 2 0) (ns.getD 3 0)))) (fun ns=>[(chH X),(chK X),(chM X),(chT X),(chS X),(chF X),(chA X),(chB X),(chR X),(gsE qBN [Value.slice none 0 0] 1 (qAp (rnN X k0) (elF (ns.getD 0 0) (ns.getD 1 0) (rnL X k0) (rnF X k0)) (ns.getD 2 0) (ns.getD 3 0))),(plO (rnN X k0) (ns.getD 0 0) (ns.getD 1 0) (rnL X k0) (rnF X k0))]):=
 qAv mix Tryz.func16 rfl rfl 400 (.reg (rg [.g]) (.keep [0,1,4] [0,1,2,3,4,5,6,7,8] 11 (.reg (rg [.g]) (.inv [0,1,5] [0,1,2,3,4,5,6,7,8,9,10] 11 (qIZ X k0) (qNk X k0) (qI3 X k0) ((0,k0,0,0,0,0):Nat×UInt64×Nat×Nat×Nat×Nat) (fun(x1:Nat×UInt64×Nat×Nat×Nat×Nat)=>(.regn (rg [.g,.g,(.callO [(0,true),(2,true),(3,true),(4,true),(5,true),(7,true),(8,true)] 2 1 (fun ns=>(vT #[(gsV (clG (bvB X x1.2.1) (g0 ns) (g1 ns))),(vB (bvF X x1.2.1))])) (fun ns=>[none,none,none,none,none,none,none,(gsE u8C [u8 0] 1 (clG (bvB X x1.2.1) (g0 ns) (g1 ns)))])),.g,.g,.g,.g,.g]) (m2 fun n1 n2=>(.reg v00 (.br (.keep [5] [0,1,2,3,4,5,6,7,8,9,10] 12 (.told ⟨[(5,.v (gsV (jCk X k0 x1)))],[(0,(chH X)),(1,(chK X)),(2,(chM X)),(3,(chT X)),(4,(chS X)),(5,(chF X)),(6,(chA X)),(7,(chB X)),(8,(chR X)),(9,(gsE qBN [vS none 0 0] 1 (jCk X k0 x1))),(10,(v55 X k0 x1))],12⟩ v5T)) (.keep [0,1,5,6] [0,1,2,3,4,5,6,7,8,9,10,11] 12 (.told ⟨[(0,.v (ptr X.p 0)),(1,.v (u64 x1.2.1)),(5,.v (gsV (qY5 x1 X k0))),(6,.v (jCn n1 X x1.2.1 n2))],[(0,(chH X)),(1,(chK X)),(2,(chM X)),(3,(chT X)),(4,(chS X)),(5,(chF X)),(6,(chA X)),(7,(chB X)),(8,(chR X)),(9,(gsE qBN [vS none 0 0] 1 (qY5 x1 X k0))),(10,(plO x1.1 x1.2.2.1 x1.2.2.2.1 (rnL X k0) (rnF X k0))),(11,some ⟨n1,true,0,(spr ((bvB X x1.2.1).wn+n2) (bvB X x1.2.1).wn (fun k=>u8 ((bvB X x1.2.1).wf k)) (u8 0))⟩)],12⟩ (.regn (rg [.g,.g,.bsl,(.othOB [(9,false),(12,true)] 2 0 (fun ns=>gsV (Grw.mk false (g0 ns) (x1.1+1) (g1 ns) (qAj (qY5 x1 X k0).f x1.1 (qY5 x1 X k0).f))) (fun bs ns=>[(gsE qBN [vS none 0 0] 1 (Grw.mk false (g0 ns) (x1.1+1) (g1 ns) (qAj (qY5 x1 X k0).f x1.1 (fun _=>qOf (jBj bs 1))))),none])),.g]) (m3 fun n3 n4 n5=>(.pack 11 10 (x1.1+1) (plG (qAK x1.2.2.1 x1.1 n1) (qAK x1.2.2.2.1 x1.1 n2) (rnL X k0) (rnF X k0)) (.keep [0,1,5] [0,1,2,3,4,5,6,7,8,9,10] 11 (.told ⟨[(0,.v (ptr X.p 0)),(1,.v (u64 x1.2.1)),(5,.v (gsV (qAp (x1.1+1) (elF (qAK x1.2.2.1 x1.1 n1) (qAK x1.2.2.2.1 x1.1 n2) (rnL X k0) (rnF X k0)) n4 n5)))],[(0,(chH X)),(1,(chK X)),(2,(chM X)),(3,(chT X)),(4,(chS X)),(5,(chF X)),(6,(chA X)),(7,(chB X)),(8,(chR X)),(9,(gsE qBN [vS none 0 0] 1 (qAp (x1.1+1) (elF (qAK x1.2.2.1 x1.1 n1) (qAK x1.2.2.2.1 x1.1 n2) (rnL X k0) (rnF X k0)) n4 n5))),(10,(plO (x1.1+1) (qAK x1.2.2.1 x1.1 n1) (qAK x1.2.2.2.1 x1.1 n2) (rnL X k0) (rnF X k0)))],11⟩ (.reg (rg [.g,(aQ (x1.2.1+1)),.g]) .done))))))))))))))))) [] [9,10] rfl
  (Eq.mp (by kernel_rfl) (aI kV1 ((aI kV1 (aI (show(k0=upK k0 0)∧(∀j,j<0→bvF X (upK k0 j)=true)∧(0≤20) from by exact⟨jFd _,fun j hj=>absurd hj (Nat.not_lt_zero _),Nat.zero_le _⟩) (aI (@rfl St ((qNk X k0) ((0,k0,0,0,0,0):Nat×UInt64×Nat×Nat×Nat×Nat))) (fun(x1:Nat×UInt64×Nat×Nat×Nat×Nat) (hx1:(qIZ X k0) x1)=>have B0:x1.2.1=upK k0 x1.1:=hx1.1;have B1:∀j,j<x1.1→bvF X (upK k0 j)=true:=hx1.2.1;have B2:x1.1≤20:=hx1.2.2;fun(n1 n2:Nat)=>aI (sK2 (aI (aT (qHy (F':=F) X hX x1.2.1)) (sk kV4))) (aI kV2 (aT (aI (fun(h1:(!(bvF X x1.2.1))=true)=>have f3:(bvF X x1.2.1)=false:=(qBr h1);aI (show(⟨[(5,.v (gsV (qAp x1.1 (elF x1.2.2.1 x1.2.2.2.1 (rnL X k0) (rnF X k0)) x1.2.2.2.2.1 x1.2.2.2.2.2)))],[(0,(chH X)),(1,(chK X)),(2,(chM X)),(3,(chT X)),(4,(chS X)),(5,(chF X)),(6,(chA X)),(7,(chB X)),(8,(chR X)),(9,(gsE qBN [vS none 0 0] 1 (qAp x1.1 (elF x1.2.2.1 x1.2.2.2.1 (rnL X k0) (rnF X k0)) x1.2.2.2.2.1 x1.2.2.2.2.2))),(10,(plO x1.1 x1.2.2.1 x1.2.2.2.1 (rnL X k0) (rnF X k0)))],12⟩:St)=⟨[(5,.v (gsV (qAp (rnN X k0) (elF x1.2.2.1 x1.2.2.2.1 (rnL X k0) (rnF X k0)) x1.2.2.2.2.1 x1.2.2.2.2.2)))],[(0,(chH X)),(1,(chK X)),(2,(chM X)),(3,(chT X)),(4,(chS X)),(5,(chF X)),(6,(chA X)),(7,(chB X)),(8,(chR X)),(9,(gsE qBN [vS none 0 0] 1 (qAp (rnN X k0) (elF x1.2.2.1 x1.2.2.2.1 (rnL X k0) (rnF X k0)) x1.2.2.2.2.1 x1.2.2.2.2.2))),(10,(plO (rnN X k0) x1.2.2.1 x1.2.2.2.1 (rnL X k0) (rnF X k0)))],12⟩ from by have e:x1.1=rnN X k0:=qYI B2 B1 (B0▸(qBr h1));rw[e]) (aI kV2 (aT (eX (fun(ns:List Nat)=>ns.length=4∧((gsV (jCk X k0 x1)):Value)=(fun ns=>(gsV (qAp (rnN X k0) (elF (g0 ns) (g1 ns) (rnL X k0) (rnF X k0)) (g2 ns) (g3 ns)))) ns∧([(chH X),(chK X),(chM X),(chT X),(chS X),(chF X),(chA X),(chB X),(chR X),(gsE qBN [vS none 0 0] 1 (jCk X k0 x1)),(v55 X k0 x1)]:List (Option Blk))=(fun ns=>[(chH X),(chK X),(chM X),(chT X),(chS X),(chF X),(chA X),(chB X),(chR X),(gsE qBN [vS none 0 0] 1 (qAp (rnN X k0) (elF (g0 ns) (g1 ns) (rnL X k0) (rnF X k0)) (g2 ns) (g3 ns))),(plO (rnN X k0) (g0 ns) (g1 ns) (rnL X k0) (rnF X k0))]) ns) [x1.2.2.1,x1.2.2.2.1,x1.2.2.2.2.1,x1.2.2.2.2.2] (aI v3t (aI (@rfl Value (gsV (jCk X k0 x1))) (@rfl (List (Option Blk)) [(chH X),(chK X),(chM X),(chT X),(chS X),(chF X),(chA X),(chB X),(chR X),(gsE qBN [vS none 0 0] 1 (jCk X k0 x1)),(v55 X k0 x1)]))))))) (fun(h1:(!(bvF X x1.2.1))=false)=>have f3:(bvF X x1.2.1)=true:=(qAQ h1);aI (show(⟨[(0,.v (ptr X.p 0)),(1,.v (u64 x1.2.1)),(5,.v (gsV (qAp x1.1 (elF x1.2.2.1 x1.2.2.2.1 (rnL X k0) (rnF X k0)) x1.2.2.2.2.1 x1.2.2.2.2.2))),(6,.v (gsV (clG (bvB X x1.2.1) n1 n2)))],[(0,(chH X)),(1,(chK X)),(2,(chM X)),(3,(chT X)),(4,(chS X)),(5,(chF X)),(6,(chA X)),(7,(chB X)),(8,(chR X)),(9,(gsE qBN [vS none 0 0] 1 (qAp x1.1 (elF x1.2.2.1 x1.2.2.2.1 (rnL X k0) (rnF X k0)) x1.2.2.2.2.1 x1.2.2.2.2.2))),(10,(plO x1.1 x1.2.2.1 x1.2.2.2.1 (rnL X k0) (rnF X k0))),(11,(gsE u8C [u8 0] 1 (clG (bvB X x1.2.1) n1 n2)))],12⟩:St)=⟨[(0,.v (ptr X.p 0)),(1,.v (u64 x1.2.1)),(5,.v (gsV (qAp x1.1 (elF x1.2.2.1 x1.2.2.2.1 (rnL X k0) (rnF X k0)) x1.2.2.2.2.1 x1.2.2.2.2.2))),(6,.v (vS (some ⟨n1,0,none⟩) (bvB X x1.2.1).wn ((bvB X x1.2.1).wn+n2)))],[(0,(chH X)),(1,(chK X)),(2,(chM X)),(3,(chT X)),(4,(chS X)),(5,(chF X)),(6,(chA X)),(7,(chB X)),(8,(chR X)),(9,(gsE qBN [vS none 0 0] 1 (qAp x1.1 (elF x1.2.2.1 x1.2.2.2.1 (rnL X k0) (rnF X k0)) x1.2.2.2.2.1 x1.2.2.2.2.2))),(10,(plO x1.1 x1.2.2.1 x1.2.2.2.1 (rnL X k0) (rnF X k0))),(11,some ⟨n1,true,0,(spr ((bvB X x1.2.1).wn+n2) (bvB X x1.2.1).wn (fun k=>u8 ((bvB X x1.2.1).wf k)) (u8 0))⟩)],12⟩ from by have e:=qV4 hX (qAQ h1) n1 n2;rw[e.1,e.2]) (fun(n3 n4 n5:Nat)=>aI (sK2 (aI (aT (qAO (P:=TP) (t:=22) (e:=29) qNP 1 #[(0,(jCn n1 X x1.2.1 n2))] #[(jCn n1 X x1.2.1 n2)] (by kernel_rfl) (by decide) (by kernel_rfl))) (aI (aT (qF4 (P:=TP) (t:=22) (ty:=22) (e:=29) (by kernel_rfl) jA1 (qY5 x1 X k0) (qBG _ _ _ _) qP2 (fun _=>(qOf (jCn n1 X x1.2.1 n2))) 1 (some ⟨n3,0,none⟩) 1 (some ⟨n3,false,0,(.lit [(jCn n1 X x1.2.1 n2)])⟩) (fun _=>⟨_,_,_,_,rfl,rfl,(qJM (sz:=1) (l:=qBN (qOf (jCn n1 X x1.2.1 n2))) rfl)⟩) (show(x1.1+1)*24≤140737488355328∧x1.1+1≤9223372036854775807 from by omega))) kV1))) (aI (qPd (x:=bvB X x1.2.1) (c:=x1.2.2.1) (d:=x1.2.2.2.1) (n1:=n1) (n2:=n2) (show(bvB X x1.2.1).wn=rnL X k0 x1.1 from by rw[B0]<;>rfl) (show(bvB X x1.2.1).wf=rnF X k0 x1.1 from by rw[B0]<;>rfl)) (aI (show(⟨[(0,.v (ptr X.p 0)),(1,.v (u64 x1.2.1)),(5,.v (gsV (Grw.mk false n4 (x1.1+1) n5 (qAj (qAp x1.1 (elF x1.2.2.1 x1.2.2.2.1 (rnL X k0) (rnF X k0)) x1.2.2.2.2.1 x1.2.2.2.2.2).f x1.1 (fun _=>(qOf (vS (some ⟨n1,0,none⟩) (bvB X x1.2.1).wn ((bvB X x1.2.1).wn+n2))))))))],[(0,(chH X)),(1,(chK X)),(2,(chM X)),(3,(chT X)),(4,(chS X)),(5,(chF X)),(6,(chA X)),(7,(chB X)),(8,(chR X)),(9,(gsE qBN [vS none 0 0] 1 (Grw.mk false n4 (x1.1+1) n5 (qAj (qAp x1.1 (elF x1.2.2.1 x1.2.2.2.1 (rnL X k0) (rnF X k0)) x1.2.2.2.2.1 x1.2.2.2.2.2).f x1.1 (fun _=>(qOf (vS (some ⟨n1,0,none⟩) (bvB X x1.2.1).wn ((bvB X x1.2.1).wn+n2)))))))),(10,some ⟨n1,true,0,.pile (x1.1+1) (plG (qAK x1.2.2.1 x1.1 n1) (qAK x1.2.2.2.1 x1.1 n2) (rnL X k0) (rnF X k0))⟩)],11⟩:St)=⟨[(0,.v (ptr X.p 0)),(1,.v (u64 x1.2.1)),(5,.v (gsV (qAp (x1.1+1) (elF (qAK x1.2.2.1 x1.1 n1) (qAK x1.2.2.2.1 x1.1 n2) (rnL X k0) (rnF X k0)) n4 n5)))],[(0,(chH X)),(1,(chK X)),(2,(chM X)),(3,(chT X)),(4,(chS X)),(5,(chF X)),(6,(chA X)),(7,(chB X)),(8,(chR X)),(9,(gsE qBN [vS none 0 0] 1 (qAp (x1.1+1) (elF (qAK x1.2.2.1 x1.1 n1) (qAK x1.2.2.2.1 x1.1 n2) (rnL X k0) (rnF X k0)) n4 n5))),(10,(plO (x1.1+1) (qAK x1.2.2.1 x1.1 n1) (qAK x1.2.2.2.1 x1.1 n2) (rnL X k0) (rnF X k0)))],11⟩ from by rw[qKE,qCt,(qIT (x:=bvB X x1.2.1) (c:=x1.2.2.1) (d:=x1.2.2.2.1) (n1:=n1) (n2:=n2) (show(bvB X x1.2.1).wn=rnL X k0 x1.1 from by rw[B0]<;>rfl) (show(bvB X x1.2.1).wf=rnF X k0 x1.1 from by rw[B0]<;>rfl) (A:=Grw.mk false n4 (x1.1+1) n5 (qAj (qAp x1.1 (elF x1.2.2.1 x1.2.2.2.1 (rnL X k0) (rnF X k0)) x1.2.2.2.2.1 x1.2.2.2.2.2).f x1.1 (fun _=>(qOf (vS (some ⟨n1,0,none⟩) (bvB X x1.2.1).wn ((bvB X x1.2.1).wn+n2)))))) rfl rfl rfl).1,(qIT (x:=bvB X x1.2.1) (c:=x1.2.2.1) (d:=x1.2.2.2.1) (n1:=n1) (n2:=n2) (show(bvB X x1.2.1).wn=rnL X k0 x1.1 from by rw[B0]<;>rfl) (show(bvB X x1.2.1).wf=rnF X k0 x1.1 from by rw[B0]<;>rfl) (A:=Grw.mk false n4 (x1.1+1) n5 (qAj (qAp x1.1 (elF x1.2.2.1 x1.2.2.2.1 (rnL X k0) (rnF X k0)) x1.2.2.2.2.1 x1.2.2.2.2.2).f x1.1 (fun _=>(qOf (vS (some ⟨n1,0,none⟩) (bvB X x1.2.1).wn ((bvB X x1.2.1).wn+n2)))))) rfl rfl rfl).2]) (aI (sk (aI (aT (@qBW TP 23 23 (.tmp 21) (.const (.int .u64 1)) x1.2.1 1)) kV1)) ((rnd (qIZ X k0) (qNk X k0) (qI3 X k0) x1 ((x1.1+1,(x1.2.1+1),(qAK x1.2.2.1 x1.1 n1),(qAK x1.2.2.2.1 x1.1 n2),n4,n5):Nat×UInt64×Nat×Nat×Nat×Nat) (show(((x1.2.1+1)=upK k0 (x1.1+1))∧(∀j,j<(x1.1+1)→bvF X (upK k0 j)=true)∧((x1.1+1)≤20))∧(20-(x1.1+1))<(20-x1.1) from by have e:=qXl hX B0 B1 B2 (qAQ h1);exact⟨⟨e.1,e.2.1,e.2.2⟩,by have:=e.2.2;omega⟩))))))))))))))))))
abbrev qMV:=Value.slice none 0 0
abbrev qLW (a:Nat):=Value.map (some a)
abbrev jCf (a:Nat):=Value.func (.func 46) #[] #[(ptr a 0)]
abbrev qWi:=Value.tuple #[]
def v3u:=@rfl Value (qWi)
def v52:H:=.no .done
def qYC:qDt TP 84 [(Value.slice none 0 0),(int 0),(int 0)] (Value.tuple #[]):=
 qAg mix Tryz.func84 rfl rfl 400 (.reg v0F (.unroll (.reg v0F v52))) []
  (Eq.mp (by kernel_rfl) (aI kV3 (aI kV3 (aT (aI v05 (aT v3u))))))
def v2h:OpH:=.call [] 0 0 (fun _=>(qWi)) (fun _=>[])
def qYx (lim:Value):qDt TP 69 [(Value.slice none 0 0),(int 0),(int 0),lim] (Value.tuple #[]):=
 qAg mix Tryz.func69 rfl rfl 400 (.reg (rg [.g]) (.reg (rg [.g]) (.unroll (.reg v0P (.reg v00 (.yes (.reg (rg [.g,.g,.g,v2h]) .done))))))) []
  (Eq.mp (by kernel_rfl) (aI kV1 (aI kV1 (aI kV4 (aI kV2 (aT (aI v01 (aI (sK3 (aI (aI tV qYC) tV)) (aT v3u)))))))))
def qLG (x:UInt64):qDt TP 70 [(u64 x)] (nat (qBb x)):=
 qAg mix Tryz.func70 rfl rfl 400 (.reg (rg [.g]) (.no (.reg (rg [.g,(.call [] 0 0 (fun _=>(nat (qBb x))) (fun _=>[])),.g]) .done))) []
  (Eq.mp (by kernel_rfl) (aI kV1 (aT (aI v05 (aI (sk (aI (aT (qBm x)) kV1)) (aT (@rfl Value (nat (qBb x)))))))))
def qOh:qDt TP 45 [(Value.slice none 0 0)] (Value.tuple #[]):=
 qAg mix Tryz.func45 rfl rfl 400 (.reg v4q (.reg (rg [.g,.g,.g,.g,(.call [] 0 0 (fun _=>(nat (qBb 0))) (fun _=>[])),v2h]) .done)) []
  (Eq.mp (by kernel_rfl) (aI (sk (aI (aT (@qAo TP 35 23 (.tmp 3) (by kernel_rfl) none 0 0)) kV1)) (aI (sK4 (aI (aT (qLG 0)) (aI (aT (qYx (nat (qBb 0)))) tV))) (aT v3u))))
def qPf (m:Nat):qBI TP 27 [(Value.map (some m))] [] 1 (fun ns=>(Value.func (.func 46) #[] #[(ptr (ns.getD 0 0) 0)])) (fun ns=>[some ⟨(ns.getD 0 0),true,0,(.lit [(Value.map (some m))])⟩]):=
 qAl mix Tryz.func27 rfl rfl 400 (.regn v0T (more (fun n1=>fun _=>v5T))) [] [0] rfl
  (Eq.mp (by kernel_rfl) (fun(n1:Nat)=>aI kV2 (aI kV2 (aT (eX (fun(ns:List Nat)=>ns.length=1∧((jCf n1):Value)=(fun ns=>(Value.func (.func 46) #[] #[(ptr (g0 ns) 0)])) ns∧([some ⟨n1,true,0,(.lit [(qLW m)])⟩]:List (Option Blk))=(fun ns=>[some ⟨(g0 ns),true,0,(.lit [(qLW m)])⟩]) ns) [n1] (aI v0R (aI (@rfl Value (jCf n1)) (@rfl (List (Option Blk)) [some ⟨n1,true,0,(.lit [(qLW m)])⟩]))))))))
noncomputable def jFB:Code:=rfC 0 Tryz.f68.body
noncomputable def jDu (l D:Nat) (fn:FuncId) (tm:Array Value):Blk:=qEV l (qGw .ready none fn tm (rfP jFB) (rfA jFB) (rfB jFB) D)
def v0y(E:List Nat)(lh:List (UInt64×CV)):=qA9 u64 clV E lh
def v2r(lh:List (UInt64×CV)):OpH:=.othB [(2,true)] 1 1 (fun ns=>ptr (g0 ns) 0) (fun bs ns=>[none,some ⟨(g0 ns),true,0,itH lh.length bs⟩])
def v3O(bx h:Nat)(E:List Nat)(lh:List (UInt64×CV)):=aI (aT (ad bx 0)) (aI (aT (qAu.dark [true] (qLS (P:=TP) (mt:=59) (kv:=u64) (ev:=clV) qN1.hm h false E lh))) tV)
def jA8 {F:Blk→Prop} (lb dp:Nat) (fn:FuncId) (tm:Array Value) (bx h bc:Nat) (E:List Nat) (lh:List (UInt64×CV)) (htm:jCo 13 (fun t=>Go.Eng.look [(2,.v (ptr bc 0)),(6,.v (Value.func (.func 46) #[] #[(ptr bx 0)]))] t) tm) (hu:qBs E lh.length=false):qAc F TP 46 [(yv lb),(ptr bx 0)] [some (jDu lb dp fn tm),some ⟨bx,false,0,(.lit [(Value.map (some h))])⟩,some ⟨h,false,0,(qA9 u64 clV E lh)⟩,some ⟨bc,true,0,(.lit [(Value.slice none 0 0)])⟩] 0 (fun ns=>(Value.tuple #[])) (fun ns=>[some (jDu lb dp fn tm),some ⟨bx,false,0,(.lit [(Value.map (some h))])⟩,some ⟨h,false,0,(qA9 u64 clV E lh)⟩,some ⟨bc,true,0,(.lit [(Value.slice none 0 0)])⟩]):=
 qAv mix Tryz.func46 rfl rfl 400 (.regn (rg [v0H,(v2r lh)]) (more (fun n1=>fun _=>(.unroll (.reg (rg [(.oth [(4,true),(2,true)] 0 0 (fun _=>vT #[.bool false]) (fun _=>[none,none])),.g]) v52))))) [] [] rfl
  (Eq.mp (by kernel_rfl) (fun(n1:Nat)=>aI (v3O bx h E lh) (aI (aI (aT (qJR (P:=TP) (kv:=u64) (ev:=clV) 0 n1 h false false lh E E ([]) (qJT.nil E) hu)) kV1) (aT (aI v05 (aT (eX (fun(ns:List Nat)=>ns.length=0∧((qWi):Value)=(fun ns=>(qWi)) ns∧([some (jDu lb dp fn tm),some ⟨bx,false,0,(.lit [(qLW h)])⟩,some ⟨h,false,0,(v0y E lh)⟩,some ⟨bc,true,0,(.lit [(qMV)])⟩]:List (Option Blk))=(fun ns=>[some (jDu lb dp fn tm),some ⟨bx,false,0,(.lit [(qLW h)])⟩,some ⟨h,false,0,(v0y E lh)⟩,some ⟨bc,true,0,(.lit [(qMV)])⟩]) ns) [] (aI v0b (aI v3u (@rfl (List (Option Blk)) [some (jDu lb dp fn tm),some ⟨bx,false,0,(.lit [(qLW h)])⟩,some ⟨h,false,0,(v0y E lh)⟩,some ⟨bc,true,0,(.lit [(qMV)])⟩]))))))))))
def v3v:=@rfl Value (qMV)
def v5S(bx h:Nat)(E:List Nat)(lh:List (UInt64×CV)):=aT (eX (fun(ns:List Nat)=>ns.length=0∧((qMV):Value)=(fun ns=>(qMV)) ns∧([some ⟨bx,false,0,(.lit [(qLW h)])⟩,some ⟨h,false,0,(v0y E lh)⟩]:List (Option Blk))=(fun ns=>[some ⟨bx,false,0,(.lit [(qLW h)])⟩,some ⟨h,false,0,(v0y E lh)⟩]) ns) [] (aI v0b (aI v3v (@rfl (List (Option Blk)) [some ⟨bx,false,0,(.lit [(qLW h)])⟩,some ⟨h,false,0,(v0y E lh)⟩]))))
def v6I:H:=.reg (rg [v1X,.g]) .done
def qXX {F:Blk→Prop} (bx h:Nat) (E:List Nat) (lh:List (UInt64×CV)) (hu:qBs E lh.length=false):qAc F TP 68 [(Value.slice none 0 0),(Value.func (.func 46) #[] #[(ptr bx 0)])] [some ⟨bx,false,0,(.lit [(Value.map (some h))])⟩,some ⟨h,false,0,(qA9 u64 clV E lh)⟩] 0 (fun ns=>(Value.slice none 0 0)) (fun ns=>[some ⟨bx,false,0,(.lit [(Value.map (some h))])⟩,some ⟨h,false,0,(qA9 u64 clV E lh)⟩]):=
 qAv mix Tryz.func68 rfl rfl 400 (.regn v0T (more (fun n1=>fun _=>(.reg (rg [.g]) (.keep [2,6] [0,1,2] 3 (.byF (fun(ns:List Nat)=>ns.length=0) (fun _=>Exit.normal) (fun ns=>(⟨[(2,.v (v1M n1)),(6,.v (jCf bx))],[(0,some ⟨bx,false,0,(.lit [(qLW h)])⟩),(1,some ⟨h,false,0,(v0y E lh)⟩),(2,some ⟨n1,true,0,(.lit [(qMV)])⟩)],3⟩:St)) (fun ns=>v6I))))))) [] [] rfl
  (Eq.mp (by kernel_rfl) (fun(n1:Nat)=>aI kV2 (aI kV1 (aI (qZx (F:=F) (P:=TP) (nt:=13) (c:=rfC 0 Tryz.f68.body) (s:=⟨[(2,.v (v1M n1)),(6,.v (jCf bx))],[(0,some ⟨bx,false,0,(.lit [(qLW h)])⟩),(1,some ⟨h,false,0,(v0y E lh)⟩),(2,some ⟨n1,true,0,(.lit [(qMV)])⟩)],3⟩) 46 [(ptr bx 0)] [(0,true),(1,true),(2,false)] 0 0 (fun ns=>(qWi)) (fun ns=>[none,none,some ⟨n1,true,0,(.lit [(qMV)])⟩]) none (Exit.normal) [2,6] [0,1,2] 3 (fun ns=>(⟨[(2,.v (v1M n1)),(6,.v (jCf bx))],[(0,some ⟨bx,false,0,(.lit [(qLW h)])⟩),(1,some ⟨h,false,0,(v0y E lh)⟩),(2,some ⟨n1,true,0,(.lit [(qMV)])⟩)],3⟩:St)) (by kernel_rfl) (by kernel_rfl) (fun args w=>by kernel_rfl) (by kernel_rfl) (fun ns hns=>@rfl Bool true) (.inl ⟨rfl,rfl⟩) (fun l D fn tm htm=>Eq.mp (by kernel_rfl) (qAc.darkV [false,true,true,false] (jA8 (F:=F) l D fn tm bx h n1 E lh htm hu))) (fun ns hns=>@rfl St ((fun ns=>(⟨[(2,.v (v1M n1)),(6,.v (jCf bx))],[(0,some ⟨bx,false,0,(.lit [(qLW h)])⟩),(1,some ⟨h,false,0,(v0y E lh)⟩),(2,some ⟨n1,true,0,(.lit [(qMV)])⟩)],3⟩:St)) ns))) (fun(ns:List Nat) (hns:ns.length=0)=>aI (v6k n1) (v5S bx h E lh))))))
def v28:=rg [.g,(.callO [(0,true),(1,true)] 0 0 (fun _=>vS none 0 0) (fun _=>[none,none])),.g]
def qXM {F:Blk→Prop} (bx h:Nat) (E:List Nat) (lh:List (UInt64×CV)) (hu:qBs E lh.length=false):qAc F TP 44 [(Value.func (.func 46) #[] #[(ptr bx 0)])] [some ⟨bx,false,0,(.lit [(Value.map (some h))])⟩,some ⟨h,false,0,(qA9 u64 clV E lh)⟩] 0 (fun ns=>(Value.slice none 0 0)) (fun ns=>[some ⟨bx,false,0,(.lit [(Value.map (some h))])⟩,some ⟨h,false,0,(qA9 u64 clV E lh)⟩]):=
 qAv mix Tryz.func44 rfl rfl 400 (.reg (rg [.g]) (.reg v28 .done)) [] [] rfl
  (Eq.mp (by kernel_rfl) (aI kV1 (aI (sk (aI (aT (qAc.darkV [true,true] (qXX (F:=F) bx h E lh hu))) kV1)) (v5S bx h E lh))))
def qWU {F:Blk→Prop} (bx h:Nat) (E:List Nat) (lh:List (UInt64×CV)) (hu:qBs E lh.length=false):qAc F TP 26 [(Value.func (.func 46) #[] #[(ptr bx 0)])] [some ⟨bx,false,0,(.lit [(Value.map (some h))])⟩,some ⟨h,false,0,(qA9 u64 clV E lh)⟩] 0 (fun ns=>(Value.slice none 0 0)) (fun ns=>[some ⟨bx,false,0,(.lit [(Value.map (some h))])⟩,some ⟨h,false,0,(qA9 u64 clV E lh)⟩]):=
 qAv mix Tryz.func26 rfl rfl 400 (.reg (rg [.g]) (.reg v28 (.reg (rg [.g,v2h]) v5T))) [] [] rfl
  (Eq.mp (by kernel_rfl) (aI kV1 (aI (sk (aI (aT (qAc.darkV [true,true] (qXM (F:=F) bx h E lh hu))) kV1)) (aI (sk (aI (aI tV qOh) tV)) (aI kV2 (v5S bx h E lh))))))
def qXp {F:Blk→Prop} (p:Nat) (v0:Value) (h:Nat) (E:List Nat) (lh:List (UInt64×CV)) (hu:qBs E lh.length=false):qAc F TP 13 [(ptr p 0)] [some ⟨p,false,0,(.lit [v0,(Value.map (some h))])⟩,some ⟨h,false,0,(qA9 u64 clV E lh)⟩] 0 (fun ns=>(Value.slice none 0 0)) (fun ns=>[some ⟨p,false,0,(.lit [v0,(Value.map (some h))])⟩,some ⟨h,false,0,(qA9 u64 clV E lh)⟩]):=
 qAv mix Tryz.func13 rfl rfl 400 (.reg (rg [.g]) (.regn (rg [.g,.g,.g,v0o,(.call [] 1 1 (fun ns=>Value.func (.func 46) #[] #[ptr (g0 ns) 0]) (fun ns=>[some ⟨ns.getD 0 0,true,0,.lit [(qLW h)]⟩])),(.callO [(2,true),(1,true)] 0 0 (fun _=>vS none 0 0) (fun _=>[none,none])),.g]) v1a)) [] [] rfl
  (Eq.mp (by kernel_rfl) (aI kV1 (fun(n1:Nat)=>aI (sK3 (aI (v1Z p) (aI (aT (qPf h)) (aI (aT (qAc.darkV [true,true] (qWU (F:=F) n1 h E lh hu))) kV1)))) (aT (eX (fun(ns:List Nat)=>ns.length=0∧((qMV):Value)=(fun ns=>(qMV)) ns∧([some ⟨p,false,0,(.lit [v0,(qLW h)])⟩,some ⟨h,false,0,(v0y E lh)⟩]:List (Option Blk))=(fun ns=>[some ⟨p,false,0,(.lit [v0,(qLW h)])⟩,some ⟨h,false,0,(v0y E lh)⟩]) ns) [] (aI v0b (aI v3v (@rfl (List (Option Blk)) [some ⟨p,false,0,(.lit [v0,(qLW h)])⟩,some ⟨h,false,0,(v0y E lh)⟩]))))))))
def qYt (x:UInt64):qDt TP 104 [(u64 x)] (Value.bool (!(x==x))):=
 qAg mix Tryz.func104 rfl rfl 400 (v3P x) []
  (Eq.mp (by kernel_rfl) (aI kV1 (aI (sK2 (aI (aT (@wg1 3 4 x x)) kV1)) (aT (@rfl Value (vB (!(x==x))))))))
def jDX (x:UInt64):qDt TP 104 [u64 x] (Value.bool false):=by have h:=qYt x;rwa[show(x==x)=true from beq_self_eq_true x] at h
def v5Z:=aI v01 t2
def qCm (x y:UInt64):qDt TP 90 [(u64 x),(u64 y)] (Value.bool (decide (x<y))):=
 qAg mix Tryz.func90 rfl rfl 400 (.reg (rg [.g]) (.reg (rg [.g,v6i,.g,.skip,.skip,.skip,.pk,.g,(.run .g),(.run .g),(.run (aB (decide (x<y)))),.pk,.g]) .done)) []
  (Eq.mp (by kernel_rfl) (aI kV1 (aI (sk (aI (aT (jDX x)) (sk (aI v05 (aI v05 (aI v05 (aI (aT (aI (fun(_:false=true)=>tV) (fun(_:false=false)=>tV))) (sk (aI v5Z (aI v5Z (aI (aI v01 (aT (@qKz TP 23 23 (.tmp 13) (.tmp 14) x y))) (aI (aT (aI (fun(_:false=true)=>tV) (fun(_:false=false)=>tV))) kV1)))))))))))) (aT (@rfl Value (vB (decide (x<y))))))))
def v0Q(b n m:Nat):=vS (some ⟨b,0,none⟩) n m
def v14(n:Nat)(x1:Nat×Nat):=qAd n (fun k=>u64 (cdU x1.2 k))
def qIe (b:Nat) (n:Nat) (m:Nat) (c:Nat) (a:Nat) (z:Nat) (x1:Nat×Nat):St:=⟨[(0,.v (v0Q b n m)),(1,.v (nat a)),(2,.v (nat z)),(6,.v (nat x1.1))],[(0,some ⟨b,true,0,(v14 n x1)⟩)],1⟩
def qEC (b:Nat) (n:Nat) (m:Nat) (c:Nat) (a:Nat) (z:Nat) (x1:Nat×Nat):Prop:=(a+1≤x1.1)∧(x1.1≤z+1)
def qE0 (b:Nat) (n:Nat) (m:Nat) (c:Nat) (a:Nat) (z:Nat) (x1:Nat×Nat):Nat:=z+1-x1.1
def v2O(n:Nat)(x2:Nat×Nat):=qAd n (fun k=>u64 (cdU x2.2 k))
def qIp (b:Nat) (n:Nat) (m:Nat) (c:Nat) (a:Nat) (z:Nat) (x1:Nat×Nat) (x2:Nat×Nat):St:=⟨[(0,.v (v0Q b n m)),(1,.v (nat a)),(2,.v (nat z)),(6,.v (nat x1.1)),(7,.v (nat x2.1))],[(0,some ⟨b,true,0,(v2O n x2)⟩)],1⟩
def qEI (b:Nat) (n:Nat) (m:Nat) (c:Nat) (a:Nat) (z:Nat) (x1:Nat×Nat) (x2:Nat×Nat):Prop:=(a≤x2.1)∧(x2.1<z)
def qE5 (b:Nat) (n:Nat) (m:Nat) (c:Nat) (a:Nat) (z:Nat) (x1:Nat×Nat) (x2:Nat×Nat):Nat:=x2.1
def wj1(a:Nat):=@qAe TP 3 3 (.tmp a) (.const (.int .i64 1))
def wk1(a b:Nat):=@qAC TP 3 3 (.tmp a) (.tmp b)
def wl1(a b:Nat):=@qBe TP 3 3 (.tmp a) (.tmp b)
def wm1(a b:Nat):=@qAk TP 35 23 (.tmp a) (.tmp b) 1 (by kernel_rfl) (by kernel_rfl)
def wn1(a:Nat):=@qAD TP 3 3 (.tmp a) (.const (.int .i64 1))
def v0e(b n:Nat)(x1:Nat×Nat):=eX (fun(ns:List Nat)=>ns.length=1∧((vT #[]):Value)=(fun ns=>(vT #[])) ns∧([some ⟨b,true,0,(qAd n (fun k=>u64 (cdU x1.2 k)))⟩]:List (Option Blk))=(fun ns=>[some ⟨b,true,0,(qAd n (fun k=>u64 (cdU (g0 ns) k)))⟩]) ns) [x1.2] (aI (@rfl Nat 1) (aI (@rfl Value (vT #[])) (@rfl (List (Option Blk)) [some ⟨b,true,0,(qAd n (fun k=>u64 (cdU x1.2 k)))⟩])))
def v1h(x2:Nat×Nat):=qBC x2.2 x2.1 (cdU x2.2 (x2.1-1))
def v4v(b:Nat)(x2:Nat×Nat):=ptr b (0+(x2.1-1)*1)
def v56(x2:Nat×Nat):=cdU x2.2 x2.1
def v5n(x2:Nat×Nat):OpH:=.ld 0 (.tab x2.1 0)
def v5R(x2:Nat×Nat):=aN (x2.1-1)
def v6y(x2:Nat×Nat):=qBC (v1h x2) (x2.1-1) (v56 x2)
def qYz (b n m c:Nat) (a z:Nat) (h:a≤z∧z≤n∧n≤64):qBI TP 84 [(Value.slice (some ⟨b,0,none⟩) n m),(nat a),(nat z)] [⟨b,true,0,(qAd n (fun k=>u64 (cdU c k)))⟩] 1 (fun ns=>(Value.tuple #[])) (fun ns=>[some ⟨b,true,0,(qAd n (fun k=>u64 (cdU (ns.getD 0 0) k)))⟩]):=
 qAl mix Tryz.func84 rfl rfl 400 (.reg (rg [.g,(aN (a+1)),.g]) (.inv [0,1,2,6] [0] 1 (qEC b n m c a z) (qIe b n m c a z) (qE0 b n m c a z) ((a+1,c):Nat×Nat) (fun(x1:Nat×Nat)=>(.reg (rg [.g,.g,(aB (decide (x1.1<z)))]) (.br (.reg v00 (.inv [0,1,2,6,7] [0] 1 (qEI b n m c a z x1) (qIp b n m c a z x1) (qE5 b n m c a z x1) ((x1.1,x1.2):Nat×Nat) (fun(x2:Nat×Nat)=>(.reg (rg [.g,.g,(aB (decide (a<x2.1))),.g,(.opt .g),(.opt .g),(.opt (.as (ptr b (0+x2.1*1)))),(.opt (v5n x2)),(.opt .g),(.opt .g),(.opt (v5R x2)),(.opt (.as (v4v b x2))),(.opt (.ld 0 (.tab (x2.1-1) 0))),(.opt (.call [] 0 0 (fun _=>(vB (decide ((v56 x2)<(cdU x2.2 (x2.1-1)))))) (fun _=>[]))),.pk]) (.br (.reg (rg [.g,.g,.g,.g,(v5R x2),.g,.g,(v5R x2),(.as (v4v b x2)),(.ld 0 (.tab (x2.1-1) 0)),.g,.g,(.as (ptr b (0+x2.1*1))),(v5n x2),(.as (ptr b (0+x2.1*1))),(.stc 0 (.tab x2.1 0) (qAd n (fun k=>u64 (cdU (v1h x2) k)))),(.as (v4v b x2)),(.stc 0 (.tab (x2.1-1) 0) (qAd n (fun k=>u64 (cdU (v6y x2) k))))]) (.reg (rg [.g,(v5R x2),.g]) .done)) (.reg (rg [.g,(aN (x1.1+1)),.g]) .done)))))) .done))))) [] [] rfl
  (Eq.mp (by kernel_rfl) (aI (sk (aI (aT (@wj1 8  a 1 (show a+1≤9223372036854775807 from by omega))) kV1)) (aI (show(a+1≤(a+1))∧((a+1)≤z+1) from by exact⟨by omega,by omega⟩) (aI (@rfl St ((qIe b n m c a z) ((a+1,c):Nat×Nat))) (fun(x1:Nat×Nat) (hx1:(qEC b n m c a z) x1)=>have B0:a+1≤x1.1:=hx1.1;have B1:x1.1≤z+1:=hx1.2;aI (sK2 (aI (aT (@wk1 10 11  x1.1 z)) tV)) (aT (aI (fun(h1:(decide (x1.1<z))=true)=>have f3:=(oT h1);aI kV2 (aI (show(a≤x1.1)∧(x1.1<z) from by exact⟨by omega,by omega⟩) (aI (@rfl St ((qIp b n m c a z x1) ((x1.1,x1.2):Nat×Nat))) (fun(x2:Nat×Nat) (hx2:(qEI b n m c a z x1) x2)=>have C0:a≤x2.1:=hx2.1;have C1:x2.1<z:=hx2.2;aI (sK2 (aI (aT (@wl1 16 17  x2.1 a)) (sk (aI (fun(hg:(sB (decide (a<x2.1)) true)=true)=>t2) (aI (fun(hg:(sB (decide (a<x2.1)) true)=true)=>t2) (aI (fun(hg:(sB (decide (a<x2.1)) true)=true)=>have f6:(a<x2.1):=(oT (qAr hg));(aI (aI hg (aI hg tV)) (@wm1 20 21 b 0 n m x2.1 (show x2.1<n from by omega)))) (aI (fun(hg:(sB (decide (a<x2.1)) true)=true)=>have f6:(a<x2.1):=(oT (qAr hg));(aI (aI hg tV) (aI (show x2.1<n from by omega) (@rfl Value (ptr b (0+x2.1*1)))))) (aI (fun(hg:(sB (decide (a<x2.1)) true)=true)=>t2) (aI (fun(hg:(sB (decide (a<x2.1)) true)=true)=>t2) (aI (fun(hg:(sB (decide (a<x2.1)) true)=true)=>have f6:(a<x2.1):=(oT (qAr hg));(aI (aI hg tV) (@wn1 25  x2.1 1 (show 1≤x2.1∧x2.1-1≤9223372036854775807 from by omega)))) (aI (fun(hg:(sB (decide (a<x2.1)) true)=true)=>have f6:(a<x2.1):=(oT (qAr hg));(aI (aI hg (aI hg tV)) (@wm1 24 26 b 0 n m (x2.1-1) (show x2.1-1<n from by omega)))) (aI (fun(hg:(sB (decide (a<x2.1)) true)=true)=>have f6:(a<x2.1):=(oT (qAr hg));(aI (aI hg tV) (aI (show x2.1-1<n from by omega) (@rfl Value (v4v b x2))))) (aI (fun(hg:(sB (decide (a<x2.1)) true)=true)=>(aI (aI hg (aI hg tV)) (qCm (v56 x2) (cdU x2.2 (x2.1-1))))) (aI (aT (aI (fun(hp:(decide (a<x2.1))=true)=>(qBz hp)) (fun(_:(decide (a<x2.1))=false)=>tV))) tV)))))))))))))) (aT (aI (fun(h2:(qA0 (decide (a<x2.1)) (decide ((cdU x2.2 x2.1)<(cdU x2.2 (x2.1-1)))) false)=true)=>have f6:(a<x2.1):=(oT (qB6 h2));have f7:((cdU x2.2 x2.1)<(cdU x2.2 (x2.1-1))):=(oT (qCr h2));aI (sK4 (aI (aT (@wn1 36  x2.1 1 (show 1≤x2.1∧x2.1-1≤9223372036854775807 from by omega))) (sK2 (aI (aT (@wn1 39  x2.1 1 (show 1≤x2.1∧x2.1-1≤9223372036854775807 from by omega))) (aI (aT (@wm1 38 40 b 0 n m (x2.1-1) (show x2.1-1<n from by omega))) (aI (aT (aI (show x2.1-1<n from by omega) (@rfl Value (v4v b x2)))) (sK2 (aI (aT (@wm1 43 44 b 0 n m x2.1 (show x2.1<n from by omega))) (aI (aT (aI (show x2.1<n from by omega) (@rfl Value (ptr b (0+x2.1*1))))) (aI (aT (@wm1 33 34 b 0 n m x2.1 (show x2.1<n from by omega))) (aI (aT (aI (show x2.1<n from by omega) (aI (@rfl Value (ptr b (0+x2.1*1))) (qAY n u64 (cdU x2.2) x2.1 (cdU x2.2 (x2.1-1)) (cdU (v1h x2)) (qDe x2.2 x2.1 (cdU x2.2 (x2.1-1))))))) (aI (aT (@wm1 35 37 b 0 n m (x2.1-1) (show x2.1-1<n from by omega))) (aI (aT (aI (show x2.1-1<n from by omega) (aI (@rfl Value (v4v b x2)) (qAY n u64 (cdU (v1h x2)) (x2.1-1) (v56 x2) (cdU (v6y x2)) (qDe (v1h x2) (x2.1-1) (v56 x2)))))) tV))))))))))))) (aI (sk (aI (aT (@wn1 31  x2.1 1 (show 1≤x2.1∧x2.1-1≤9223372036854775807 from by omega))) kV1)) ((rnd (qEI b n m c a z x1) (qIp b n m c a z x1) (qE5 b n m c a z x1) x2 ((x2.1-1,(v6y x2)):Nat×Nat) (show((a≤(x2.1-1))∧((x2.1-1)<z))∧(x2.1-1)<x2.1 from by exact⟨⟨by omega,by omega⟩,by omega⟩))))) (fun(h2:(qA0 (decide (a<x2.1)) (decide ((cdU x2.2 x2.1)<(cdU x2.2 (x2.1-1)))) false)=false)=>have f6:(¬(a<x2.1))∨(¬((cdU x2.2 x2.1)<(cdU x2.2 (x2.1-1)))):=(Or.imp (fun h=>(oF h)) (fun h=>(oF h)) (qCI h2));aI (sk (aI (aT (@wj1 13  x1.1 1 (show x1.1+1≤9223372036854775807 from by omega))) kV1)) ((rnd (qEC b n m c a z) (qIe b n m c a z) (qE0 b n m c a z) x1 ((x1.1+1,x2.2):Nat×Nat) (show((a+1≤(x1.1+1))∧((x1.1+1)≤z+1))∧(z+1-(x1.1+1))<(z+1-x1.1) from by exact⟨⟨by omega,by omega⟩,by omega⟩)))))))))) (fun(h1:(decide (x1.1<z))=false)=>have f3:=(oF h1);aT (v0e b n x1)))))))))
def qGP (b:Nat) (n:Nat) (m:Nat) (c:Nat) (l:Nat) (u:Nat) (s:Nat) (x1:Nat×Nat):St:=⟨[(0,.v (v0Q b n m)),(2,.v (nat u)),(3,.v (nat s)),(8,.v (nat x1.1))],[(0,some ⟨b,true,0,(v14 n x1)⟩)],1⟩
def qD3 (b:Nat) (n:Nat) (m:Nat) (c:Nat) (l:Nat) (u:Nat) (s:Nat) (x1:Nat×Nat):Prop:=(x1.1≤64)
def qEm (b:Nat) (n:Nat) (m:Nat) (c:Nat) (l:Nat) (u:Nat) (s:Nat) (x1:Nat×Nat):Nat:=64-x1.1
def qG5 (b:Nat) (n:Nat) (m:Nat) (c:Nat) (l:Nat) (u:Nat) (s:Nat) (x1:Nat×Nat) (x2:Nat):St:=⟨[(0,.v (v0Q b n m)),(2,.v (nat u)),(3,.v (nat s)),(8,.v (nat x1.1)),(9,.v (nat x2))],[(0,some ⟨b,true,0,(v14 n x1)⟩)],1⟩
def qC0 (b:Nat) (n:Nat) (m:Nat) (c:Nat) (l:Nat) (u:Nat) (s:Nat) (x1:Nat×Nat) (x2:Nat):Prop:=(x1.1<x2)∧(x2<u)
def wo1(a b:Nat):=@qAe TP 3 3 (.tmp a) (.tmp b)
def v1H(x1:Nat×Nat)(s x2:Nat):=qBC x1.2 (s+x1.1) (cdU x1.2 (s+x2))
def v2S(s:Nat)(x1:Nat×Nat):=s+((2*x1.1)+1)
def v4X(x1:Nat×Nat)(s:Nat):=cdU x1.2 (s+x1.1)
def v5o(b s x2:Nat):=@rfl Value (ptr b (0+(s+x2)*1))
def v5I(b s:Nat)(x1:Nat×Nat):=ptr b (0+(s+x1.1)*1)
def qN9 (b n m c:Nat) (l u s:Nat) (h:l≤64∧s+u≤n∧n≤64):qBI TP 99 [(Value.slice (some ⟨b,0,none⟩) n m),(nat l),(nat u),(nat s)] [⟨b,true,0,(qAd n (fun k=>u64 (cdU c k)))⟩] 1 (fun ns=>(Value.tuple #[])) (fun ns=>[some ⟨b,true,0,(qAd n (fun k=>u64 (cdU (ns.getD 0 0) k)))⟩]):=
 qAl mix Tryz.func99 rfl rfl 400 (.reg v00 (.inv [0,2,3,8] [0] 1 (qD3 b n m c l u s) (qGP b n m c l u s) (qEm b n m c l u s) ((l,c):Nat×Nat) (fun(x1:Nat×Nat)=>(.reg (rg [.g,(aN (2*x1.1)),(aN ((2*x1.1)+1)),.g]) (.reg (rg [.g,.g,(aB (decide (u≤((2*x1.1)+1))))]) (.br .done (.reg (rg [.g,(aN (((2*x1.1)+1)+1)),.g,(aB (decide ((((2*x1.1)+1)+1)<u))),.g,(.opt .g),(.opt .g),(.opt .g),(.opt (aN (v2S s x1))),(.opt (.as (ptr b (0+(v2S s x1)*1)))),(.opt (.ld 0 (.tab (v2S s x1) 0))),(.opt .g),(.opt .g),(.opt .g),(.opt (aN (v2S s x1))),(.opt (aN ((v2S s x1)+1))),(.opt (.as (ptr b (0+((v2S s x1)+1)*1)))),(.opt (.ld 0 (.tab ((v2S s x1)+1) 0))),(.opt (.call [] 0 0 (fun _=>(vB (decide ((cdU x1.2 (v2S s x1))<(cdU x1.2 ((v2S s x1)+1)))))) (fun _=>[]))),.pk]) (.cut [0,2,3,8,9] [0] 1 (qC0 b n m c l u s x1) (qG5 b n m c l u s x1) (.br (.reg (rg [.g,(aN (((2*x1.1)+1)+1)),.g]) .done) .done) (fun(x2:Nat)=>(.reg (rg [.g,.g,.g,(aN (s+x1.1)),(.as (v5I b s x1)),(.ld 0 (.tab (s+x1.1) 0)),.g,.g,.g,(aN (s+x2)),(.as (ptr b (0+(s+x2)*1))),(.ld 0 (.tab (s+x2) 0)),(.call [] 0 0 (fun _=>(vB (decide ((v4X x1 s)<(cdU x1.2 (s+x2)))))) (fun _=>[])),.g]) (.br .done (.reg (rg [.g,.g,.g,(aN (s+x1.1)),.g,.g,.g,(aN (s+x2)),.g,.g,.g,(aN (s+x2)),(.as (ptr b (0+(s+x2)*1))),(.ld 0 (.tab (s+x2) 0)),.g,.g,.g,(aN (s+x1.1)),(.as (v5I b s x1)),(.ld 0 (.tab (s+x1.1) 0)),(.as (v5I b s x1)),(.stc 0 (.tab (s+x1.1) 0) (qAd n (fun k=>u64 (cdU (v1H x1 s x2) k)))),(.as (ptr b (0+(s+x2)*1))),(.stc 0 (.tab (s+x2) 0) (qAd n (fun k=>u64 (cdU (qBC (v1H x1 s x2) (s+x2) (v4X x1 s)) k))))]) v5T)))))))))))) [] [] rfl
  (Eq.mp (by kernel_rfl) (aI kV2 (aI (show(l≤64) from by exact(by omega)) (aI (@rfl St ((qGP b n m c l u s) ((l,c):Nat×Nat))) (fun(x1:Nat×Nat) (hx1:(qD3 b n m c l u s) x1)=>have B0:x1.1≤64:=hx1;aI (sk (aI (aT (@qCV TP 3 3 (.const (.int .i64 2)) (.tmp 11)  2 x1.1 (show 2*x1.1≤9223372036854775807 from by omega))) (aI (aT (@wj1 12  (2*x1.1) 1 (show(2*x1.1)+1≤9223372036854775807 from by omega))) kV1))) (aI (sK2 (aI (aT (@qIs TP 3 3 (.tmp 14) (.tmp 15)  ((2*x1.1)+1) u)) tV)) (aT (aI (fun(h1:(decide (u≤((2*x1.1)+1)))=true)=>have f2:=(oT h1);aT (v0e b n x1)) (fun(h1:(decide (u≤((2*x1.1)+1)))=false)=>have f2:=(oF h1);aI (sk (aI (aT (@wj1 17  ((2*x1.1)+1) 1 (show((2*x1.1)+1)+1≤9223372036854775807 from by omega))) (sk (aI (aT (@wk1 18 19  (((2*x1.1)+1)+1) u)) (sk (aI (fun(hg:(sB (decide ((((2*x1.1)+1)+1)<u)) true)=true)=>t2) (aI (fun(hg:(sB (decide ((((2*x1.1)+1)+1)<u)) true)=true)=>t2) (aI (fun(hg:(sB (decide ((((2*x1.1)+1)+1)<u)) true)=true)=>t2) (aI (fun(hg:(sB (decide ((((2*x1.1)+1)+1)<u)) true)=true)=>have f3:((((2*x1.1)+1)+1)<u):=(oT (qAr hg));(aI (aI hg (aI hg tV)) (@wo1 23 24  s ((2*x1.1)+1) (show s+((2*x1.1)+1)≤9223372036854775807 from by omega)))) (aI (fun(hg:(sB (decide ((((2*x1.1)+1)+1)<u)) true)=true)=>have f3:((((2*x1.1)+1)+1)<u):=(oT (qAr hg));(aI (aI hg (aI hg tV)) (@wm1 22 25 b 0 n m (v2S s x1) (show s+((2*x1.1)+1)<n from by omega)))) (aI (fun(hg:(sB (decide ((((2*x1.1)+1)+1)<u)) true)=true)=>have f3:((((2*x1.1)+1)+1)<u):=(oT (qAr hg));(aI (aI hg tV) (aI (show s+((2*x1.1)+1)<n from by omega) (@rfl Value (ptr b (0+(v2S s x1)*1)))))) (aI (fun(hg:(sB (decide ((((2*x1.1)+1)+1)<u)) true)=true)=>t2) (aI (fun(hg:(sB (decide ((((2*x1.1)+1)+1)<u)) true)=true)=>t2) (aI (fun(hg:(sB (decide ((((2*x1.1)+1)+1)<u)) true)=true)=>t2) (aI (fun(hg:(sB (decide ((((2*x1.1)+1)+1)<u)) true)=true)=>have f3:((((2*x1.1)+1)+1)<u):=(oT (qAr hg));(aI (aI hg (aI hg tV)) (@wo1 29 30  s ((2*x1.1)+1) (show s+((2*x1.1)+1)≤9223372036854775807 from by omega)))) (aI (fun(hg:(sB (decide ((((2*x1.1)+1)+1)<u)) true)=true)=>have f3:((((2*x1.1)+1)+1)<u):=(oT (qAr hg));(aI (aI hg tV) (@wj1 31  (v2S s x1) 1 (show(s+((2*x1.1)+1))+1≤9223372036854775807 from by omega)))) (aI (fun(hg:(sB (decide ((((2*x1.1)+1)+1)<u)) true)=true)=>have f3:((((2*x1.1)+1)+1)<u):=(oT (qAr hg));(aI (aI hg (aI hg tV)) (@wm1 28 32 b 0 n m ((v2S s x1)+1) (show(s+((2*x1.1)+1))+1<n from by omega)))) (aI (fun(hg:(sB (decide ((((2*x1.1)+1)+1)<u)) true)=true)=>have f3:((((2*x1.1)+1)+1)<u):=(oT (qAr hg));(aI (aI hg tV) (aI (show(s+((2*x1.1)+1))+1<n from by omega) (@rfl Value (ptr b (0+((v2S s x1)+1)*1)))))) (aI (fun(hg:(sB (decide ((((2*x1.1)+1)+1)<u)) true)=true)=>(aI (aI hg (aI hg tV)) (qCm (cdU x1.2 (v2S s x1)) (cdU x1.2 ((v2S s x1)+1))))) (aI (aT (aI (fun(hp:(decide ((((2*x1.1)+1)+1)<u))=true)=>(qBz hp)) (fun(_:(decide ((((2*x1.1)+1)+1)<u))=false)=>tV))) tV)))))))))))))))))))) (aI (aT (aI (fun(h2:(qA0 (decide ((((2*x1.1)+1)+1)<u)) (decide ((cdU x1.2 (s+((2*x1.1)+1)))<(cdU x1.2 ((s+((2*x1.1)+1))+1)))) false)=true)=>have f3:((((2*x1.1)+1)+1)<u):=(oT (qB6 h2));have f4:((cdU x1.2 (s+((2*x1.1)+1)))<(cdU x1.2 ((s+((2*x1.1)+1))+1))):=(oT (qCr h2));aI (sk (aI (aT (@wj1 37  ((2*x1.1)+1) 1 (show((2*x1.1)+1)+1≤9223372036854775807 from by omega))) kV1)) ((met (qC0 b n m c l u s x1) (qG5 b n m c l u s x1) (((2*x1.1)+1)+1:Nat) (show(x1.1<(((2*x1.1)+1)+1))∧((((2*x1.1)+1)+1)<u) from by exact⟨by omega,by omega⟩)))) (fun(h2:(qA0 (decide ((((2*x1.1)+1)+1)<u)) (decide ((cdU x1.2 (s+((2*x1.1)+1)))<(cdU x1.2 ((s+((2*x1.1)+1))+1)))) false)=false)=>have f3:(¬((((2*x1.1)+1)+1)<u))∨(¬((cdU x1.2 (s+((2*x1.1)+1)))<(cdU x1.2 ((s+((2*x1.1)+1))+1)))):=(Or.imp (fun h=>(oF h)) (fun h=>(oF h)) (qCI h2));(met (qC0 b n m c l u s x1) (qG5 b n m c l u s x1) ((2*x1.1)+1:Nat) (show(x1.1<((2*x1.1)+1))∧(((2*x1.1)+1)<u) from by exact⟨by omega,by omega⟩))))) (fun(x2:Nat) (hx2:(qC0 b n m c l u s x1) x2)=>have P0:x1.1<x2:=hx2.1;have P1:x2<u:=hx2.2;aI (sK3 (aI (aT (@wo1 40 41  s x1.1 (show s+x1.1≤9223372036854775807 from by omega))) (aI (aT (@wm1 39 42 b 0 n m (s+x1.1) (show s+x1.1<n from by omega))) (aI (aT (aI (show s+x1.1<n from by omega) (@rfl Value (v5I b s x1)))) (sK3 (aI (aT (@wo1 46 47  s x2 (show s+x2≤9223372036854775807 from by omega))) (aI (aT (@wm1 45 48 b 0 n m (s+x2) (show s+x2<n from by omega))) (aI (aT (aI (show s+x2<n from by omega) (v5o b s x2))) (aI (aT (qCm (v4X x1 s) (cdU x1.2 (s+x2)))) kV1))))))))) (aT (aI (fun(h3:(!(decide ((cdU x1.2 (s+x1.1))<(cdU x1.2 (s+x2)))))=true)=>have f5:¬((cdU x1.2 (s+x1.1))<(cdU x1.2 (s+x2))):=(oF (qBr h3));aT (v0e b n x1)) (fun(h3:(!(decide ((cdU x1.2 (s+x1.1))<(cdU x1.2 (s+x2)))))=false)=>have f5:((cdU x1.2 (s+x1.1))<(cdU x1.2 (s+x2))):=(oT (qAQ h3));aI (sK3 (aI (aT (@wo1 54 55  s x1.1 (show s+x1.1≤9223372036854775807 from by omega))) (sK3 (aI (aT (@wo1 58 59  s x2 (show s+x2≤9223372036854775807 from by omega))) (sK3 (aI (aT (@wo1 62 63  s x2 (show s+x2≤9223372036854775807 from by omega))) (aI (aT (@wm1 61 64 b 0 n m (s+x2) (show s+x2<n from by omega))) (aI (aT (aI (show s+x2<n from by omega) (v5o b s x2))) (sK3 (aI (aT (@wo1 68 69  s x1.1 (show s+x1.1≤9223372036854775807 from by omega))) (aI (aT (@wm1 67 70 b 0 n m (s+x1.1) (show s+x1.1<n from by omega))) (aI (aT (aI (show s+x1.1<n from by omega) (@rfl Value (v5I b s x1)))) (aI (aT (@wm1 53 56 b 0 n m (s+x1.1) (show s+x1.1<n from by omega))) (aI (aT (aI (show s+x1.1<n from by omega) (aI (@rfl Value (v5I b s x1)) (qAY n u64 (cdU x1.2) (s+x1.1) (cdU x1.2 (s+x2)) (cdU (v1H x1 s x2)) (qDe x1.2 (s+x1.1) (cdU x1.2 (s+x2))))))) (aI (aT (@wm1 57 60 b 0 n m (s+x2) (show s+x2<n from by omega))) (aI (aT (aI (show s+x2<n from by omega) (aI (v5o b s x2) (qAY n u64 (cdU (v1H x1 s x2)) (s+x2) (v4X x1 s) (cdU (qBC (v1H x1 s x2) (s+x2) (v4X x1 s))) (qDe (v1H x1 s x2) (s+x2) (v4X x1 s)))))) tV)))))))))))))))) (aI kV2 ((rnd (qD3 b n m c l u s) (qGP b n m c l u s) (qEm b n m c l u s) x1 ((x2,(qBC (v1H x1 s x2) (s+x2) (v4X x1 s))):Nat×Nat) (show((x2≤64))∧(64-x2)<(64-x1.1) from by exact⟨by omega,by omega⟩))))))))))))))))))
def qHa (b:Nat) (n:Nat) (m:Nat) (c:Nat) (a:Nat) (z:Nat) (x1:Nat×Nat):St:=⟨[(0,.v (v0Q b n m)),(6,.v (nat a)),(7,.v (int 0)),(8,.v (nat (z-a))),(9,.v (int (((x1.1:Nat):Int)-((1:Nat):Int))))],[(0,some ⟨b,true,0,(v14 n x1)⟩)],1⟩
def qDV (b:Nat) (n:Nat) (m:Nat) (c:Nat) (a:Nat) (z:Nat) (x1:Nat×Nat):Prop:=(x1.1≤z-a)
def qEb (b:Nat) (n:Nat) (m:Nat) (c:Nat) (a:Nat) (z:Nat) (x1:Nat×Nat):Nat:=x1.1
def qG6 (b:Nat) (n:Nat) (m:Nat) (c:Nat) (a:Nat) (z:Nat) (x1:Nat×Nat) (x2:Nat×Nat):St:=⟨[(0,.v (v0Q b n m)),(6,.v (nat a)),(7,.v (int 0)),(10,.v (int (((x2.1:Nat):Int)-((1:Nat):Int))))],[(0,some ⟨b,true,0,(v2O n x2)⟩)],1⟩
def qD5 (b:Nat) (n:Nat) (m:Nat) (c:Nat) (a:Nat) (z:Nat) (x1:Nat×Nat) (x2:Nat×Nat):Prop:=(x2.1≤z-a)
def qEc (b:Nat) (n:Nat) (m:Nat) (c:Nat) (a:Nat) (z:Nat) (x1:Nat×Nat) (x2:Nat×Nat):Nat:=x2.1
def wp1(a:Nat):=@qCy TP (.tmp a)
def wq1(a:Nat):=@qRa TP 3 3 (.tmp a) (.const (.int .i64 1))
def v0a(b n:Nat):OpH:=.call [(0,false)] 1 0 (fun _=>vT #[]) (fun ns=>[some ⟨b,true,0,(qAd n (fun k=>u64 (cdU (g0 ns) k)))⟩])
def v1s(x2:Nat×Nat)(a:Nat):=qBC x2.2 a (cdU x2.2 (a+(x2.1-1)))
def v1R(a:Nat):OpH:=.ld 0 (.tab a 0)
def v5B(z a:Nat):=rg [.g,.g,(aN (z-a)),.g]
def v6u(x2:Nat×Nat)(a:Nat):=qBC (v1s x2 a) (a+(x2.1-1)) (cdU x2.2 a)
def qU4 (b n m c:Nat) (a z:Nat) (h:12<z-a∧a≤z∧z≤n∧n≤64):qBI TP 85 [(Value.slice (some ⟨b,0,none⟩) n m),(nat a),(nat z)] [⟨b,true,0,(qAd n (fun k=>u64 (cdU c k)))⟩] 1 (fun ns=>(Value.tuple #[])) (fun ns=>[some ⟨b,true,0,(qAd n (fun k=>u64 (cdU (ns.getD 0 0) k)))⟩]):=
 qAl mix Tryz.func85 rfl rfl 400 (.reg v00 (.reg (rg [.g]) (.reg (v5B z a) (.reg (rg [.g,(aN ((z-a)-1)),(aN (((z-a)-1)/2)),(aJ ((((((z-a)-1)/2+1):Nat):Int)-((1:Nat):Int)))]) (.inv [0,6,7,8,9] [0] 1 (qDV b n m c a z) (qHa b n m c a z) (qEb b n m c a z) (((((z-a)-1)/2+1),c):Nat×Nat) (fun(x1:Nat×Nat)=>(.reg v00 (.br (.regn (rg [.g,(aN (x1.1-1)),.g,.g,(v0a b n)]) (more (fun n1=>fun _=>(.reg (rg [(aN (x1.1-1)),(aJ (((x1.1-1:Nat):Int)-((1:Nat):Int))),.g]) .done)))) (.reg (rg [.g,(aN ((z-a)-1)),(aJ (((((z-a)-1+1):Nat):Int)-((1:Nat):Int)))]) (.inv [0,6,7,10] [0] 1 (qD5 b n m c a z x1) (qG6 b n m c a z x1) (qEc b n m c a z x1) ((((z-a)-1+1),x1.2):Nat×Nat) (fun(x2:Nat×Nat)=>(.reg v00 (.br (.reg (rg [.g,.g,.g,.g,(v5R x2),(aN (a+(x2.1-1))),.g,.g,(v5R x2),(aN (a+(x2.1-1))),(.as (ptr b (0+(a+(x2.1-1))*1))),(.ld 0 (.tab (a+(x2.1-1)) 0)),.g,.g,(.as (ptr b (0+a*1))),(v1R a),(.as (ptr b (0+a*1))),(.stc 0 (.tab a 0) (qAd n (fun k=>u64 (cdU (v1s x2 a) k)))),(.as (ptr b (0+(a+(x2.1-1))*1))),(.stc 0 (.tab (a+(x2.1-1)) 0) (qAd n (fun k=>u64 (cdU (v6u x2 a) k))))]) (.regn (rg [.g,.g,(v5R x2),.g,(v0a b n)]) (more (fun n2=>fun _=>(.reg (rg [(v5R x2),(aJ (((x2.1-1:Nat):Int)-((1:Nat):Int))),.g]) .done))))) .done))))))))))))) [] [] rfl
  (Eq.mp (by kernel_rfl) (aI kV2 (aI kV1 (aI (sK2 (aI (aT (@wi1 12 13  z a (show a≤z∧z-a≤9223372036854775807 from by omega))) kV1)) (aI (sk (aI (aT (@wn1 15  (z-a) 1 (show 1≤(z-a)∧(z-a)-1≤9223372036854775807 from by omega))) (aI (aT (@qCU TP 3 3 (.tmp 16) (.const (.int .i64 2))  ((z-a)-1) 2 (show 0<2∧((z-a)-1)≤9223372036854775807 from by omega))) (aI (aT (@qMY TP (.tmp 17) (((z-a)-1)/2))) tV)))) (aI (show((((z-a)-1)/2+1)≤z-a) from by exact(by omega)) (aI (@rfl St ((qHa b n m c a z) (((((z-a)-1)/2+1),c):Nat×Nat))) (fun(x1:Nat×Nat) (hx1:(qDV b n m c a z) x1)=>have B0:x1.1≤z-a:=hx1;aI kV2 (aT (aI (fun(h1:(decide (((((x1.1:Nat):Int)-((1:Nat):Int)):Int)≥0))=true)=>have f2:=(oT h1);fun(n1:Nat)=>aI (sk (aI (aT (@wp1 9 (((x1.1:Nat):Int)-((1:Nat):Int)) (x1.1-1) (show((((x1.1:Nat):Int)-((1:Nat):Int)):Int)=((x1.1-1:Nat):Int) from by omega))) (sK2 (aI (aT (qN9 b n m x1.2 (x1.1-1) (z-a) a (show(x1.1-1)≤64∧a+(z-a)≤n∧n≤64 from by omega))) tV)))) (aI (aI (aT (@wp1 9 (((x1.1:Nat):Int)-((1:Nat):Int)) (x1.1-1) (show((((x1.1:Nat):Int)-((1:Nat):Int)):Int)=((x1.1-1:Nat):Int) from by omega))) (aI (aT (@wq1 20  (x1.1-1) 1 (show x1.1-1≤9223372036854775807∧1≤9223372036854775807 from by omega))) kV1)) ((rnd (qDV b n m c a z) (qHa b n m c a z) (qEb b n m c a z) x1 ((x1.1-1,n1):Nat×Nat) (show(((x1.1-1)≤z-a))∧(x1.1-1)<x1.1 from by exact⟨by omega,by omega⟩))))) (fun(h1:(decide (((((x1.1:Nat):Int)-((1:Nat):Int)):Int)≥0))=false)=>have f2:=(oF h1);aI (sk (aI (aT (@wn1 27  (z-a) 1 (show 1≤(z-a)∧(z-a)-1≤9223372036854775807 from by omega))) (aI (aT (@qMY TP (.tmp 28) ((z-a)-1))) tV))) (aI (show(((z-a)-1+1)≤z-a) from by exact(by omega)) (aI (@rfl St ((qG6 b n m c a z x1) ((((z-a)-1+1),x1.2):Nat×Nat))) (fun(x2:Nat×Nat) (hx2:(qD5 b n m c a z x1) x2)=>have B0:x2.1≤z-a:=hx2;aI kV2 (aT (aI (fun(h2:(decide (((((x2.1:Nat):Int)-((1:Nat):Int)):Int)≥0))=true)=>have f4:=(oT h2);aI (sK4 (aI (aT (@wp1 10 (((x2.1:Nat):Int)-((1:Nat):Int)) (x2.1-1) (show((((x2.1:Nat):Int)-((1:Nat):Int)):Int)=((x2.1-1:Nat):Int) from by omega))) (aI (aT (@wo1 36 37  a (x2.1-1) (show a+(x2.1-1)≤9223372036854775807 from by omega))) (sK2 (aI (aT (@wp1 10 (((x2.1:Nat):Int)-((1:Nat):Int)) (x2.1-1) (show((((x2.1:Nat):Int)-((1:Nat):Int)):Int)=((x2.1-1:Nat):Int) from by omega))) (aI (aT (@wo1 40 41  a (x2.1-1) (show a+(x2.1-1)≤9223372036854775807 from by omega))) (aI (aT (@wm1 39 42 b 0 n m (a+(x2.1-1)) (show a+(x2.1-1)<n from by omega))) (aI (aT (aI (show a+(x2.1-1)<n from by omega) (@rfl Value (ptr b (0+(a+(x2.1-1))*1))))) (sK2 (aI (aT (@wm1 45 46 b 0 n m a (show a<n from by omega))) (aI (aT (aI (show a<n from by omega) (@rfl Value (ptr b (0+a*1))))) (aI (aT (@wm1 33 34 b 0 n m a (show a<n from by omega))) (aI (aT (aI (show a<n from by omega) (aI (@rfl Value (ptr b (0+a*1))) (qAY n u64 (cdU x2.2) a (cdU x2.2 (a+(x2.1-1))) (cdU (v1s x2 a)) (qDe x2.2 a (cdU x2.2 (a+(x2.1-1)))))))) (aI (aT (@wm1 35 38 b 0 n m (a+(x2.1-1)) (show a+(x2.1-1)<n from by omega))) (aI (aT (aI (show a+(x2.1-1)<n from by omega) (aI (@rfl Value (ptr b (0+(a+(x2.1-1))*1))) (qAY n u64 (cdU (v1s x2 a)) (a+(x2.1-1)) (cdU x2.2 a) (cdU (v6u x2 a)) (qDe (v1s x2 a) (a+(x2.1-1)) (cdU x2.2 a)))))) tV))))))))))))))) (fun(n2:Nat)=>aI (sK2 (aI (aT (@wp1 10 (((x2.1:Nat):Int)-((1:Nat):Int)) (x2.1-1) (show((((x2.1:Nat):Int)-((1:Nat):Int)):Int)=((x2.1-1:Nat):Int) from by omega))) (sk (aI (aT (qN9 b n m (v6u x2 a) 0 (x2.1-1) a (show 0≤64∧a+(x2.1-1)≤n∧n≤64 from by omega))) tV)))) (aI (aI (aT (@wp1 10 (((x2.1:Nat):Int)-((1:Nat):Int)) (x2.1-1) (show((((x2.1:Nat):Int)-((1:Nat):Int)):Int)=((x2.1-1:Nat):Int) from by omega))) (aI (aT (@wq1 31  (x2.1-1) 1 (show x2.1-1≤9223372036854775807∧1≤9223372036854775807 from by omega))) kV1)) ((rnd (qD5 b n m c a z x1) (qG6 b n m c a z x1) (qEc b n m c a z x1) x2 ((x2.1-1,n2):Nat×Nat) (show(((x2.1-1)≤z-a))∧(x2.1-1)<x2.1 from by exact⟨by omega,by omega⟩)))))) (fun(h2:(decide (((((x2.1:Nat):Int)-((1:Nat):Int)):Int)≥0))=false)=>have f4:=(oF h2);aT (eX (fun(ns:List Nat)=>ns.length=1∧((vT #[]):Value)=(fun ns=>(vT #[])) ns∧([some ⟨b,true,0,(v2O n x2)⟩]:List (Option Blk))=(fun ns=>[some ⟨b,true,0,(qAd n (fun k=>u64 (cdU (g0 ns) k)))⟩]) ns) [x2.2] (aI v0R (aI v10 (@rfl (List (Option Blk)) [some ⟨b,true,0,(v2O n x2)⟩])))))))))))))))))))))
def nxA (x:UInt64):UInt64:=x^^^qAT x 13
def nxB (x:UInt64):UInt64:=x^^^qAa x 7
def nxC (x:UInt64):UInt64:=x^^^qAT x 17
def nxS (x:UInt64):UInt64:=nxC (nxB (nxA x))
def wr1(a b:Nat):=@qNa TP 157 157 (.tmp a) (.tmp b)
def v0L(x:UInt64):=x^^^(qAT x 13)
def v34(q:Nat):=aT (ad q 0)
def v6c(x:UInt64):=qAT ((v0L x)^^^(qAa (v0L x) 7)) 17
def v6g(x:UInt64):=qAa (v0L x) 7
def v6A(q:Nat):=sk (aI (v34 q) tV)
def qVy (q:Nat) (x:UInt64):qBI TP 101 [(ptr q 0)] [⟨q,true,0,(.lit [(u64 x)])⟩] 0 (fun _=>u64 (nxS x)) (fun _=>[some ⟨q,true,0,(.lit [(u64 (nxS x))])⟩]):=
 qAl mix Tryz.func101 rfl rfl 400 (.reg (rg [.g]) (.reg (rg [.g,.g,v0j,.g,.g,v0j,(aQ (qAT x 13)),(aQ (v0L x)),.g,v19]) (.reg (rg [.g,.g,v0j,.g,.g,v0j,(aQ (v6g x)),(aQ ((v0L x)^^^(v6g x))),.g,v19]) (.reg (rg [.g,.g,v0j,.g,.g,v0j,(aQ (v6c x)),(aQ (((v0L x)^^^(v6g x))^^^(v6c x))),.g,v19]) (.reg (rg [.g,.g,v0j,.g]) .done))))) [] [] rfl
  (Eq.mp (by kernel_rfl) (aI kV1 (aI (sK2 (aI (v34 q) (sK2 (aI (v34 q) (aI (aT (@qKD TP 157 121 (.tmp 8) (.const (.int .u64 13)) x .u64 13)) (aI (aT (@wr1 5 9 x (qAT x 13))) (v6A q))))))) (aI (sK2 (aI (v34 q) (sK2 (aI (v34 q) (aI (aT (@qBa TP 157 121 (.tmp 17) (.const (.int .u64 7)) (v0L x) .u64 7)) (aI (aT (@wr1 14 18 (v0L x) (v6g x))) (v6A q))))))) (aI (sK2 (aI (v34 q) (sK2 (aI (v34 q) (aI (aT (@qKD TP 157 121 (.tmp 26) (.const (.int .u64 17)) ((v0L x)^^^(v6g x)) .u64 17)) (aI (aT (@wr1 23 27 ((v0L x)^^^(v6g x)) (v6c x))) (v6A q))))))) (aI (sK2 (aI (v34 q) kV1)) (aT (eX (fun(ns:List Nat)=>ns.length=0∧((u64 (((v0L x)^^^(v6g x))^^^(v6c x))):Value)=(fun _=>u64 (nxS x)) ns∧([some ⟨q,true,0,(.lit [(u64 (((v0L x)^^^(v6g x))^^^(v6c x)))])⟩]:List (Option Blk))=(fun _=>[some ⟨q,true,0,(.lit [(u64 (nxS x))])⟩]) ns) [] (aI v0b (aI (@rfl Value (u64 (nxS x))) (@rfl (List (Option Blk)) [some ⟨q,true,0,(.lit [(u64 (nxS x))])⟩])))))))))))
def qXD (l:Nat) (h:l≤64):qDt TP 100 [(nat l)] (u64 (qAT 1 (qBb (UInt64.ofNat l)))):=
 qAg mix Tryz.func100 rfl rfl 400 (.reg (rg [.g]) (.reg (rg [.g,(aQ (uO l)),(.call [] 0 0 (fun _=>(nat (qBb (uO l)))) (fun _=>[])),(aQ (qAT 1 (qBb (uO l)))),.g]) .done)) []
  (Eq.mp (by kernel_rfl) (aI kV1 (aI (sk (aI (aT (@qAM TP 3 121 (.tmp 3) (by kernel_rfl) (by kernel_rfl) l)) (aI (aT (qLG (uO l))) (aI (aT (@qKD TP 121 3 (.const (.int .u64 1)) (.tmp 5) 1 .i64 (qBb (uO l)))) kV1)))) (aT (@rfl Value (u64 (qAT 1 (qBb (uO l)))))))))
def jCz:∀l,l<65→0<l→(qAT 1 (qBb (UInt64.ofNat l))-1).toNat<2*l:=by decide
def qYT (x:UInt64) {l:Nat} (h:l≤64) (h0:0<l):(x&&&(qAT 1 (qBb (UInt64.ofNat l))-1)).toNat<2*l:=by
 rw[UInt64.toNat_and];exact Nat.lt_of_le_of_lt Nat.and_le_right (jCz l (by omega) h0)
def v0V(z a:Nat):=qAT 1 (qBb (uO (z-a)))
def v3S(n:Nat)(x1:Nat×UInt64×Nat):=qAd n (fun k=>u64 (cdU x1.2.2 k))
def qH4 (b:Nat) (n:Nat) (m:Nat) (c:Nat) (a:Nat) (z:Nat) (n1:Nat) (x1:Nat×UInt64×Nat):St:=⟨[(0,.v (v0Q b n m)),(1,.v (nat a)),(6,.v (nat (z-a))),(7,.v (v1M n1)),(8,.v (u64 (v0V z a))),(9,.v (nat x1.1))],[(0,some ⟨b,true,0,(v3S n x1)⟩),(1,some ⟨n1,true,0,(.lit [(u64 x1.2.1)])⟩)],2⟩
def qEX (b:Nat) (n:Nat) (m:Nat) (c:Nat) (a:Nat) (z:Nat) (n1:Nat) (x1:Nat×UInt64×Nat):Prop:=(a≤x1.1)∧(x1.1≤a+(z-a)/4*2+2)
def qFf (b:Nat) (n:Nat) (m:Nat) (c:Nat) (a:Nat) (z:Nat) (n1:Nat) (x1:Nat×UInt64×Nat):Nat:=a+(z-a)/4*2+2-x1.1
def v4Y(x1:Nat×UInt64×Nat):=nxS x1.2.1
def qH1 (b:Nat) (n:Nat) (m:Nat) (c:Nat) (a:Nat) (z:Nat) (n1:Nat) (x1:Nat×UInt64×Nat) (x2:Nat):St:=⟨[(0,.v (v0Q b n m)),(1,.v (nat a)),(6,.v (nat (z-a))),(7,.v (v1M n1)),(8,.v (u64 (v0V z a))),(9,.v (nat x1.1)),(10,.v (nat x2))],[(0,some ⟨b,true,0,(v3S n x1)⟩),(1,some ⟨n1,true,0,(.lit [(u64 (v4Y x1))])⟩)],2⟩
def qDF (b:Nat) (n:Nat) (m:Nat) (c:Nat) (a:Nat) (z:Nat) (n1:Nat) (x1:Nat×UInt64×Nat) (x2:Nat):Prop:=(x2<z-a)
def ws1(a:Nat):=@qIs TP 3 3 (.tmp a) (.const (.int .i64 8))
def wt1(a:Nat):=@qCU TP 3 3 (.tmp a) (.const (.int .i64 4))
def wu1(a:Nat):=@qCV TP 3 3 (.tmp a) (.const (.int .i64 2))
def wv1(a b:Nat):=@qGL TP 3 3 (.tmp a) (.tmp b)
def v0k(n c:Nat):=qAd n (fun k=>u64 (cdU c k))
def v1P(x1:Nat×UInt64×Nat)(a x2:Nat):=qBC x1.2.2 x1.1 (cdU x1.2.2 (a+x2))
def v2d(a z:Nat):=a+(((z-a)/4)*2)
def v6O(x1:Nat×UInt64×Nat)(a x2:Nat):=qBC (v1P x1 a x2) (a+x2) (cdU x1.2.2 x1.1)
def qWr (b n m c:Nat) (a z:Nat) (h:12<z-a∧a≤z∧z≤n∧n≤64):qBI TP 86 [(Value.slice (some ⟨b,0,none⟩) n m),(nat a),(nat z)] [⟨b,true,0,(qAd n (fun k=>u64 (cdU c k)))⟩] 1 (fun ns=>(Value.tuple #[])) (fun ns=>[some ⟨b,true,0,(qAd n (fun k=>u64 (cdU (ns.getD 0 0) k)))⟩]):=
 qAl mix Tryz.func86 rfl rfl 400 (.reg (v5B z a) (.reg (rg [.g,(aB (decide (8≤(z-a))))]) (.br (.regn (rg [.g,(aQ (uO (z-a))),.new,v15]) (more (fun n1=>fun _=>(.reg (rg [.g,(.call [] 0 0 (fun _=>(u64 (v0V z a))) (fun _=>[])),.g]) (.reg (rg [.g,.g,(aN ((z-a)/4)),(aN (((z-a)/4)*2)),(aN (v2d a z)),(aN ((v2d a z)-1)),.g]) (.inv [0,1,6,7,8,9] [0,1] 2 (qEX b n m c a z n1) (qH4 b n m c a z n1) (qFf b n m c a z n1) (((v2d a z)-1,(uO (z-a)),c):Nat×UInt64×Nat) (fun(x1:Nat×UInt64×Nat)=>(.reg (rg [.g,.g,.g,(aN ((z-a)/4)),(aN (((z-a)/4)*2)),(aN (v2d a z)),(aN ((v2d a z)+1)),(aB (decide (x1.1≤((v2d a z)+1))))]) (.br (.reg (rg [(.call [(1,false)] 0 0 (fun _=>(u64 (v4Y x1))) (fun _=>[some ⟨n1,true,0,(.lit [(u64 (v4Y x1))])⟩])),.g,(aQ ((v0V z a)-1)),(aQ ((v4Y x1)&&&((v0V z a)-1))),(aN (((v4Y x1)&&&((v0V z a)-1)).toNat)),.g]) (.reg (rg [.g,.g,(aB (decide ((z-a)≤(((v4Y x1)&&&((v0V z a)-1)).toNat))))]) (.cut [0,1,6,7,8,9,10] [0,1] 2 (qDF b n m c a z n1 x1) (qH1 b n m c a z n1 x1) (.br (.reg (rg [.g,.g,(aN ((((v4Y x1)&&&((v0V z a)-1)).toNat)-(z-a))),.g]) .done) .done) (fun(x2:Nat)=>(.reg (rg [.g,.g,.g,.g,.g,(aN (a+x2)),.g,.g,.g,(aN (a+x2)),(.as (ptr b (0+(a+x2)*1))),(.ld 0 (.tab (a+x2) 0)),.g,.g,(.as (ptr b (0+x1.1*1))),(.ld 0 (.tab x1.1 0)),(.as (ptr b (0+x1.1*1))),(.stc 0 (.tab x1.1 0) (qAd n (fun k=>u64 (cdU (v1P x1 a x2) k)))),(.as (ptr b (0+(a+x2)*1))),(.stc 0 (.tab (a+x2) 0) (qAd n (fun k=>u64 (cdU (v6O x1 a x2) k))))]) (.reg (rg [.g,(aN (x1.1+1)),.g]) .done)))))) .done))))))))) .done))) [] [] rfl
  (Eq.mp (by kernel_rfl) (aI (sK2 (aI (aT (@wi1 11 12  z a (show a≤z∧z-a≤9223372036854775807 from by omega))) kV1)) (aI (sk (aI (aT (@ws1 14  (z-a) 8)) tV)) (aT (aI (fun(h1:(decide (8≤(z-a)))=true)=>have f1:=(oT h1);fun(n1:Nat)=>aI (sk (aI (aT (@qAM TP 3 157 (.tmp 16) (by kernel_rfl) (by kernel_rfl) (z-a))) (sk (v6d n1)))) (aI (sk (aI (aT (qXD (z-a) (show z-a≤64 from by omega))) kV1)) (aI (sK2 (aI (aT (@wt1 21  (z-a) 4 (show 0<4∧(z-a)≤9223372036854775807 from by omega))) (aI (aT (@wu1 22  ((z-a)/4) 2 (show((z-a)/4)*2≤9223372036854775807 from by omega))) (aI (aT (@wo1 20 23  a (((z-a)/4)*2) (show a+(((z-a)/4)*2)≤9223372036854775807 from by omega))) (aI (aT (@wn1 24  (v2d a z) 1 (show 1≤(a+(((z-a)/4)*2))∧(a+(((z-a)/4)*2))-1≤9223372036854775807 from by omega))) kV1))))) (aI (show(a≤((a+(((z-a)/4)*2))-1))∧(((a+(((z-a)/4)*2))-1)≤a+(z-a)/4*2+2) from by exact⟨by omega,by omega⟩) (aI (@rfl St ((qH4 b n m c a z n1) (((v2d a z)-1,(uO (z-a)),c):Nat×UInt64×Nat))) (fun(x1:Nat×UInt64×Nat) (hx1:(qEX b n m c a z n1) x1)=>have B0:a≤x1.1:=hx1.1;have B1:x1.1≤a+(z-a)/4*2+2:=hx1.2;aI (sK3 (aI (aT (@wt1 28  (z-a) 4 (show 0<4∧(z-a)≤9223372036854775807 from by omega))) (aI (aT (@wu1 29  ((z-a)/4) 2 (show((z-a)/4)*2≤9223372036854775807 from by omega))) (aI (aT (@wo1 27 30  a (((z-a)/4)*2) (show a+(((z-a)/4)*2)≤9223372036854775807 from by omega))) (aI (aT (@wj1 31  (v2d a z) 1 (show(a+(((z-a)/4)*2))+1≤9223372036854775807 from by omega))) (aI (aT (@wv1 26 32  x1.1 ((v2d a z)+1))) tV)))))) (aT (aI (fun(h2:(decide (x1.1≤((a+(((z-a)/4)*2))+1)))=true)=>have f4:=(oT h2);aI (aI (aT (qBI.dark [false] (qVy n1 x1.2.1))) (sk (aI (aT (@qQL TP 121 121 (.tmp 37) (.const (.int .u64 1)) (v0V z a) 1)) (aI (aT (@qKr TP 121 121 (.tmp 36) (.tmp 38) (v4Y x1) ((v0V z a)-1))) (aI (aT (@qGJ TP 121 3 (.tmp 39) (by kernel_rfl) (by kernel_rfl) ((v4Y x1)&&&((v0V z a)-1)) (show((nxS x1.2.1)&&&((qAT 1 (qBb (uO (z-a))))-1)).toNat≤9223372036854775807 from by have fm:((nxS x1.2.1)&&&((qAT 1 (qBb (uO (z-a))))-1)).toNat<2*(z-a):=(qYT _ (by omega) (by omega));have:=qB0 (uO (z-a));omega))) kV1))))) ((have fm:((nxS x1.2.1)&&&((qAT 1 (qBb (uO (z-a))))-1)).toNat<2*(z-a):=(qYT _ (by omega) (by omega));aI (sK2 (aI (aT (@qIs TP 3 3 (.tmp 41) (.tmp 42)  (((v4Y x1)&&&((v0V z a)-1)).toNat) (z-a))) tV)) (aI (aT (aI (fun(h3:(decide ((z-a)≤(((nxS x1.2.1)&&&((qAT 1 (qBb (uO (z-a))))-1)).toNat)))=true)=>have f6:=(oT h3);aI (sK2 (aI (aT (@wi1 44 45  (((v4Y x1)&&&((v0V z a)-1)).toNat) (z-a) (show(z-a)≤(((nxS x1.2.1)&&&((qAT 1 (qBb (uO (z-a))))-1)).toNat)∧(((nxS x1.2.1)&&&((qAT 1 (qBb (uO (z-a))))-1)).toNat)-(z-a)≤9223372036854775807 from by have:=qB0 (uO (z-a));omega))) kV1)) ((met (qDF b n m c a z n1 x1) (qH1 b n m c a z n1 x1) ((((v4Y x1)&&&((v0V z a)-1)).toNat)-(z-a):Nat) (show(((((nxS x1.2.1)&&&((qAT 1 (qBb (uO (z-a))))-1)).toNat)-(z-a))<z-a) from by exact(by omega))))) (fun(h3:(decide ((z-a)≤(((nxS x1.2.1)&&&((qAT 1 (qBb (uO (z-a))))-1)).toNat)))=false)=>have f6:=(oF h3);(met (qDF b n m c a z n1 x1) (qH1 b n m c a z n1 x1) (((v4Y x1)&&&((v0V z a)-1)).toNat:Nat) (show((((nxS x1.2.1)&&&((qAT 1 (qBb (uO (z-a))))-1)).toNat)<z-a) from by exact(by omega)))))) (fun(x2:Nat) (hx2:(qDF b n m c a z n1 x1) x2)=>have P0:x2<z-a:=hx2;aI (sK4 (sk (aI (aT (@wo1 50 51  a x2 (show a+x2≤9223372036854775807 from by omega))) (sK3 (aI (aT (@wo1 54 55  a x2 (show a+x2≤9223372036854775807 from by omega))) (aI (aT (@wm1 53 56 b 0 n m (a+x2) (show a+x2<n from by omega))) (aI (aT (aI (show a+x2<n from by omega) (@rfl Value (ptr b (0+(a+x2)*1))))) (sK2 (aI (aT (@wm1 59 60 b 0 n m x1.1 (show x1.1<n from by omega))) (aI (aT (aI (show x1.1<n from by omega) (@rfl Value (ptr b (0+x1.1*1))))) (aI (aT (@wm1 47 48 b 0 n m x1.1 (show x1.1<n from by omega))) (aI (aT (aI (show x1.1<n from by omega) (aI (@rfl Value (ptr b (0+x1.1*1))) (qAY n u64 (cdU x1.2.2) x1.1 (cdU x1.2.2 (a+x2)) (cdU (v1P x1 a x2)) (qDe x1.2.2 x1.1 (cdU x1.2.2 (a+x2))))))) (aI (aT (@wm1 49 52 b 0 n m (a+x2) (show a+x2<n from by omega))) (aI (aT (aI (show a+x2<n from by omega) (aI (@rfl Value (ptr b (0+(a+x2)*1))) (qAY n u64 (cdU (v1P x1 a x2)) (a+x2) (cdU x1.2.2 x1.1) (cdU (v6O x1 a x2)) (qDe (v1P x1 a x2) (a+x2) (cdU x1.2.2 x1.1)))))) tV)))))))))))))) (aI (sk (aI (aT (@wj1 34  x1.1 1 (show x1.1+1≤9223372036854775807 from by omega))) kV1)) ((rnd (qEX b n m c a z n1) (qH4 b n m c a z n1) (qFf b n m c a z n1) x1 ((x1.1+1,(v4Y x1),(v6O x1 a x2)):Nat×UInt64×Nat) (show((a≤(x1.1+1))∧((x1.1+1)≤a+(z-a)/4*2+2))∧(a+(z-a)/4*2+2-(x1.1+1))<(a+(z-a)/4*2+2-x1.1) from by exact⟨⟨by omega,by omega⟩,by omega⟩))))))))) (fun(h2:(decide (x1.1≤((a+(((z-a)/4)*2))+1)))=false)=>have f4:=(oF h2);aT (eX (fun(ns:List Nat)=>ns.length=1∧((vT #[]):Value)=(fun ns=>(vT #[])) ns∧([some ⟨b,true,0,(v3S n x1)⟩]:List (Option Blk))=(fun ns=>[some ⟨b,true,0,(qAd n (fun k=>u64 (cdU (g0 ns) k)))⟩]) ns) [x1.2.2] (aI v0R (aI v10 (@rfl (List (Option Blk)) [some ⟨b,true,0,(v3S n x1)⟩]))))))))))))) (fun(h1:(decide (8≤(z-a)))=false)=>have f1:=(oF h1);aT (eX (fun(ns:List Nat)=>ns.length=1∧((vT #[]):Value)=(fun ns=>(vT #[])) ns∧([some ⟨b,true,0,(v0k n c)⟩]:List (Option Blk))=(fun ns=>[some ⟨b,true,0,(qAd n (fun k=>u64 (cdU (g0 ns) k)))⟩]) ns) [c] (aI v0R (aI v10 (@rfl (List (Option Blk)) [some ⟨b,true,0,(v0k n c)⟩]))))))))))
abbrev jEv (a:Nat) (b:List Nat) (c:Nat):=Value.tuple #[(nat (a+(b.getD 0 0)%(c-a))),(nat (b.getD 1 0))]
abbrev qXI:=List (Option Blk)
def qK1 (b n m c:Nat) (x y q w:Nat) (h:x<n∧y<n∧n≤64∧w≤1000):qBI TP 107 [(Value.slice (some ⟨b,0,none⟩) n m),(nat x),(nat y),(ptr q 0)] [⟨b,false,0,(qAd n (fun k=>u64 (cdU c k)))⟩,⟨q,true,0,(.lit [(nat w)])⟩] 1 (fun ns=>(Value.tuple #[(nat (pkN (ns.getD 0 0) x y)),(nat (pkN (ns.getD 0 0) y x))])) (fun ns=>[some ⟨b,false,0,(qAd n (fun k=>u64 (cdU c k)))⟩,some ⟨q,true,0,.lit [(nat (w+pkN (ns.getD 0 0) 0 1))]⟩]):=
 qAl mix Tryz.func107 rfl rfl 400 (.reg v00 (.reg (rg [.g,.g,(.as (ptr b (0+y*1))),(.ld 0 (.tab y 0)),.g,.g,(.as (ptr b (0+x*1))),(.ld 0 (.tab x 0)),(.call [] 0 0 (fun _=>(vB (decide ((cdU c y)<(cdU c x))))) (fun _=>[]))]) (.br (.reg (rg [.g,.g,v0H,(aN (w+1)),.g,v15]) v6p) v6p))) [] [] rfl
  (Eq.mp (by kernel_rfl) (aI kV2 (aI (sK2 (aI (aT (@wm1 10 11 b 0 n m y (show y<n from by omega))) (aI (aT (aI (show y<n from by omega) (@rfl Value (ptr b (0+y*1))))) (sK2 (aI (aT (@wm1 14 15 b 0 n m x (show x<n from by omega))) (aI (aT (aI (show x<n from by omega) (@rfl Value (ptr b (0+x*1))))) (aI (aT (qCm (cdU c y) (cdU c x))) tV))))))) (aT (aI (fun(h1:(decide ((cdU c y)<(cdU c x)))=true)=>have f1:=(oT h1);aI (sK2 (aI (v34 q) (aI (aT (@wj1 21  w 1 (show w+1≤9223372036854775807 from by omega))) (v6A q)))) (aI kV4 (aT (eX (fun(ns:List Nat)=>ns.length=1∧((vT #[(nat y),(nat x)]):Value)=(fun ns=>(vT #[(nat (pkN (g0 ns) x y)),(nat (pkN (g0 ns) y x))])) ns∧([some ⟨b,false,0,(v0k n c)⟩,some ⟨q,true,0,(.lit [(nat (w+1))])⟩]:List (Option Blk))=(fun ns=>[some ⟨b,false,0,(v0k n c)⟩,some ⟨q,true,0,.lit [(nat (w+pkN (g0 ns) 0 1))]⟩]) ns) [1] (aI v0R (aI (@rfl Value (vT #[(nat (pkN 1 x y)),(nat (pkN 1 y x))])) (@rfl (qXI) [some ⟨b,false,0,(v0k n c)⟩,some ⟨q,true,0,.lit [(nat (w+pkN 1 0 1))]⟩]))))))) (fun(h1:(decide ((cdU c y)<(cdU c x)))=false)=>have f1:=(oF h1);aI kV4 (aT (eX (fun(ns:List Nat)=>ns.length=1∧((vT #[(nat x),(nat y)]):Value)=(fun ns=>(vT #[(nat (pkN (g0 ns) x y)),(nat (pkN (g0 ns) y x))])) ns∧([some ⟨b,false,0,(v0k n c)⟩,some ⟨q,true,0,(.lit [(nat w)])⟩]:List (Option Blk))=(fun ns=>[some ⟨b,false,0,(v0k n c)⟩,some ⟨q,true,0,.lit [(nat (w+pkN (g0 ns) 0 1))]⟩]) ns) [0] (aI v0R (aI (@rfl Value (vT #[(nat (pkN 0 x y)),(nat (pkN 0 y x))])) (@rfl (qXI) [some ⟨b,false,0,(v0k n c)⟩,some ⟨q,true,0,.lit [(nat (w+pkN 0 0 1))]⟩])))))))))))
def qYh (b n m c:Nat) (i j k q w a z:Nat) (h:a≤i∧i<z∧a≤j∧j<z∧a≤k∧k<z∧z≤n∧n≤64∧w≤100):qBI TP 103 [(Value.slice (some ⟨b,0,none⟩) n m),(nat i),(nat j),(nat k),(ptr q 0)] [⟨b,false,0,(qAd n (fun k=>u64 (cdU c k)))⟩,⟨q,true,0,(.lit [(nat w)])⟩] 2 (fun ns=>(nat (a+(ns.getD 0 0)%(z-a)))) (fun ns=>[some ⟨b,false,0,(qAd n (fun k=>u64 (cdU c k)))⟩,some ⟨q,true,0,.lit [(nat (ns.getD 1 0))]⟩]):=
 qAl mix Tryz.func103 rfl rfl 400 (.reg (rg [.g]) (.regn (rg [.g,.g,.g,.g,(.call [(0,true),(1,false)] 1 0 (fun ns=>(vT #[(nat (pkN (g0 ns) i j)),(nat (pkN (g0 ns) j i))])) (fun ns=>[none,some ⟨q,true,0,(.lit [(nat (w+pkN (g0 ns) 0 1))])⟩])),.g,.g,.g,.g,.g]) (more (fun n1=>fun _=>(.regn (rg [.g,.g,.g,.g,(.call [(0,true),(1,false)] 1 0 (fun ns=>(vT #[(nat (pkN (g0 ns) (pkN n1 j i) k)),(nat (pkN (g0 ns) k (pkN n1 j i)))])) (fun ns=>[none,some ⟨q,true,0,(.lit [(nat (w+pkN n1 0 1+pkN (g0 ns) 0 1))])⟩])),.g,.g,.g,.g,.g]) (more (fun n2=>fun _=>(.regn (rg [.g,.g,.g,.g,(.call [(0,true),(1,false)] 1 0 (fun ns=>(vT #[(nat (pkN (g0 ns) (pkN n1 i j) (pkN n2 (pkN n1 j i) k))),(nat (pkN (g0 ns) (pkN n2 (pkN n1 j i) k) (pkN n1 i j)))])) (fun ns=>[none,some ⟨q,true,0,(.lit [(nat (w+pkN n1 0 1+pkN n2 0 1+pkN (g0 ns) 0 1))])⟩])),.g,.g,.g,.g,.g]) (more (fun n3=>fun _=>v5T)))))))))) [] [] rfl
  (Eq.mp (by kernel_rfl) (aI kV1 (fun(n1:Nat)=>aI (sK4 (aI (aT (qBI.dark [true,false] (qK1 b n m c i j q w (show i<n∧j<n∧n≤64∧w≤1000 from by have f1:pkN n1 0 1≤1:=(qMw _);have f2:pkN n1 i j<n:=(qGt (p:=fun r=>r<n) _ (by omega) (by omega));have f3:pkN n1 j i<n:=(qGt (p:=fun r=>r<n) _ (by omega) (by omega));omega)))) (sk kV4))) ((have f1:pkN n1 0 1≤1:=(qMw _);have f2:pkN n1 i j<n:=(qGt (p:=fun r=>r<n) _ (by omega) (by omega));have f3:pkN n1 j i<n:=(qGt (p:=fun r=>r<n) _ (by omega) (by omega));fun(n2:Nat)=>aI (sK4 (aI (aT (qBI.dark [true,false] (qK1 b n m c (pkN n1 j i) k q (w+pkN n1 0 1) (show pkN n1 j i<n∧k<n∧n≤64∧w+pkN n1 0 1≤1000 from by have f4:pkN n2 0 1≤1:=(qMw _);have f5:pkN n2 (pkN n1 j i) k<n:=(qGt (p:=fun r=>r<n) _ (by omega) (by omega));have f6:pkN n2 k (pkN n1 j i)<n:=(qGt (p:=fun r=>r<n) _ (by omega) (by omega));omega)))) (sk kV4))) ((have f4:pkN n2 0 1≤1:=(qMw _);have f5:pkN n2 (pkN n1 j i) k<n:=(qGt (p:=fun r=>r<n) _ (by omega) (by omega));have f6:pkN n2 k (pkN n1 j i)<n:=(qGt (p:=fun r=>r<n) _ (by omega) (by omega));fun(n3:Nat)=>aI (sK4 (aI (aT (qBI.dark [true,false] (qK1 b n m c (pkN n1 i j) (pkN n2 (pkN n1 j i) k) q (w+pkN n1 0 1+pkN n2 0 1) (show pkN n1 i j<n∧pkN n2 (pkN n1 j i) k<n∧n≤64∧w+pkN n1 0 1+pkN n2 0 1≤1000 from by have f7:pkN n3 0 1≤1:=(qMw _);have f8:pkN n3 (pkN n1 i j) (pkN n2 (pkN n1 j i) k)<n:=(qGt (p:=fun r=>r<n) _ (by omega) (by omega));have f9:pkN n3 (pkN n2 (pkN n1 j i) k) (pkN n1 i j)<n:=(qGt (p:=fun r=>r<n) _ (by omega) (by omega));omega)))) (sk kV4))) ((have f7:pkN n3 0 1≤1:=(qMw _);have f8:pkN n3 (pkN n1 i j) (pkN n2 (pkN n1 j i) k)<n:=(qGt (p:=fun r=>r<n) _ (by omega) (by omega));have f9:pkN n3 (pkN n2 (pkN n1 j i) k) (pkN n1 i j)<n:=(qGt (p:=fun r=>r<n) _ (by omega) (by omega));aI kV2 (aT (eX (fun(ns:List Nat)=>ns.length=2∧((nat (pkN n3 (pkN n2 (pkN n1 j i) k) (pkN n1 i j))):Value)=(fun ns=>(nat (a+(g0 ns)%(z-a)))) ns∧([some ⟨b,false,0,(v0k n c)⟩,some ⟨q,true,0,(.lit [(nat (w+pkN n1 0 1+pkN n2 0 1+pkN n3 0 1))])⟩]:List (Option Blk))=(fun ns=>[some ⟨b,false,0,(v0k n c)⟩,some ⟨q,true,0,.lit [(nat (g1 ns))]⟩]) ns) [(pkN n3 (pkN n2 (pkN n1 j i) k) (pkN n1 i j)-a),(w+pkN n1 0 1+pkN n2 0 1+pkN n3 0 1)] (aI v0W (aI ((show((nat (pkN n3 (pkN n2 (pkN n1 j i) k) (pkN n1 i j))):Value)=(nat (a+(pkN n3 (pkN n2 (pkN n1 j i) k) (pkN n1 i j)-a)%(z-a))) from by exact congrArg nat (qOY (a:=a) (z:=z) (r:=pkN n3 (pkN n2 (pkN n1 j i) k) (pkN n1 i j)) (by unfold pkN;(repeat' split)<;>omega) (by unfold pkN;(repeat' split)<;>omega)).symm)) (@rfl (qXI) [some ⟨b,false,0,(v0k n c)⟩,some ⟨q,true,0,.lit [(nat (w+pkN n1 0 1+pkN n2 0 1+pkN n3 0 1))]⟩]))))))))))))))
def v66(b n c:Nat):=@rfl (qXI) [some ⟨b,false,0,(v0k n c)⟩]
def qXV (b n m c:Nat) (a z:Nat) (h:12<z-a∧a≤z∧z≤n∧n≤40):qBI TP 87 [(Value.slice (some ⟨b,0,none⟩) n m),(nat a),(nat z)] [⟨b,false,0,(qAd n (fun k=>u64 (cdU c k)))⟩] 2 (fun ns=>(Value.tuple #[(nat (a+(ns.getD 0 0)%(z-a))),(nat (ns.getD 1 0))])) (fun ns=>[some ⟨b,false,0,(qAd n (fun k=>u64 (cdU c k)))⟩]):=
 qAl mix Tryz.func87 rfl rfl 400 (.reg v00 (.reg (v5B z a) (.regn v1f (more (fun n1=>fun _=>(.reg (rg [.g,.g,(aN ((z-a)/4)),(aN (((z-a)/4)*1)),(aN (a+(((z-a)/4)*1))),.g]) (.reg (rg [.g,.g,(aN ((z-a)/4)),(aN (((z-a)/4)*2)),(aN (v2d a z)),.g]) (.reg (rg [.g,.g,(aN ((z-a)/4)),(aN (((z-a)/4)*3)),(aN (a+(((z-a)/4)*3))),.g]) (.reg (rg [.g,(aB (decide (8≤(z-a))))]) (.br (.reg (rg [.g,(aB (decide (50≤(z-a))))]) (.no (.regn (rg [.g,.g,.g,.g,(.call [(0,true),(1,false)] 2 0 (fun ns=>(nat (a+(g0 ns)%(z-a)))) (fun ns=>[none,some ⟨n1,true,0,(.lit [(nat (g1 ns))])⟩])),.g]) (m2 fun n2 n3=>(.reg (rg [v0H]) (.reg (rg [(aB (decide (n3=0))),.g]) (.br v6e (.reg (rg [(aB (decide (n3=12))),.g]) (.br v6e v6e))))))))) (.reg (rg [v0H]) v72))))))))))) [] [] rfl
  (Eq.mp (by kernel_rfl) (aI kV2 (aI (sK2 (aI (aT (@wi1 13 14  z a (show a≤z∧z-a≤9223372036854775807 from by omega))) kV1)) (fun(n1:Nat)=>aI kV1 (aI (sK2 (aI (aT (@wt1 17  (z-a) 4 (show 0<4∧(z-a)≤9223372036854775807 from by omega))) (aI (aT (@qCV TP 3 3 (.tmp 18) (.const (.int .i64 1))  ((z-a)/4) 1 (show((z-a)/4)*1≤9223372036854775807 from by omega))) (aI (aT (@wo1 16 19  a (((z-a)/4)*1) (show a+(((z-a)/4)*1)≤9223372036854775807 from by omega))) kV1)))) (aI (sK2 (aI (aT (@wt1 22  (z-a) 4 (show 0<4∧(z-a)≤9223372036854775807 from by omega))) (aI (aT (@wu1 23  ((z-a)/4) 2 (show((z-a)/4)*2≤9223372036854775807 from by omega))) (aI (aT (@wo1 21 24  a (((z-a)/4)*2) (show a+(((z-a)/4)*2)≤9223372036854775807 from by omega))) kV1)))) (aI (sK2 (aI (aT (@wt1 27  (z-a) 4 (show 0<4∧(z-a)≤9223372036854775807 from by omega))) (aI (aT (@qCV TP 3 3 (.tmp 28) (.const (.int .i64 3))  ((z-a)/4) 3 (show((z-a)/4)*3≤9223372036854775807 from by omega))) (aI (aT (@wo1 26 29  a (((z-a)/4)*3) (show a+(((z-a)/4)*3)≤9223372036854775807 from by omega))) kV1)))) (aI (sk (aI (aT (@ws1 31  (z-a) 8)) tV)) (aT (aI (fun(h1:(decide (8≤(z-a)))=true)=>have f1:=(oT h1);aI (sk (aI (aT (@qIs TP 3 3 (.tmp 33) (.const (.int .i64 50))  (z-a) 50)) tV)) ((fun(hp2:(decide (50≤(z-a)))=false)=>have f2:=(oF hp2);aT (aI hp2 (fun(n2 n3:Nat)=>aI (sK4 (aI (aT (qBI.dark [true,false] (qYh b n m c (a+(((z-a)/4)*1)) (v2d a z) (a+(((z-a)/4)*3)) n1 0 a z (show a≤a+(((z-a)/4)*1)∧a+(((z-a)/4)*1)<z∧a≤a+(((z-a)/4)*2)∧a+(((z-a)/4)*2)<z∧a≤a+(((z-a)/4)*3)∧a+(((z-a)/4)*3)<z∧z≤n∧n≤64∧0≤100 from by have f3:a≤a+n2%(z-a)∧a+n2%(z-a)<z:=(qOu _ (by omega));omega)))) kV1)) ((have f3:a≤a+n2%(z-a)∧a+n2%(z-a)<z:=(qOu _ (by omega));aI (v6d n1) (aI (aI (aT (@qES TP 3 3 (.tmp 49) (.const (.int .i64 0))  n3 0)) kV1) (aT (aI (fun(h3:(decide (n3=0))=true)=>have f4:=(oT h3);aI kV3 (aT (eX (fun(ns:List Nat)=>ns.length=2∧((vT #[(nat (a+n2%(z-a))),(int 1)]):Value)=(fun ns=>(jEv a ns z)) ns∧([some ⟨b,false,0,(v0k n c)⟩]:List (Option Blk))=(fun ns=>[some ⟨b,false,0,(v0k n c)⟩]) ns) [(a+n2%(z-a)-a),1] (aI v0W (aI ((show((vT #[(nat (a+n2%(z-a))),(int 1)]):Value)=(vT #[(nat (a+(a+n2%(z-a)-a)%(z-a))),(nat 1)]) from by rw[qOY (a:=a) (z:=z) (r:=a+n2%(z-a)) (by omega) (by omega)]<;>rfl)) (v66 b n c)))))) (fun(h3:(decide (n3=0))=false)=>have f4:=(oF h3);aI (aI (aT (@qES TP 3 3 (.tmp 49) (.const (.int .i64 12))  n3 12)) kV1) (aT (aI (fun(h4:(decide (n3=12))=true)=>have f5:=(oT h4);aI kV3 (aT (eX (fun(ns:List Nat)=>ns.length=2∧((vT #[(nat (a+n2%(z-a))),(int 2)]):Value)=(fun ns=>(jEv a ns z)) ns∧([some ⟨b,false,0,(v0k n c)⟩]:List (Option Blk))=(fun ns=>[some ⟨b,false,0,(v0k n c)⟩]) ns) [(a+n2%(z-a)-a),2] (aI v0W (aI ((show((vT #[(nat (a+n2%(z-a))),(int 2)]):Value)=(vT #[(nat (a+(a+n2%(z-a)-a)%(z-a))),(nat 2)]) from by rw[qOY (a:=a) (z:=z) (r:=a+n2%(z-a)) (by omega) (by omega)]<;>rfl)) (v66 b n c)))))) (fun(h4:(decide (n3=12))=false)=>have f5:=(oF h4);aI kV3 (aT (eX (fun(ns:List Nat)=>ns.length=2∧((vT #[(nat (a+n2%(z-a))),(int 0)]):Value)=(fun ns=>(jEv a ns z)) ns∧([some ⟨b,false,0,(v0k n c)⟩]:List (Option Blk))=(fun ns=>[some ⟨b,false,0,(v0k n c)⟩]) ns) [(a+n2%(z-a)-a),0] (aI v0W (aI ((show((vT #[(nat (a+n2%(z-a))),(int 0)]):Value)=(vT #[(nat (a+(a+n2%(z-a)-a)%(z-a))),(nat 0)]) from by rw[qOY (a:=a) (z:=z) (r:=a+n2%(z-a)) (by omega) (by omega)]<;>rfl)) (v66 b n c))))))))))))))))) (show(decide (50≤(z-a)))=false from by exact decide_eq_false (by omega)))) (fun(h1:(decide (8≤(z-a)))=false)=>have f1:=(oF h1);aI (v6d n1) (aI kV2 (aT (aI v01 (aI kV3 (aT (eX (fun(ns:List Nat)=>ns.length=2∧((vT #[(nat (v2d a z)),(int 1)]):Value)=(fun ns=>(jEv a ns z)) ns∧([some ⟨b,false,0,(v0k n c)⟩]:List (Option Blk))=(fun ns=>[some ⟨b,false,0,(v0k n c)⟩]) ns) [(a+(((z-a)/4)*2)-a),1] (aI v0W (aI ((show((vT #[(nat (a+(((z-a)/4)*2))),(int 1)]):Value)=(vT #[(nat (a+(a+(((z-a)/4)*2)-a)%(z-a))),(nat 1)]) from by rw[qOY (a:=a) (z:=z) (r:=a+(((z-a)/4)*2)) (by omega) (by omega)]<;>rfl)) (v66 b n c))))))))))))))))))))
def qHR (b:Nat) (n:Nat) (m:Nat) (c:Nat) (a:Nat) (z:Nat) (x1:Nat):St:=⟨[(0,.v (v0Q b n m)),(1,.v (nat a)),(2,.v (nat z)),(7,.v (nat x1)),(8,.v (int 0))],[(0,some ⟨b,false,0,(v0k n c)⟩)],1⟩
def qEE (b:Nat) (n:Nat) (m:Nat) (c:Nat) (a:Nat) (z:Nat) (x1:Nat):Prop:=(a+1≤x1)∧(x1≤z)
def qFb (b:Nat) (n:Nat) (m:Nat) (c:Nat) (a:Nat) (z:Nat) (x1:Nat):Nat:=z-x1
def qXQ (b n m c:Nat) (a z:Nat) (h:12<z-a∧a≤z∧z≤n∧n≤40):qBI TP 89 [(Value.slice (some ⟨b,0,none⟩) n m),(nat a),(nat z)] [⟨b,false,0,(qAd n (fun k=>u64 (cdU c k)))⟩] 1 (fun ns=>Value.bool (bG (ns.getD 0 0))) (fun ns=>[some ⟨b,false,0,(qAd n (fun k=>u64 (cdU c k)))⟩]):=
 qAl mix Tryz.func89 rfl rfl 400 (.reg (rg [.g]) (.reg (rg [.g,(aN (a+1)),.g]) (.reg (rg [.g]) (.unroll (.reg v00 (.yes (.inv [0,1,2,7,8] [0] 1 (qEE b n m c a z) (qHR b n m c a z) (qFb b n m c a z) (a+1:Nat) (fun(x1:Nat)=>(.reg (rg [.g,.g,(aB (decide (x1<z))),.g,(.opt .g),(.opt .g),(.opt (.as (ptr b (0+x1*1)))),(.opt (v1I x1)),(.opt .g),(.opt .g),(.opt (aN (x1-1))),(.opt (.as (ptr b (0+(x1-1)*1)))),(.opt (.ld 0 (.tab (x1-1) 0))),(.opt (.call [] 0 0 (fun _=>(vB (decide ((cdU c x1)<(cdU c (x1-1)))))) (fun _=>[]))),(.opt .g),.pk]) (.br (v0X x1) (.reg (rg [.g,.g,(aB (decide (x1=z)))]) (.br v0c (.reg (rg [.g,.g,(aN (z-a)),(aB (decide ((z-a)<50)))]) v6s))))))))))))) [] [] rfl
  (Eq.mp (by kernel_rfl) (aI kV1 (aI (sk (aI (aT (@wj1 11  a 1 (show a+1≤9223372036854775807 from by omega))) kV1)) (aI kV1 (aI kV2 (aT (aI v01 (aI (show(a+1≤(a+1))∧((a+1)≤z) from by exact⟨by omega,by omega⟩) (aI (@rfl St ((qHR b n m c a z) (a+1:Nat))) (fun(x1:Nat) (hx1:(qEE b n m c a z) x1)=>have B0:a+1≤x1:=hx1.1;have B1:x1≤z:=hx1.2;aI (sK2 (aI (aT (@wk1 17 18  x1 z)) (sk (aI (fun(hg:(sB (decide (x1<z)) true)=true)=>t2) (aI (fun(hg:(sB (decide (x1<z)) true)=true)=>t2) (aI (fun(hg:(sB (decide (x1<z)) true)=true)=>have f3:(x1<z):=(oT (qAr hg));(aI (aI hg (aI hg tV)) (@wm1 21 22 b 0 n m x1 (show x1<n from by omega)))) (aI (fun(hg:(sB (decide (x1<z)) true)=true)=>have f3:(x1<z):=(oT (qAr hg));(aI (aI hg tV) (aI (show x1<n from by omega) (@rfl Value (ptr b (0+x1*1)))))) (aI (fun(hg:(sB (decide (x1<z)) true)=true)=>t2) (aI (fun(hg:(sB (decide (x1<z)) true)=true)=>t2) (aI (fun(hg:(sB (decide (x1<z)) true)=true)=>have f3:(x1<z):=(oT (qAr hg));(aI (aI hg tV) (@wn1 26  x1 1 (show 1≤x1∧x1-1≤9223372036854775807 from by omega)))) (aI (fun(hg:(sB (decide (x1<z)) true)=true)=>have f3:(x1<z):=(oT (qAr hg));(aI (aI hg (aI hg tV)) (@wm1 25 27 b 0 n m (x1-1) (show x1-1<n from by omega)))) (aI (fun(hg:(sB (decide (x1<z)) true)=true)=>have f3:(x1<z):=(oT (qAr hg));(aI (aI hg tV) (aI (show x1-1<n from by omega) (@rfl Value (ptr b (0+(x1-1)*1)))))) (aI (fun(hg:(sB (decide (x1<z)) true)=true)=>(aI (aI hg (aI hg tV)) (qCm (cdU c x1) (cdU c (x1-1))))) (aI (fun(hg:(sB (decide (x1<z)) true)=true)=>(aI (aI hg tV) tV)) (aI (aT (aI (fun(hp:(decide (x1<z))=true)=>(qBz hp)) (fun(_:(decide (x1<z))=false)=>tV))) tV))))))))))))))) (aT (aI (fun(h1:(qA0 (decide (x1<z)) (!(decide ((cdU c x1)<(cdU c (x1-1))))) false)=true)=>have f3:(x1<z):=(oT (qB6 h1));have f4:¬((cdU c x1)<(cdU c (x1-1))):=(oF (qBr (qCr h1)));aI (sk (aI (aT (@wj1 33  x1 1 (show x1+1≤9223372036854775807 from by omega))) kV1)) ((rnd (qEE b n m c a z) (qHR b n m c a z) (qFb b n m c a z) x1 (x1+1:Nat) (show((a+1≤(x1+1))∧((x1+1)≤z))∧(z-(x1+1))<(z-x1) from by exact⟨⟨by omega,by omega⟩,by omega⟩)))) (fun(h1:(qA0 (decide (x1<z)) (!(decide ((cdU c x1)<(cdU c (x1-1))))) false)=false)=>have f3:(¬(x1<z))∨(((cdU c x1)<(cdU c (x1-1)))):=(Or.imp (fun h=>(oF h)) (fun h=>(oT (qAQ h))) (qCI h1));aI (sK2 (aI (aT (@qES TP 3 3 (.tmp 35) (.tmp 36)  x1 z)) tV)) (aT (aI (fun(h2:(decide (x1=z))=true)=>have f4:=(oT h2);aI kV1 (aT (eX (fun(ns:List Nat)=>ns.length=1∧((vB true):Value)=(fun ns=>vB (bG (g0 ns))) ns∧([some ⟨b,false,0,(v0k n c)⟩]:List (Option Blk))=(fun ns=>[some ⟨b,false,0,(v0k n c)⟩]) ns) [1] (aI v0R (aI (@rfl Value (vB (bG 1))) (v66 b n c)))))) (fun(h2:(decide (x1=z))=false)=>have f4:=(oF h2);aI (sK2 (aI (aT (@wi1 38 39  z a (show a≤z∧z-a≤9223372036854775807 from by omega))) (aI (aT (@qAC TP 3 3 (.tmp 40) (.const (.int .i64 50))  (z-a) 50)) tV))) ((fun(hp3:(decide ((z-a)<50))=true)=>have f5:=(oT hp3);aT (aI hp3 (aI kV1 (aT (eX (fun(ns:List Nat)=>ns.length=1∧(v1E:Value)=(fun ns=>vB (bG (g0 ns))) ns∧([some ⟨b,false,0,(v0k n c)⟩]:List (Option Blk))=(fun ns=>[some ⟨b,false,0,(v0k n c)⟩]) ns) [0] (aI v0R (aI (@rfl Value (vB (bG 0))) (v66 b n c)))))))) (show(decide ((z-a)<50))=true from by exact decide_eq_true (by omega)))))))))))))))))))
abbrev qC2 (a b c:Nat):=qBC (qBC a b (cdU a c)) c (cdU a b)
abbrev qBV (a:Nat×Nat):=decide (a.1≤a.2)
abbrev qBR (a b:Nat):=ptr a (0+b*1)
abbrev jCp (a b c d:Nat):=qAY a u64 (cdU (qBC b c (cdU b d))) d (cdU b c) (cdU (qC2 b c d)) (qDe (qBC b c (cdU b d)) d (cdU b c))
abbrev jCt (a b c d:Nat):=qAY a u64 (cdU b) c (cdU b d) (cdU (qBC b c (cdU b d))) (qDe b c (cdU b d))
abbrev qS9 (a b c:Nat):=decide ((cdU a b)<(cdU a c))
abbrev jDM (a b c d:Nat):=qBC (qBC (qC2 a b c) d (cdU (qC2 a b c) b)) b (cdU (qC2 a b c) d)
abbrev qY8 (a b c:Nat) (d:Nat×Nat):=qBC (qC2 a b c) d.1 (cdU (qC2 a b c) d.2)
abbrev qXf (a b c:Nat):=Value.slice (some ⟨a,0,none⟩) b c
abbrev jCm (a b c d:Nat):=decide ((cdU (qC2 a b c) d)<(cdU (qC2 a b c) b))
def v1k(n:Nat)(x1:Nat×Nat×Nat):=qAd n (fun k=>u64 (cdU x1.2.2 k))
def qHZ (b:Nat) (n:Nat) (m:Nat) (c:Nat) (a:Nat) (z:Nat) (x1:Nat×Nat×Nat):St:=⟨[(0,.v (qXf b n m)),(6,.v (nat x1.1)),(7,.v (nat x1.2.1))],[(0,some ⟨b,true,0,(v1k n x1)⟩)],1⟩
def qEy (b:Nat) (n:Nat) (m:Nat) (c:Nat) (a:Nat) (z:Nat) (x1:Nat×Nat×Nat):Prop:=(a≤x1.1)∧(x1.2.1<z)∧(a≤x1.2.1)
def qE4 (b:Nat) (n:Nat) (m:Nat) (c:Nat) (a:Nat) (z:Nat) (x1:Nat×Nat×Nat):Nat:=x1.2.1-x1.1
def qW6 (b n m c:Nat) (a z:Nat) (h:12<z-a∧a≤z∧z≤n∧n≤40):qBI TP 88 [(Value.slice (some ⟨b,0,none⟩) n m),(nat a),(nat z)] [⟨b,true,0,(qAd n (fun k=>u64 (cdU c k)))⟩] 1 (fun ns=>(Value.tuple #[])) (fun ns=>[some ⟨b,true,0,(qAd n (fun k=>u64 (cdU (ns.getD 0 0) k)))⟩]):=
 qAl mix Tryz.func88 rfl rfl 400 (.reg v00 (.reg (rg [.g,(aN (z-1)),.g]) (.inv [0,6,7] [0] 1 (qEy b n m c a z) (qHZ b n m c a z) (qE4 b n m c a z) ((a,z-1,c):Nat×Nat×Nat) (fun(x1:Nat×Nat×Nat)=>(.reg (rg [.g,.g,(aB (decide (x1.1<x1.2.1)))]) (.br (.reg (rg [.g,.g,.g,.g,.g,.g,(.as (qBR b x1.2.1)),(.ld 0 (.tab x1.2.1 0)),.g,.g,(.as (qBR b x1.1)),(.ld 0 (.tab x1.1 0)),(.as (qBR b x1.1)),(.stc 0 (.tab x1.1 0) (qAd n (fun k=>u64 (cdU (qBC x1.2.2 x1.1 (cdU x1.2.2 x1.2.1)) k)))),(.as (qBR b x1.2.1)),(.stc 0 (.tab x1.2.1 0) (qAd n (fun k=>u64 (cdU (qC2 x1.2.2 x1.1 x1.2.1) k))))]) (.reg (rg [.g,(aN (x1.1+1)),.g]) (.reg (rg [.g,(aN (x1.2.1-1)),.g]) .done))) .done)))))) [] [] rfl
  (Eq.mp (by kernel_rfl) (aI kV2 (aI (sk (aI (aT (@wn1 9  z 1 (show 1≤z∧z-1≤9223372036854775807 from by omega))) kV1)) (aI (show(a≤a)∧((z-1)<z)∧(a≤(z-1)) from by exact⟨by omega,by omega,by omega⟩) (aI (@rfl St ((qHZ b n m c a z) ((a,z-1,c):Nat×Nat×Nat))) (fun(x1:Nat×Nat×Nat) (hx1:(qEy b n m c a z) x1)=>have B0:a≤x1.1:=hx1.1;have B1:x1.2.1<z:=hx1.2.1;have B2:a≤x1.2.1:=hx1.2.2;aI (sK2 (aI (aT (@wk1 11 12  x1.1 x1.2.1)) tV)) (aT (aI (fun(h1:(decide (x1.1<x1.2.1))=true)=>have f4:=(oT h1);aI (sK4 (sK2 (aI (aT (@wm1 18 19 b 0 n m x1.2.1 (show x1.2.1<n from by omega))) (aI (aT (aI (show x1.2.1<n from by omega) (@rfl Value (qBR b x1.2.1)))) (sK2 (aI (aT (@wm1 22 23 b 0 n m x1.1 (show x1.1<n from by omega))) (aI (aT (aI (show x1.1<n from by omega) (@rfl Value (qBR b x1.1)))) (aI (aT (@wm1 14 15 b 0 n m x1.1 (show x1.1<n from by omega))) (aI (aT (aI (show x1.1<n from by omega) (aI (@rfl Value (qBR b x1.1)) (jCt n x1.2.2 x1.1 x1.2.1)))) (aI (aT (@wm1 16 17 b 0 n m x1.2.1 (show x1.2.1<n from by omega))) (aI (aT (aI (show x1.2.1<n from by omega) (aI (@rfl Value (qBR b x1.2.1)) (jCp n x1.2.2 x1.1 x1.2.1)))) tV))))))))))) (aI (sk (aI (aT (@wj1 28  x1.1 1 (show x1.1+1≤9223372036854775807 from by omega))) kV1)) (aI (sk (aI (aT (@wn1 30  x1.2.1 1 (show 1≤x1.2.1∧x1.2.1-1≤9223372036854775807 from by omega))) kV1)) ((rnd (qEy b n m c a z) (qHZ b n m c a z) (qE4 b n m c a z) x1 ((x1.1+1,x1.2.1-1,(qC2 x1.2.2 x1.1 x1.2.1)):Nat×Nat×Nat) (show((a≤(x1.1+1))∧((x1.2.1-1)<z)∧(a≤(x1.2.1-1)))∧((x1.2.1-1)-(x1.1+1))<(x1.2.1-x1.1) from by exact⟨⟨by omega,by omega,by omega⟩,by omega⟩)))))) (fun(h1:(decide (x1.1<x1.2.1))=false)=>have f4:=(oF h1);aT (eX (fun(ns:List Nat)=>ns.length=1∧((vT #[]):Value)=(fun ns=>(vT #[])) ns∧([some ⟨b,true,0,(v1k n x1)⟩]:List (Option Blk))=(fun ns=>[some ⟨b,true,0,(qAd n (fun k=>u64 (cdU (g0 ns) k)))⟩]) ns) [x1.2.2] (aI v0R (aI v10 (@rfl (List (Option Blk)) [some ⟨b,true,0,(v1k n x1)⟩])))))))))))))
def qIc (b:Nat) (n:Nat) (m:Nat) (c:Nat) (a:Nat) (z:Nat) (p:Nat) (x1:Nat×Nat×Nat):St:=⟨[(0,.v (qXf b n m)),(1,.v (nat a)),(9,.v (nat x1.1)),(10,.v (nat x1.2.1))],[(0,some ⟨b,true,0,(v1k n x1)⟩)],1⟩
def qET (b:Nat) (n:Nat) (m:Nat) (c:Nat) (a:Nat) (z:Nat) (p:Nat) (x1:Nat×Nat×Nat):Prop:=(a+1≤x1.1)∧(x1.1≤z)∧(a≤x1.2.1)∧(x1.2.1<z)∧(x1.1≤x1.2.1+2)
def qFk (b:Nat) (n:Nat) (m:Nat) (c:Nat) (a:Nat) (z:Nat) (p:Nat) (x1:Nat×Nat×Nat):Nat:=x1.2.1+2-x1.1
def qIh (b:Nat) (n:Nat) (m:Nat) (c:Nat) (a:Nat) (z:Nat) (p:Nat) (x1:Nat×Nat×Nat) (x2:Nat×Nat):St:=⟨[(0,.v (qXf b n m)),(1,.v (nat a)),(9,.v (nat x2.1)),(10,.v (nat x2.2))],[(0,some ⟨b,true,0,(v1k n x1)⟩)],1⟩
def qEW (b:Nat) (n:Nat) (m:Nat) (c:Nat) (a:Nat) (z:Nat) (p:Nat) (x1:Nat×Nat×Nat) (x2:Nat×Nat):Prop:=(a+1≤x2.1)∧(x2.1≤z)∧(a≤x2.2)∧(x2.2<z)∧(x2.1≤x2.2+2)∧(x1.1≤x2.1)∧(x2.2≤x1.2.1)
def qE2 (b:Nat) (n:Nat) (m:Nat) (c:Nat) (a:Nat) (z:Nat) (p:Nat) (x1:Nat×Nat×Nat) (x2:Nat×Nat):Nat:=x2.2+2-x2.1
def qIf (b:Nat) (n:Nat) (m:Nat) (c:Nat) (a:Nat) (z:Nat) (p:Nat) (x1:Nat×Nat×Nat) (x2:Nat×Nat) (x3:Nat×Nat):St:=⟨[(0,.v (qXf b n m)),(1,.v (nat a)),(9,.v (nat x3.1)),(10,.v (nat x3.2))],[(0,some ⟨b,true,0,(v1k n x1)⟩)],1⟩
def qEY (b:Nat) (n:Nat) (m:Nat) (c:Nat) (a:Nat) (z:Nat) (p:Nat) (x1:Nat×Nat×Nat) (x2:Nat×Nat) (x3:Nat×Nat):Prop:=(a+1≤x3.1)∧(x3.1≤z)∧(a≤x3.2)∧(x3.2<z)∧(x3.1≤x3.2+2)∧(x1.1≤x3.1)∧(x3.2≤x1.2.1)
def qEZ (b:Nat) (n:Nat) (m:Nat) (c:Nat) (a:Nat) (z:Nat) (p:Nat) (x1:Nat×Nat×Nat) (x2:Nat×Nat) (x3:Nat×Nat):Nat:=x3.2+2-x3.1
def v0M(b p a n c:Nat):=rg [.g,.g,.g,.g,.g,.g,(.as (qBR b p)),(.ld 0 (.tab p 0)),.g,.g,(.as (qBR b a)),(.ld 0 (.tab a 0)),(.as (qBR b a)),(.stc 0 (.tab a 0) (qAd n (fun k=>u64 (cdU (qBC c a (cdU c p)) k)))),(.as (qBR b p)),(.stc 0 (.tab p 0) (qAd n (fun k=>u64 (cdU (qC2 c a p) k))))]
def v1c(b a:Nat):=@rfl Value (qBR b a)
def v2R(b a:Nat):OpH:=.as (qBR b a)
def v57(b p:Nat):=@rfl Value (qBR b p)
def v6J(a:Nat):OpH:=.opt (v1R a)
def v6P(b a:Nat):OpH:=.opt (v2R b a)
def qWD (b n m c:Nat) (a z p:Nat) (h:12<z-a∧a≤p∧p<z∧z≤n∧n≤40):qBI TP 91 [(Value.slice (some ⟨b,0,none⟩) n m),(nat a),(nat z),(nat p)] [⟨b,true,0,(qAd n (fun k=>u64 (cdU c k)))⟩] 2 (fun ns=>(nat (a+1+(ns.getD 1 0)%(z+1-(a+1))))) (fun ns=>[some ⟨b,true,0,(qAd n (fun k=>u64 (cdU (ns.getD 0 0) k)))⟩]):=
 qAl mix Tryz.func91 rfl rfl 400 (.reg (rg [.g]) (.reg (v0M b p a n c) (.reg (rg [.g,(aN (a+1)),.g,(aN (z-1)),.g,.g]) (.inv [0,1,9,10] [0] 1 (qET b n m c a z p) (qIc b n m c a z p) (qFk b n m c a z p) ((a+1,z-1,(qC2 c a p)):Nat×Nat×Nat) (fun(x1:Nat×Nat×Nat)=>(.inv [0,1,9,10] [0] 1 (qEW b n m c a z p x1) (qIh b n m c a z p x1) (qE2 b n m c a z p x1) ((x1.1,x1.2.1):Nat×Nat) (fun(x2:Nat×Nat)=>(.reg (rg [.g,.g,(aB (qBV x2)),.g,(.opt .g),(.opt .g),(v6P b a),(v6J a),(.opt .g),(.opt .g),(.opt (.as (qBR b x2.1))),(.opt (v5n x2)),(.opt (.call [] 0 0 (fun _=>(vB (qS9 x1.2.2 a x2.1))) (fun _=>[]))),(.opt .g),.pk]) (.br (.reg (rg [.g,(aN (x2.1+1)),.g]) .done) (.inv [0,1,9,10] [0] 1 (qEY b n m c a z p x1 x2) (qIf b n m c a z p x1 x2) (qEZ b n m c a z p x1 x2) ((x2.1,x2.2):Nat×Nat) (fun(x3:Nat×Nat)=>(.reg (rg [.g,.g,(aB (qBV x3)),.g,(.opt .g),(.opt .g),(v6P b a),(v6J a),(.opt .g),(.opt .g),(.opt (.as (qBR b x3.2))),(.opt (.ld 0 (.tab x3.2 0))),(.opt (.call [] 0 0 (fun _=>(vB (qS9 x1.2.2 a x3.2))) (fun _=>[]))),.pk]) (.br (.reg (rg [.g,(aN (x3.2-1)),.g]) .done) (.reg (rg [.g,.g,(aB (decide (x3.2<x3.1)))]) (.br v5T (.reg (rg [.g,.g,.g,.g,.g,.g,(.as (qBR b x3.2)),(.ld 0 (.tab x3.2 0)),.g,.g,(.as (qBR b x3.1)),(.ld 0 (.tab x3.1 0)),(.as (qBR b x3.1)),(.stc 0 (.tab x3.1 0) (qAd n (fun k=>u64 (cdU (qBC x1.2.2 x3.1 (cdU x1.2.2 x3.2)) k)))),(.as (qBR b x3.2)),(.stc 0 (.tab x3.2 0) (qAd n (fun k=>u64 (cdU (qC2 x1.2.2 x3.1 x3.2) k))))]) (.reg (rg [.g,(aN (x3.1+1)),.g]) (.reg (rg [.g,(aN (x3.2-1)),.g]) .done)))))))))))))))))) [] [] rfl
  (Eq.mp (by kernel_rfl) (aI kV1 (aI (sK4 (sK2 (aI (aT (@wm1 15 16 b 0 n m p (show p<n from by omega))) (aI (aT (aI (show p<n from by omega) (v57 b p))) (sK2 (aI (aT (@wm1 19 20 b 0 n m a (show a<n from by omega))) (aI (aT (aI (show a<n from by omega) (v1c b a))) (aI (aT (@wm1 11 12 b 0 n m a (show a<n from by omega))) (aI (aT (aI (show a<n from by omega) (aI (v1c b a) (jCt n c a p)))) (aI (aT (@wm1 13 14 b 0 n m p (show p<n from by omega))) (aI (aT (aI (show p<n from by omega) (aI (v57 b p) (jCp n c a p)))) tV))))))))))) (aI (sk (aI (aT (@wj1 25  a 1 (show a+1≤9223372036854775807 from by omega))) (sk (aI (aT (@wn1 27  z 1 (show 1≤z∧z-1≤9223372036854775807 from by omega))) kV2)))) (aI (show(a+1≤(a+1))∧((a+1)≤z)∧(a≤(z-1))∧((z-1)<z)∧((a+1)≤(z-1)+2) from by exact⟨by omega,by omega,by omega,by omega,by omega⟩) (aI (@rfl St ((qIc b n m c a z p) ((a+1,z-1,(qC2 c a p)):Nat×Nat×Nat))) (fun(x1:Nat×Nat×Nat) (hx1:(qET b n m c a z p) x1)=>have B0:a+1≤x1.1:=hx1.1;have B1:x1.1≤z:=hx1.2.1;have B2:a≤x1.2.1:=hx1.2.2.1;have B3:x1.2.1<z:=hx1.2.2.2.1;have B4:x1.1≤x1.2.1+2:=hx1.2.2.2.2;aI (show(a+1≤x1.1)∧(x1.1≤z)∧(a≤x1.2.1)∧(x1.2.1<z)∧(x1.1≤x1.2.1+2)∧(x1.1≤x1.1)∧(x1.2.1≤x1.2.1) from by exact⟨by omega,by omega,by omega,by omega,by omega,by omega,by omega⟩) (aI (@rfl St ((qIh b n m c a z p x1) ((x1.1,x1.2.1):Nat×Nat))) (fun(x2:Nat×Nat) (hx2:(qEW b n m c a z p x1) x2)=>have C0:a+1≤x2.1:=hx2.1;have C1:x2.1≤z:=hx2.2.1;have C2:a≤x2.2:=hx2.2.2.1;have C3:x2.2<z:=hx2.2.2.2.1;have C4:x2.1≤x2.2+2:=hx2.2.2.2.2.1;have C5:x1.1≤x2.1:=hx2.2.2.2.2.2.1;have C6:x2.2≤x1.2.1:=hx2.2.2.2.2.2.2;aI (sK2 (aI (aT (@wv1 29 30  x2.1 x2.2)) (sk (aI (fun(hg:(sB (qBV x2) true)=true)=>t2) (aI (fun(hg:(sB (qBV x2) true)=true)=>t2) (aI (fun(hg:(sB (qBV x2) true)=true)=>have f13:(x2.1≤x2.2):=(oT (qAr hg));(aI (aI hg (aI hg tV)) (@wm1 33 34 b 0 n m a (show a<n from by omega)))) (aI (fun(hg:(sB (qBV x2) true)=true)=>have f13:(x2.1≤x2.2):=(oT (qAr hg));(aI (aI hg tV) (aI (show a<n from by omega) (v1c b a)))) (aI (fun(hg:(sB (qBV x2) true)=true)=>t2) (aI (fun(hg:(sB (qBV x2) true)=true)=>t2) (aI (fun(hg:(sB (qBV x2) true)=true)=>have f13:(x2.1≤x2.2):=(oT (qAr hg));(aI (aI hg (aI hg tV)) (@wm1 37 38 b 0 n m x2.1 (show x2.1<n from by omega)))) (aI (fun(hg:(sB (qBV x2) true)=true)=>have f13:(x2.1≤x2.2):=(oT (qAr hg));(aI (aI hg tV) (aI (show x2.1<n from by omega) (@rfl Value (qBR b x2.1))))) (aI (fun(hg:(sB (qBV x2) true)=true)=>(aI (aI hg (aI hg tV)) (qCm (cdU x1.2.2 a) (cdU x1.2.2 x2.1)))) (aI (fun(hg:(sB (qBV x2) true)=true)=>(aI (aI hg tV) tV)) (aI (aT (aI (fun(hp:(qBV x2)=true)=>(qBz hp)) (fun(_:(qBV x2)=false)=>tV))) tV)))))))))))))) (aT (aI (fun(h1:(qA0 (qBV x2) (!(qS9 x1.2.2 a x2.1)) false)=true)=>have f13:(x2.1≤x2.2):=(oT (qB6 h1));have f14:¬((cdU x1.2.2 a)<(cdU x1.2.2 x2.1)):=(oF (qBr (qCr h1)));aI (sk (aI (aT (@wj1 44  x2.1 1 (show x2.1+1≤9223372036854775807 from by omega))) kV1)) ((rnd (qEW b n m c a z p x1) (qIh b n m c a z p x1) (qE2 b n m c a z p x1) x2 ((x2.1+1,x2.2):Nat×Nat) (show((a+1≤(x2.1+1))∧((x2.1+1)≤z)∧(a≤x2.2)∧(x2.2<z)∧((x2.1+1)≤x2.2+2)∧(x1.1≤(x2.1+1))∧(x2.2≤x1.2.1))∧(x2.2+2-(x2.1+1))<(x2.2+2-x2.1) from by exact⟨⟨by omega,by omega,by omega,by omega,by omega,by omega,by omega⟩,by omega⟩)))) (fun(h1:(qA0 (qBV x2) (!(qS9 x1.2.2 a x2.1)) false)=false)=>have f13:(¬(x2.1≤x2.2))∨(((cdU x1.2.2 a)<(cdU x1.2.2 x2.1))):=(Or.imp (fun h=>(oF h)) (fun h=>(oT (qAQ h))) (qCI h1));aI (show(a+1≤x2.1)∧(x2.1≤z)∧(a≤x2.2)∧(x2.2<z)∧(x2.1≤x2.2+2)∧(x1.1≤x2.1)∧(x2.2≤x1.2.1) from by exact⟨by omega,by omega,by omega,by omega,by omega,by omega,by omega⟩) (aI (@rfl St ((qIf b n m c a z p x1 x2) ((x2.1,x2.2):Nat×Nat))) (fun(x3:Nat×Nat) (hx3:(qEY b n m c a z p x1 x2) x3)=>have D0:a+1≤x3.1:=hx3.1;have D1:x3.1≤z:=hx3.2.1;have D2:a≤x3.2:=hx3.2.2.1;have D3:x3.2<z:=hx3.2.2.2.1;have D4:x3.1≤x3.2+2:=hx3.2.2.2.2.1;have D5:x1.1≤x3.1:=hx3.2.2.2.2.2.1;have D6:x3.2≤x1.2.1:=hx3.2.2.2.2.2.2;aI (sK2 (aI (aT (@wv1 46 47  x3.1 x3.2)) (sk (aI (fun(hg:(sB (qBV x3) true)=true)=>t2) (aI (fun(hg:(sB (qBV x3) true)=true)=>t2) (aI (fun(hg:(sB (qBV x3) true)=true)=>have f21:(x3.1≤x3.2):=(oT (qAr hg));(aI (aI hg (aI hg tV)) (@wm1 50 51 b 0 n m a (show a<n from by omega)))) (aI (fun(hg:(sB (qBV x3) true)=true)=>have f21:(x3.1≤x3.2):=(oT (qAr hg));(aI (aI hg tV) (aI (show a<n from by omega) (v1c b a)))) (aI (fun(hg:(sB (qBV x3) true)=true)=>t2) (aI (fun(hg:(sB (qBV x3) true)=true)=>t2) (aI (fun(hg:(sB (qBV x3) true)=true)=>have f21:(x3.1≤x3.2):=(oT (qAr hg));(aI (aI hg (aI hg tV)) (@wm1 54 55 b 0 n m x3.2 (show x3.2<n from by omega)))) (aI (fun(hg:(sB (qBV x3) true)=true)=>have f21:(x3.1≤x3.2):=(oT (qAr hg));(aI (aI hg tV) (aI (show x3.2<n from by omega) (@rfl Value (qBR b x3.2))))) (aI (fun(hg:(sB (qBV x3) true)=true)=>(aI (aI hg (aI hg tV)) (qCm (cdU x1.2.2 a) (cdU x1.2.2 x3.2)))) (aI (aT (aI (fun(hp:(qBV x3)=true)=>(qBz hp)) (fun(_:(qBV x3)=false)=>tV))) tV))))))))))))) (aT (aI (fun(h2:(qA0 (qBV x3) (qS9 x1.2.2 a x3.2) false)=true)=>have f21:(x3.1≤x3.2):=(oT (qB6 h2));have f22:((cdU x1.2.2 a)<(cdU x1.2.2 x3.2)):=(oT (qCr h2));aI (sk (aI (aT (@wn1 60  x3.2 1 (show 1≤x3.2∧x3.2-1≤9223372036854775807 from by omega))) kV1)) ((rnd (qEY b n m c a z p x1 x2) (qIf b n m c a z p x1 x2) (qEZ b n m c a z p x1 x2) x3 ((x3.1,x3.2-1):Nat×Nat) (show((a+1≤x3.1)∧(x3.1≤z)∧(a≤(x3.2-1))∧((x3.2-1)<z)∧(x3.1≤(x3.2-1)+2)∧(x1.1≤x3.1)∧((x3.2-1)≤x1.2.1))∧((x3.2-1)+2-x3.1)<(x3.2+2-x3.1) from by exact⟨⟨by omega,by omega,by omega,by omega,by omega,by omega,by omega⟩,by omega⟩)))) (fun(h2:(qA0 (qBV x3) (qS9 x1.2.2 a x3.2) false)=false)=>have f21:(¬(x3.1≤x3.2))∨(¬((cdU x1.2.2 a)<(cdU x1.2.2 x3.2))):=(Or.imp (fun h=>(oF h)) (fun h=>(oF h)) (qCI h2));aI (sK2 (aI (aT (@wl1 62 63  x3.1 x3.2)) tV)) (aT (aI (fun(h3:(decide (x3.2<x3.1))=true)=>have f22:=(oT h3);aI kV2 (aT (eX (fun(ns:List Nat)=>ns.length=2∧((nat x3.1):Value)=(fun ns=>(nat (a+1+(g1 ns)%(z+1-(a+1))))) ns∧([some ⟨b,true,0,(v1k n x1)⟩]:List (Option Blk))=(fun ns=>[some ⟨b,true,0,(qAd n (fun k=>u64 (cdU (g0 ns) k)))⟩]) ns) [x1.2.2,(x3.1-(a+1))] (aI v0W (aI ((show((nat x3.1):Value)=(nat (a+1+(x3.1-(a+1))%(z+1-(a+1)))) from by exact congrArg nat (qOY (a:=a+1) (z:=z+1) (r:=x3.1) (by omega) (by omega)).symm)) (@rfl (List (Option Blk)) [some ⟨b,true,0,(v1k n x1)⟩])))))) (fun(h3:(decide (x3.2<x3.1))=false)=>have f22:=(oF h3);aI (sK4 (sK2 (aI (aT (@wm1 69 70 b 0 n m x3.2 (show x3.2<n from by omega))) (aI (aT (aI (show x3.2<n from by omega) (@rfl Value (qBR b x3.2)))) (sK2 (aI (aT (@wm1 73 74 b 0 n m x3.1 (show x3.1<n from by omega))) (aI (aT (aI (show x3.1<n from by omega) (@rfl Value (qBR b x3.1)))) (aI (aT (@wm1 65 66 b 0 n m x3.1 (show x3.1<n from by omega))) (aI (aT (aI (show x3.1<n from by omega) (aI (@rfl Value (qBR b x3.1)) (jCt n x1.2.2 x3.1 x3.2)))) (aI (aT (@wm1 67 68 b 0 n m x3.2 (show x3.2<n from by omega))) (aI (aT (aI (show x3.2<n from by omega) (aI (@rfl Value (qBR b x3.2)) (jCp n x1.2.2 x3.1 x3.2)))) tV))))))))))) (aI (sk (aI (aT (@wj1 79  x3.1 1 (show x3.1+1≤9223372036854775807 from by omega))) kV1)) (aI (sk (aI (aT (@wn1 81  x3.2 1 (show 1≤x3.2∧x3.2-1≤9223372036854775807 from by omega))) kV1)) ((rnd (qET b n m c a z p) (qIc b n m c a z p) (qFk b n m c a z p) x1 ((x3.1+1,x3.2-1,(qC2 x1.2.2 x3.1 x3.2)):Nat×Nat×Nat) (show((a+1≤(x3.1+1))∧((x3.1+1)≤z)∧(a≤(x3.2-1))∧((x3.2-1)<z)∧((x3.1+1)≤(x3.2-1)+2))∧((x3.2-1)+2-(x3.1+1))<(x1.2.1+2-x1.1) from by exact⟨⟨by omega,by omega,by omega,by omega,by omega⟩,by omega⟩)))))))))))))))))))))))))
def qH7 (b:Nat) (n:Nat) (m:Nat) (c:Nat) (a:Nat) (z:Nat) (p:Nat) (x1:Nat×Nat):St:=⟨[(0,.v (qXf b n m)),(1,.v (nat a)),(10,.v (nat x1.1)),(11,.v (nat x1.2))],[(0,some ⟨b,true,0,(qAd n (fun k=>u64 (cdU (qC2 c a p) k)))⟩)],1⟩
def qEK (b:Nat) (n:Nat) (m:Nat) (c:Nat) (a:Nat) (z:Nat) (p:Nat) (x1:Nat×Nat):Prop:=(a+1≤x1.1)∧(x1.1≤z)∧(a≤x1.2)∧(x1.2<z)∧(x1.1≤x1.2+2)
def qE8 (b:Nat) (n:Nat) (m:Nat) (c:Nat) (a:Nat) (z:Nat) (p:Nat) (x1:Nat×Nat):Nat:=x1.2+2-x1.1
def qHX (b:Nat) (n:Nat) (m:Nat) (c:Nat) (a:Nat) (z:Nat) (p:Nat) (x1:Nat×Nat) (x2:Nat×Nat):St:=⟨[(0,.v (qXf b n m)),(1,.v (nat a)),(10,.v (nat x2.1)),(11,.v (nat x2.2))],[(0,some ⟨b,true,0,(qAd n (fun k=>u64 (cdU (qC2 c a p) k)))⟩)],1⟩
def qED (b:Nat) (n:Nat) (m:Nat) (c:Nat) (a:Nat) (z:Nat) (p:Nat) (x1:Nat×Nat) (x2:Nat×Nat):Prop:=(a+1≤x2.1)∧(x2.1≤z)∧(a≤x2.2)∧(x2.2<z)∧(x2.1≤x2.2+2)
def qFl (b:Nat) (n:Nat) (m:Nat) (c:Nat) (a:Nat) (z:Nat) (p:Nat) (x1:Nat×Nat) (x2:Nat×Nat):Nat:=x2.2+2-x2.1
def v1B(n:Nat)(x3:Nat×Nat×Nat):=qAd n (fun k=>u64 (cdU x3.2.2 k))
def qIn (b:Nat) (n:Nat) (m:Nat) (c:Nat) (a:Nat) (z:Nat) (p:Nat) (x1:Nat×Nat) (x2:Nat×Nat) (x3:Nat×Nat×Nat):St:=⟨[(0,.v (qXf b n m)),(1,.v (nat a)),(10,.v (nat x3.1)),(11,.v (nat x3.2.1))],[(0,some ⟨b,true,0,(v1B n x3)⟩)],1⟩
def qEQ (b:Nat) (n:Nat) (m:Nat) (c:Nat) (a:Nat) (z:Nat) (p:Nat) (x1:Nat×Nat) (x2:Nat×Nat) (x3:Nat×Nat×Nat):Prop:=(a+1≤x3.1)∧(x3.1≤z)∧(a≤x3.2.1)∧(x3.2.1<z)∧(x3.1≤x3.2.1+2)
def qE3 (b:Nat) (n:Nat) (m:Nat) (c:Nat) (a:Nat) (z:Nat) (p:Nat) (x1:Nat×Nat) (x2:Nat×Nat) (x3:Nat×Nat×Nat):Nat:=x3.2.1+2-x3.1
def qH6 (b:Nat) (n:Nat) (m:Nat) (c:Nat) (a:Nat) (z:Nat) (p:Nat) (x1:Nat×Nat) (x2:Nat×Nat) (x3:Nat×Nat×Nat) (x4:Nat×Nat):St:=⟨[(0,.v (qXf b n m)),(1,.v (nat a)),(10,.v (nat x4.1)),(11,.v (nat x4.2))],[(0,some ⟨b,true,0,(v1B n x3)⟩)],1⟩
def qEH (b:Nat) (n:Nat) (m:Nat) (c:Nat) (a:Nat) (z:Nat) (p:Nat) (x1:Nat×Nat) (x2:Nat×Nat) (x3:Nat×Nat×Nat) (x4:Nat×Nat):Prop:=(a+1≤x4.1)∧(x4.1≤z)∧(a≤x4.2)∧(x4.2<z)∧(x4.1≤x4.2+2)∧(x3.1≤x4.1)∧(x4.2≤x3.2.1)
def qFh (b:Nat) (n:Nat) (m:Nat) (c:Nat) (a:Nat) (z:Nat) (p:Nat) (x1:Nat×Nat) (x2:Nat×Nat) (x3:Nat×Nat×Nat) (x4:Nat×Nat):Nat:=x4.2+2-x4.1
def qIg (b:Nat) (n:Nat) (m:Nat) (c:Nat) (a:Nat) (z:Nat) (p:Nat) (x1:Nat×Nat) (x2:Nat×Nat) (x3:Nat×Nat×Nat) (x4:Nat×Nat) (x5:Nat×Nat):St:=⟨[(0,.v (qXf b n m)),(1,.v (nat a)),(10,.v (nat x5.1)),(11,.v (nat x5.2))],[(0,some ⟨b,true,0,(v1B n x3)⟩)],1⟩
def qEF (b:Nat) (n:Nat) (m:Nat) (c:Nat) (a:Nat) (z:Nat) (p:Nat) (x1:Nat×Nat) (x2:Nat×Nat) (x3:Nat×Nat×Nat) (x4:Nat×Nat) (x5:Nat×Nat):Prop:=(a+1≤x5.1)∧(x5.1≤z)∧(a≤x5.2)∧(x5.2<z)∧(x5.1≤x5.2+2)∧(x3.1≤x5.1)∧(x5.2≤x3.2.1)
def qE1 (b:Nat) (n:Nat) (m:Nat) (c:Nat) (a:Nat) (z:Nat) (p:Nat) (x1:Nat×Nat) (x2:Nat×Nat) (x3:Nat×Nat×Nat) (x4:Nat×Nat) (x5:Nat×Nat):Nat:=x5.2+2-x5.1
def v2I(c a p:Nat)(x2:Nat×Nat):=qBC (qY8 c a p x2) x2.2 (cdU (qC2 c a p) x2.1)
def v3n(c a p:Nat)(x2:Nat×Nat):=qBC (qC2 c a p) x2.2 (cdU (qC2 c a p) a)
def v4w(b:Nat)(x2:Nat×Nat):=@rfl Value (qBR b x2.2)
def v4x(b:Nat)(x5:Nat×Nat):=@rfl Value (qBR b x5.2)
def v5J(n c a p:Nat)(x2:Nat×Nat):=qAd n (fun k=>u64 (cdU (jDM c a p x2.2) k))
def qWq (b n m c:Nat) (a z p:Nat) (h:12<z-a∧a≤p∧p<z∧z≤n∧n≤40):qBI TP 92 [(Value.slice (some ⟨b,0,none⟩) n m),(nat a),(nat z),(nat p)] [⟨b,true,0,(qAd n (fun k=>u64 (cdU c k)))⟩] 3 (fun ns=>(Value.tuple #[(nat (a+(ns.getD 1 0)%(z-a))),(Value.bool (bG (ns.getD 2 0)))])) (fun ns=>[some ⟨b,true,0,(qAd n (fun k=>u64 (cdU (ns.getD 0 0) k)))⟩]):=
 qAl mix Tryz.func92 rfl rfl 400 (.reg v00 (.reg (v0M b p a n c) (.reg (rg [.g,(aN (a+1)),.g,(aN (z-1)),.g,.g]) (.inv [0,1,10,11] [0] 1 (qEK b n m c a z p) (qH7 b n m c a z p) (qE8 b n m c a z p) ((a+1,z-1):Nat×Nat) (fun(x1:Nat×Nat)=>(.reg (rg [.g,.g,(aB (qBV x1)),.g,(.opt .g),(.opt .g),(.opt (.as (qBR b x1.1))),(.opt (.ld 0 (.tab x1.1 0))),(.opt .g),(.opt .g),(v6P b a),(v6J a),(.opt (.call [] 0 0 (fun _=>(vB (jCm c a p x1.1))) (fun _=>[]))),.pk]) (.br (.reg (rg [.g,(aN (x1.1+1)),.g]) .done) (.inv [0,1,10,11] [0] 1 (qED b n m c a z p x1) (qHX b n m c a z p x1) (qFl b n m c a z p x1) ((x1.1,x1.2):Nat×Nat) (fun(x2:Nat×Nat)=>(.reg (rg [.g,.g,(aB (qBV x2)),.g,(.opt .g),(.opt .g),(.opt (.as (qBR b x2.2))),(.opt (.ld 0 (.tab x2.2 0))),(.opt .g),(.opt .g),(v6P b a),(v6J a),(.opt (.call [] 0 0 (fun _=>(vB (jCm c a p x2.2))) (fun _=>[]))),(.opt .g),.pk]) (.br (.reg (rg [.g,(aN (x2.2-1)),.g]) .done) (.reg (rg [.g,.g,(aB (decide (x2.2<x2.1)))]) (.br (.reg (rg [.g,.g,.g,.g,.g,.g,(v2R b a),(v1R a),.g,.g,(.as (qBR b x2.2)),(.ld 0 (.tab x2.2 0)),(.as (qBR b x2.2)),(.stc 0 (.tab x2.2 0) (qAd n (fun k=>u64 (cdU (v3n c a p x2) k)))),(v2R b a),(.stc 0 (.tab a 0) (v5J n c a p x2))]) v6e) (.reg (rg [.g,.g,.g,.g,.g,.g,(.as (qBR b x2.2)),(.ld 0 (.tab x2.2 0)),.g,.g,(.as (qBR b x2.1)),(v5n x2),(.as (qBR b x2.1)),(.stc 0 (.tab x2.1 0) (qAd n (fun k=>u64 (cdU (qY8 c a p x2) k)))),(.as (qBR b x2.2)),(.stc 0 (.tab x2.2 0) (qAd n (fun k=>u64 (cdU (v2I c a p x2) k))))]) (.reg (rg [.g,(aN (x2.1+1)),.g]) (.reg (rg [.g,(aN (x2.2-1)),.g]) (.inv [0,1,10,11] [0] 1 (qEQ b n m c a z p x1 x2) (qIn b n m c a z p x1 x2) (qE3 b n m c a z p x1 x2) ((x2.1+1,x2.2-1,(v2I c a p x2)):Nat×Nat×Nat) (fun(x3:Nat×Nat×Nat)=>(.inv [0,1,10,11] [0] 1 (qEH b n m c a z p x1 x2 x3) (qH6 b n m c a z p x1 x2 x3) (qFh b n m c a z p x1 x2 x3) ((x3.1,x3.2.1):Nat×Nat) (fun(x4:Nat×Nat)=>(.reg (rg [.g,.g,(aB (qBV x4)),.g,(.opt .g),(.opt .g),(.opt (.as (qBR b x4.1))),(.opt (.ld 0 (.tab x4.1 0))),(.opt .g),(.opt .g),(v6P b a),(v6J a),(.opt (.call [] 0 0 (fun _=>(vB (qS9 x3.2.2 x4.1 a))) (fun _=>[]))),.pk]) (.br (.reg (rg [.g,(aN (x4.1+1)),.g]) .done) (.inv [0,1,10,11] [0] 1 (qEF b n m c a z p x1 x2 x3 x4) (qIg b n m c a z p x1 x2 x3 x4) (qE1 b n m c a z p x1 x2 x3 x4) ((x4.1,x4.2):Nat×Nat) (fun(x5:Nat×Nat)=>(.reg (rg [.g,.g,(aB (qBV x5)),.g,(.opt .g),(.opt .g),(.opt (.as (qBR b x5.2))),(.opt (.ld 0 (.tab x5.2 0))),(.opt .g),(.opt .g),(v6P b a),(v6J a),(.opt (.call [] 0 0 (fun _=>(vB (qS9 x3.2.2 x5.2 a))) (fun _=>[]))),(.opt .g),.pk]) (.br (.reg (rg [.g,(aN (x5.2-1)),.g]) .done) (.reg (rg [.g,.g,(aB (decide (x5.2<x5.1)))]) (.br (.reg (rg [.g,.g,.g,.g,.g,.g,(v2R b a),(v1R a),.g,.g,(.as (qBR b x5.2)),(.ld 0 (.tab x5.2 0)),(.as (qBR b x5.2)),(.stc 0 (.tab x5.2 0) (qAd n (fun k=>u64 (cdU (qBC x3.2.2 x5.2 (cdU x3.2.2 a)) k)))),(v2R b a),(.stc 0 (.tab a 0) (qAd n (fun k=>u64 (cdU (qC2 x3.2.2 x5.2 a) k))))]) v6e) (.reg (rg [.g,.g,.g,.g,.g,.g,(.as (qBR b x5.2)),(.ld 0 (.tab x5.2 0)),.g,.g,(.as (qBR b x5.1)),(.ld 0 (.tab x5.1 0)),(.as (qBR b x5.1)),(.stc 0 (.tab x5.1 0) (qAd n (fun k=>u64 (cdU (qBC x3.2.2 x5.1 (cdU x3.2.2 x5.2)) k)))),(.as (qBR b x5.2)),(.stc 0 (.tab x5.2 0) (qAd n (fun k=>u64 (cdU (qC2 x3.2.2 x5.1 x5.2) k))))]) (.reg (rg [.g,(aN (x5.1+1)),.g]) (.reg (rg [.g,(aN (x5.2-1)),.g]) .done))))))))))))))))))))))))))))))) [] [] rfl
  (Eq.mp (by kernel_rfl) (aI kV2 (aI (sK4 (sK2 (aI (aT (@wm1 16 17 b 0 n m p (show p<n from by omega))) (aI (aT (aI (show p<n from by omega) (v57 b p))) (sK2 (aI (aT (@wm1 20 21 b 0 n m a (show a<n from by omega))) (aI (aT (aI (show a<n from by omega) (v1c b a))) (aI (aT (@wm1 12 13 b 0 n m a (show a<n from by omega))) (aI (aT (aI (show a<n from by omega) (aI (v1c b a) (jCt n c a p)))) (aI (aT (@wm1 14 15 b 0 n m p (show p<n from by omega))) (aI (aT (aI (show p<n from by omega) (aI (v57 b p) (jCp n c a p)))) tV))))))))))) (aI (sk (aI (aT (@wj1 26  a 1 (show a+1≤9223372036854775807 from by omega))) (sk (aI (aT (@wn1 28  z 1 (show 1≤z∧z-1≤9223372036854775807 from by omega))) kV2)))) (aI (show(a+1≤(a+1))∧((a+1)≤z)∧(a≤(z-1))∧((z-1)<z)∧((a+1)≤(z-1)+2) from by exact⟨by omega,by omega,by omega,by omega,by omega⟩) (aI (@rfl St ((qH7 b n m c a z p) ((a+1,z-1):Nat×Nat))) (fun(x1:Nat×Nat) (hx1:(qEK b n m c a z p) x1)=>have A0:a+1≤x1.1:=hx1.1;have A1:x1.1≤z:=hx1.2.1;have A2:a≤x1.2:=hx1.2.2.1;have A3:x1.2<z:=hx1.2.2.2.1;have A4:x1.1≤x1.2+2:=hx1.2.2.2.2;aI (sK2 (aI (aT (@wv1 30 31  x1.1 x1.2)) (sk (aI (fun(hg:(sB (qBV x1) true)=true)=>t2) (aI (fun(hg:(sB (qBV x1) true)=true)=>t2) (aI (fun(hg:(sB (qBV x1) true)=true)=>have f6:(x1.1≤x1.2):=(oT (qAr hg));(aI (aI hg (aI hg tV)) (@wm1 34 35 b 0 n m x1.1 (show x1.1<n from by omega)))) (aI (fun(hg:(sB (qBV x1) true)=true)=>have f6:(x1.1≤x1.2):=(oT (qAr hg));(aI (aI hg tV) (aI (show x1.1<n from by omega) (@rfl Value (qBR b x1.1))))) (aI (fun(hg:(sB (qBV x1) true)=true)=>t2) (aI (fun(hg:(sB (qBV x1) true)=true)=>t2) (aI (fun(hg:(sB (qBV x1) true)=true)=>have f6:(x1.1≤x1.2):=(oT (qAr hg));(aI (aI hg (aI hg tV)) (@wm1 38 39 b 0 n m a (show a<n from by omega)))) (aI (fun(hg:(sB (qBV x1) true)=true)=>have f6:(x1.1≤x1.2):=(oT (qAr hg));(aI (aI hg tV) (aI (show a<n from by omega) (v1c b a)))) (aI (fun(hg:(sB (qBV x1) true)=true)=>(aI (aI hg (aI hg tV)) (qCm (cdU (qC2 c a p) x1.1) (cdU (qC2 c a p) a)))) (aI (aT (aI (fun(hp:(qBV x1)=true)=>(qBz hp)) (fun(_:(qBV x1)=false)=>tV))) tV))))))))))))) (aT (aI (fun(h1:(qA0 (qBV x1) (jCm c a p x1.1) false)=true)=>have f6:(x1.1≤x1.2):=(oT (qB6 h1));have f7:((cdU (qC2 c a p) x1.1)<(cdU (qC2 c a p) a)):=(oT (qCr h1));aI (sk (aI (aT (@wj1 44  x1.1 1 (show x1.1+1≤9223372036854775807 from by omega))) kV1)) ((rnd (qEK b n m c a z p) (qH7 b n m c a z p) (qE8 b n m c a z p) x1 ((x1.1+1,x1.2):Nat×Nat) (show((a+1≤(x1.1+1))∧((x1.1+1)≤z)∧(a≤x1.2)∧(x1.2<z)∧((x1.1+1)≤x1.2+2))∧(x1.2+2-(x1.1+1))<(x1.2+2-x1.1) from by exact⟨⟨by omega,by omega,by omega,by omega,by omega⟩,by omega⟩)))) (fun(h1:(qA0 (qBV x1) (jCm c a p x1.1) false)=false)=>have f6:(¬(x1.1≤x1.2))∨(¬((cdU (qC2 c a p) x1.1)<(cdU (qC2 c a p) a))):=(Or.imp (fun h=>(oF h)) (fun h=>(oF h)) (qCI h1));aI (show(a+1≤x1.1)∧(x1.1≤z)∧(a≤x1.2)∧(x1.2<z)∧(x1.1≤x1.2+2) from by exact⟨by omega,by omega,by omega,by omega,by omega⟩) (aI (@rfl St ((qHX b n m c a z p x1) ((x1.1,x1.2):Nat×Nat))) (fun(x2:Nat×Nat) (hx2:(qED b n m c a z p x1) x2)=>have B0:a+1≤x2.1:=hx2.1;have B1:x2.1≤z:=hx2.2.1;have B2:a≤x2.2:=hx2.2.2.1;have B3:x2.2<z:=hx2.2.2.2.1;have B4:x2.1≤x2.2+2:=hx2.2.2.2.2;aI (sK2 (aI (aT (@wv1 46 47  x2.1 x2.2)) (sk (aI (fun(hg:(sB (qBV x2) true)=true)=>t2) (aI (fun(hg:(sB (qBV x2) true)=true)=>t2) (aI (fun(hg:(sB (qBV x2) true)=true)=>have f12:(x2.1≤x2.2):=(oT (qAr hg));(aI (aI hg (aI hg tV)) (@wm1 50 51 b 0 n m x2.2 (show x2.2<n from by omega)))) (aI (fun(hg:(sB (qBV x2) true)=true)=>have f12:(x2.1≤x2.2):=(oT (qAr hg));(aI (aI hg tV) (aI (show x2.2<n from by omega) (v4w b x2)))) (aI (fun(hg:(sB (qBV x2) true)=true)=>t2) (aI (fun(hg:(sB (qBV x2) true)=true)=>t2) (aI (fun(hg:(sB (qBV x2) true)=true)=>have f12:(x2.1≤x2.2):=(oT (qAr hg));(aI (aI hg (aI hg tV)) (@wm1 54 55 b 0 n m a (show a<n from by omega)))) (aI (fun(hg:(sB (qBV x2) true)=true)=>have f12:(x2.1≤x2.2):=(oT (qAr hg));(aI (aI hg tV) (aI (show a<n from by omega) (v1c b a)))) (aI (fun(hg:(sB (qBV x2) true)=true)=>(aI (aI hg (aI hg tV)) (qCm (cdU (qC2 c a p) x2.2) (cdU (qC2 c a p) a)))) (aI (fun(hg:(sB (qBV x2) true)=true)=>(aI (aI hg tV) tV)) (aI (aT (aI (fun(hp:(qBV x2)=true)=>(qBz hp)) (fun(_:(qBV x2)=false)=>tV))) tV)))))))))))))) (aT (aI (fun(h2:(qA0 (qBV x2) (!(jCm c a p x2.2)) false)=true)=>have f12:(x2.1≤x2.2):=(oT (qB6 h2));have f13:¬((cdU (qC2 c a p) x2.2)<(cdU (qC2 c a p) a)):=(oF (qBr (qCr h2)));aI (sk (aI (aT (@wn1 61  x2.2 1 (show 1≤x2.2∧x2.2-1≤9223372036854775807 from by omega))) kV1)) ((rnd (qED b n m c a z p x1) (qHX b n m c a z p x1) (qFl b n m c a z p x1) x2 ((x2.1,x2.2-1):Nat×Nat) (show((a+1≤x2.1)∧(x2.1≤z)∧(a≤(x2.2-1))∧((x2.2-1)<z)∧(x2.1≤(x2.2-1)+2))∧((x2.2-1)+2-x2.1)<(x2.2+2-x2.1) from by exact⟨⟨by omega,by omega,by omega,by omega,by omega⟩,by omega⟩)))) (fun(h2:(qA0 (qBV x2) (!(jCm c a p x2.2)) false)=false)=>have f12:(¬(x2.1≤x2.2))∨(((cdU (qC2 c a p) x2.2)<(cdU (qC2 c a p) a))):=(Or.imp (fun h=>(oF h)) (fun h=>(oT (qAQ h))) (qCI h2));aI (sK2 (aI (aT (@wl1 63 64  x2.1 x2.2)) tV)) (aT (aI (fun(h3:(decide (x2.2<x2.1))=true)=>have f13:=(oT h3);aI (sK4 (sK2 (aI (aT (@wm1 70 71 b 0 n m a (show a<n from by omega))) (aI (aT (aI (show a<n from by omega) (v1c b a))) (sK2 (aI (aT (@wm1 74 75 b 0 n m x2.2 (show x2.2<n from by omega))) (aI (aT (aI (show x2.2<n from by omega) (v4w b x2))) (aI (aT (@wm1 66 67 b 0 n m x2.2 (show x2.2<n from by omega))) (aI (aT (aI (show x2.2<n from by omega) (aI (v4w b x2) (qAY n u64 (cdU (qC2 c a p)) x2.2 (cdU (qC2 c a p) a) (cdU (v3n c a p x2)) (qDe (qC2 c a p) x2.2 (cdU (qC2 c a p) a)))))) (aI (aT (@wm1 68 69 b 0 n m a (show a<n from by omega))) (aI (aT (aI (show a<n from by omega) (aI (v1c b a) (qAY n u64 (cdU (v3n c a p x2)) a (cdU (qC2 c a p) x2.2) (cdU (jDM c a p x2.2)) (qDe (v3n c a p x2) a (cdU (qC2 c a p) x2.2)))))) tV))))))))))) (aI kV3 (aT (eX (fun(ns:List Nat)=>ns.length=3∧((vT #[(nat x2.2),(vB true)]):Value)=(fun ns=>(vT #[(nat (a+(g1 ns)%(z-a))),(vB (bG (g2 ns)))])) ns∧([some ⟨b,true,0,(v5J n c a p x2)⟩]:List (Option Blk))=(fun ns=>[some ⟨b,true,0,(qAd n (fun k=>u64 (cdU (g0 ns) k)))⟩]) ns) [(jDM c a p x2.2),(x2.2-a),1] (aI v2N (aI ((show((vT #[(nat x2.2),(vB true)]):Value)=(vT #[(nat (a+(x2.2-a)%(z-a))),(vB (bG 1))]) from by rw[qOY (a:=a) (z:=z) (r:=x2.2) (by omega) (by omega)]<;>rfl)) (@rfl (List (Option Blk)) [some ⟨b,true,0,(v5J n c a p x2)⟩]))))))) (fun(h3:(decide (x2.2<x2.1))=false)=>have f13:=(oF h3);aI (sK4 (sK2 (aI (aT (@wm1 85 86 b 0 n m x2.2 (show x2.2<n from by omega))) (aI (aT (aI (show x2.2<n from by omega) (v4w b x2))) (sK2 (aI (aT (@wm1 89 90 b 0 n m x2.1 (show x2.1<n from by omega))) (aI (aT (aI (show x2.1<n from by omega) (@rfl Value (qBR b x2.1)))) (aI (aT (@wm1 81 82 b 0 n m x2.1 (show x2.1<n from by omega))) (aI (aT (aI (show x2.1<n from by omega) (aI (@rfl Value (qBR b x2.1)) (qAY n u64 (cdU (qC2 c a p)) x2.1 (cdU (qC2 c a p) x2.2) (cdU (qY8 c a p x2)) (qDe (qC2 c a p) x2.1 (cdU (qC2 c a p) x2.2)))))) (aI (aT (@wm1 83 84 b 0 n m x2.2 (show x2.2<n from by omega))) (aI (aT (aI (show x2.2<n from by omega) (aI (v4w b x2) (qAY n u64 (cdU (qY8 c a p x2)) x2.2 (cdU (qC2 c a p) x2.1) (cdU (v2I c a p x2)) (qDe (qY8 c a p x2) x2.2 (cdU (qC2 c a p) x2.1)))))) tV))))))))))) (aI (sk (aI (aT (@wj1 95  x2.1 1 (show x2.1+1≤9223372036854775807 from by omega))) kV1)) (aI (sk (aI (aT (@wn1 97  x2.2 1 (show 1≤x2.2∧x2.2-1≤9223372036854775807 from by omega))) kV1)) (aI (show(a+1≤(x2.1+1))∧((x2.1+1)≤z)∧(a≤(x2.2-1))∧((x2.2-1)<z)∧((x2.1+1)≤(x2.2-1)+2) from by exact⟨by omega,by omega,by omega,by omega,by omega⟩) (aI (@rfl St ((qIn b n m c a z p x1 x2) ((x2.1+1,x2.2-1,(v2I c a p x2)):Nat×Nat×Nat))) (fun(x3:Nat×Nat×Nat) (hx3:(qEQ b n m c a z p x1 x2) x3)=>have C0:a+1≤x3.1:=hx3.1;have C1:x3.1≤z:=hx3.2.1;have C2:a≤x3.2.1:=hx3.2.2.1;have C3:x3.2.1<z:=hx3.2.2.2.1;have C4:x3.1≤x3.2.1+2:=hx3.2.2.2.2;aI (show(a+1≤x3.1)∧(x3.1≤z)∧(a≤x3.2.1)∧(x3.2.1<z)∧(x3.1≤x3.2.1+2)∧(x3.1≤x3.1)∧(x3.2.1≤x3.2.1) from by exact⟨by omega,by omega,by omega,by omega,by omega,by omega,by omega⟩) (aI (@rfl St ((qH6 b n m c a z p x1 x2 x3) ((x3.1,x3.2.1):Nat×Nat))) (fun(x4:Nat×Nat) (hx4:(qEH b n m c a z p x1 x2 x3) x4)=>have D0:a+1≤x4.1:=hx4.1;have D1:x4.1≤z:=hx4.2.1;have D2:a≤x4.2:=hx4.2.2.1;have D3:x4.2<z:=hx4.2.2.2.1;have D4:x4.1≤x4.2+2:=hx4.2.2.2.2.1;have D5:x3.1≤x4.1:=hx4.2.2.2.2.2.1;have D6:x4.2≤x3.2.1:=hx4.2.2.2.2.2.2;aI (sK2 (aI (aT (@wv1 99 100  x4.1 x4.2)) (sk (aI (fun(hg:(sB (qBV x4) true)=true)=>t2) (aI (fun(hg:(sB (qBV x4) true)=true)=>t2) (aI (fun(hg:(sB (qBV x4) true)=true)=>have f26:(x4.1≤x4.2):=(oT (qAr hg));(aI (aI hg (aI hg tV)) (@wm1 103 104 b 0 n m x4.1 (show x4.1<n from by omega)))) (aI (fun(hg:(sB (qBV x4) true)=true)=>have f26:(x4.1≤x4.2):=(oT (qAr hg));(aI (aI hg tV) (aI (show x4.1<n from by omega) (@rfl Value (qBR b x4.1))))) (aI (fun(hg:(sB (qBV x4) true)=true)=>t2) (aI (fun(hg:(sB (qBV x4) true)=true)=>t2) (aI (fun(hg:(sB (qBV x4) true)=true)=>have f26:(x4.1≤x4.2):=(oT (qAr hg));(aI (aI hg (aI hg tV)) (@wm1 107 108 b 0 n m a (show a<n from by omega)))) (aI (fun(hg:(sB (qBV x4) true)=true)=>have f26:(x4.1≤x4.2):=(oT (qAr hg));(aI (aI hg tV) (aI (show a<n from by omega) (v1c b a)))) (aI (fun(hg:(sB (qBV x4) true)=true)=>(aI (aI hg (aI hg tV)) (qCm (cdU x3.2.2 x4.1) (cdU x3.2.2 a)))) (aI (aT (aI (fun(hp:(qBV x4)=true)=>(qBz hp)) (fun(_:(qBV x4)=false)=>tV))) tV))))))))))))) (aT (aI (fun(h4:(qA0 (qBV x4) (qS9 x3.2.2 x4.1 a) false)=true)=>have f26:(x4.1≤x4.2):=(oT (qB6 h4));have f27:((cdU x3.2.2 x4.1)<(cdU x3.2.2 a)):=(oT (qCr h4));aI (sk (aI (aT (@wj1 113  x4.1 1 (show x4.1+1≤9223372036854775807 from by omega))) kV1)) ((rnd (qEH b n m c a z p x1 x2 x3) (qH6 b n m c a z p x1 x2 x3) (qFh b n m c a z p x1 x2 x3) x4 ((x4.1+1,x4.2):Nat×Nat) (show((a+1≤(x4.1+1))∧((x4.1+1)≤z)∧(a≤x4.2)∧(x4.2<z)∧((x4.1+1)≤x4.2+2)∧(x3.1≤(x4.1+1))∧(x4.2≤x3.2.1))∧(x4.2+2-(x4.1+1))<(x4.2+2-x4.1) from by exact⟨⟨by omega,by omega,by omega,by omega,by omega,by omega,by omega⟩,by omega⟩)))) (fun(h4:(qA0 (qBV x4) (qS9 x3.2.2 x4.1 a) false)=false)=>have f26:(¬(x4.1≤x4.2))∨(¬((cdU x3.2.2 x4.1)<(cdU x3.2.2 a))):=(Or.imp (fun h=>(oF h)) (fun h=>(oF h)) (qCI h4));aI (show(a+1≤x4.1)∧(x4.1≤z)∧(a≤x4.2)∧(x4.2<z)∧(x4.1≤x4.2+2)∧(x3.1≤x4.1)∧(x4.2≤x3.2.1) from by exact⟨by omega,by omega,by omega,by omega,by omega,by omega,by omega⟩) (aI (@rfl St ((qIg b n m c a z p x1 x2 x3 x4) ((x4.1,x4.2):Nat×Nat))) (fun(x5:Nat×Nat) (hx5:(qEF b n m c a z p x1 x2 x3 x4) x5)=>have E0:a+1≤x5.1:=hx5.1;have E1:x5.1≤z:=hx5.2.1;have E2:a≤x5.2:=hx5.2.2.1;have E3:x5.2<z:=hx5.2.2.2.1;have E4:x5.1≤x5.2+2:=hx5.2.2.2.2.1;have E5:x3.1≤x5.1:=hx5.2.2.2.2.2.1;have E6:x5.2≤x3.2.1:=hx5.2.2.2.2.2.2;aI (sK2 (aI (aT (@wv1 115 116  x5.1 x5.2)) (sk (aI (fun(hg:(sB (qBV x5) true)=true)=>t2) (aI (fun(hg:(sB (qBV x5) true)=true)=>t2) (aI (fun(hg:(sB (qBV x5) true)=true)=>have f34:(x5.1≤x5.2):=(oT (qAr hg));(aI (aI hg (aI hg tV)) (@wm1 119 120 b 0 n m x5.2 (show x5.2<n from by omega)))) (aI (fun(hg:(sB (qBV x5) true)=true)=>have f34:(x5.1≤x5.2):=(oT (qAr hg));(aI (aI hg tV) (aI (show x5.2<n from by omega) (v4x b x5)))) (aI (fun(hg:(sB (qBV x5) true)=true)=>t2) (aI (fun(hg:(sB (qBV x5) true)=true)=>t2) (aI (fun(hg:(sB (qBV x5) true)=true)=>have f34:(x5.1≤x5.2):=(oT (qAr hg));(aI (aI hg (aI hg tV)) (@wm1 123 124 b 0 n m a (show a<n from by omega)))) (aI (fun(hg:(sB (qBV x5) true)=true)=>have f34:(x5.1≤x5.2):=(oT (qAr hg));(aI (aI hg tV) (aI (show a<n from by omega) (v1c b a)))) (aI (fun(hg:(sB (qBV x5) true)=true)=>(aI (aI hg (aI hg tV)) (qCm (cdU x3.2.2 x5.2) (cdU x3.2.2 a)))) (aI (fun(hg:(sB (qBV x5) true)=true)=>(aI (aI hg tV) tV)) (aI (aT (aI (fun(hp:(qBV x5)=true)=>(qBz hp)) (fun(_:(qBV x5)=false)=>tV))) tV)))))))))))))) (aT (aI (fun(h5:(qA0 (qBV x5) (!(qS9 x3.2.2 x5.2 a)) false)=true)=>have f34:(x5.1≤x5.2):=(oT (qB6 h5));have f35:¬((cdU x3.2.2 x5.2)<(cdU x3.2.2 a)):=(oF (qBr (qCr h5)));aI (sk (aI (aT (@wn1 130  x5.2 1 (show 1≤x5.2∧x5.2-1≤9223372036854775807 from by omega))) kV1)) ((rnd (qEF b n m c a z p x1 x2 x3 x4) (qIg b n m c a z p x1 x2 x3 x4) (qE1 b n m c a z p x1 x2 x3 x4) x5 ((x5.1,x5.2-1):Nat×Nat) (show((a+1≤x5.1)∧(x5.1≤z)∧(a≤(x5.2-1))∧((x5.2-1)<z)∧(x5.1≤(x5.2-1)+2)∧(x3.1≤x5.1)∧((x5.2-1)≤x3.2.1))∧((x5.2-1)+2-x5.1)<(x5.2+2-x5.1) from by exact⟨⟨by omega,by omega,by omega,by omega,by omega,by omega,by omega⟩,by omega⟩)))) (fun(h5:(qA0 (qBV x5) (!(qS9 x3.2.2 x5.2 a)) false)=false)=>have f34:(¬(x5.1≤x5.2))∨(((cdU x3.2.2 x5.2)<(cdU x3.2.2 a))):=(Or.imp (fun h=>(oF h)) (fun h=>(oT (qAQ h))) (qCI h5));aI (sK2 (aI (aT (@wl1 132 133  x5.1 x5.2)) tV)) (aT (aI (fun(h6:(decide (x5.2<x5.1))=true)=>have f35:=(oT h6);aI (sK4 (sK2 (aI (aT (@wm1 157 158 b 0 n m a (show a<n from by omega))) (aI (aT (aI (show a<n from by omega) (v1c b a))) (sK2 (aI (aT (@wm1 161 162 b 0 n m x5.2 (show x5.2<n from by omega))) (aI (aT (aI (show x5.2<n from by omega) (v4x b x5))) (aI (aT (@wm1 153 154 b 0 n m x5.2 (show x5.2<n from by omega))) (aI (aT (aI (show x5.2<n from by omega) (aI (v4x b x5) (jCt n x3.2.2 x5.2 a)))) (aI (aT (@wm1 155 156 b 0 n m a (show a<n from by omega))) (aI (aT (aI (show a<n from by omega) (aI (v1c b a) (jCp n x3.2.2 x5.2 a)))) tV))))))))))) (aI kV3 (aT (eX (fun(ns:List Nat)=>ns.length=3∧((vT #[(nat x5.2),v1E]):Value)=(fun ns=>(vT #[(nat (a+(g1 ns)%(z-a))),(vB (bG (g2 ns)))])) ns∧([some ⟨b,true,0,(qAd n (fun k=>u64 (cdU (qC2 x3.2.2 x5.2 a) k)))⟩]:List (Option Blk))=(fun ns=>[some ⟨b,true,0,(qAd n (fun k=>u64 (cdU (g0 ns) k)))⟩]) ns) [(qC2 x3.2.2 x5.2 a),(x5.2-a),0] (aI v2N (aI ((show((vT #[(nat x5.2),(vB false)]):Value)=(vT #[(nat (a+(x5.2-a)%(z-a))),(vB (bG 0))]) from by rw[qOY (a:=a) (z:=z) (r:=x5.2) (by omega) (by omega)]<;>rfl)) (@rfl (List (Option Blk)) [some ⟨b,true,0,(qAd n (fun k=>u64 (cdU (qC2 x3.2.2 x5.2 a) k)))⟩]))))))) (fun(h6:(decide (x5.2<x5.1))=false)=>have f35:=(oF h6);aI (sK4 (sK2 (aI (aT (@wm1 139 140 b 0 n m x5.2 (show x5.2<n from by omega))) (aI (aT (aI (show x5.2<n from by omega) (v4x b x5))) (sK2 (aI (aT (@wm1 143 144 b 0 n m x5.1 (show x5.1<n from by omega))) (aI (aT (aI (show x5.1<n from by omega) (@rfl Value (qBR b x5.1)))) (aI (aT (@wm1 135 136 b 0 n m x5.1 (show x5.1<n from by omega))) (aI (aT (aI (show x5.1<n from by omega) (aI (@rfl Value (qBR b x5.1)) (jCt n x3.2.2 x5.1 x5.2)))) (aI (aT (@wm1 137 138 b 0 n m x5.2 (show x5.2<n from by omega))) (aI (aT (aI (show x5.2<n from by omega) (aI (v4x b x5) (jCp n x3.2.2 x5.1 x5.2)))) tV))))))))))) (aI (sk (aI (aT (@wj1 149  x5.1 1 (show x5.1+1≤9223372036854775807 from by omega))) kV1)) (aI (sk (aI (aT (@wn1 151  x5.2 1 (show 1≤x5.2∧x5.2-1≤9223372036854775807 from by omega))) kV1)) ((rnd (qEQ b n m c a z p x1 x2) (qIn b n m c a z p x1 x2) (qE3 b n m c a z p x1 x2) x3 ((x5.1+1,x5.2-1,(qC2 x3.2.2 x5.1 x5.2)):Nat×Nat×Nat) (show((a+1≤(x5.1+1))∧((x5.1+1)≤z)∧(a≤(x5.2-1))∧((x5.2-1)<z)∧((x5.1+1)≤(x5.2-1)+2))∧((x5.2-1)+2-(x5.1+1))<(x3.2.1+2-x3.1) from by exact⟨⟨by omega,by omega,by omega,by omega,by omega⟩,by omega⟩)))))))))))))))))))))))))))))))))))))))))
end Go.Proofs.YtmdpendnbkajdaaGreatDoor
end
