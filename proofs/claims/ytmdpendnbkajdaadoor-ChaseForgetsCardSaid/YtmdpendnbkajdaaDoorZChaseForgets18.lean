/-
  Many in one: Chase, Chase2, Chase3, ChCl, Chase4, ChNw, ChBl, Chase5, Chase14, Chase6, Chase7, Chase8, Chase9, Chase10, Chase11, Chase12, Chase15.
-/
import Derived.Test.YtmdpendnbkajdaaDoorZChaseForgets17
import Derived.ChangeArms
import GoSem.Extern.BytealgCompare
set_option linter.unusedSectionVars false
set_option linter.unusedVariables false
set_option linter.unusedSimpArgs false
set_option maxRecDepth 100000
set_option maxHeartbeats 1000000
section
namespace Go.Eng
open Go.WideShapes Go.ChangeShapes Go.ChangeAt
def jA6 (f g:Nat→UInt8) (n:Nat):Int:=match(List.range n).find? fun i=>f i !=g i with
 |some i=>if f i<g i then-1 else 1
 |none=>0
def qNn (f g:Nat→UInt8):Int:=jA6 f g 32
def qWn (f:Nat→UInt8) (n:Nat):ByteArray:=⟨((List.range n).map f).toArray⟩
theorem qPi {f:Nat→UInt8} {n i:Nat} (h:i<n):(qWn f n)[i]! =f i:=by
 unfold qWn
 show(ByteArray.mk _)[i]! = _
 rw[getElem!_pos _ i (by show i<Array.size _;simp;exact h)]
 show(((List.range n).map f).toArray)[i]'(by simp;exact h)=f i
 simp
theorem qSz {p q:Nat→Bool}:∀{l:List Nat},(∀i∈l,p i=q i)→l.find? p=l.find? q
 |[],_=>rfl
 |i::l,h=>by
  simp only[List.find?_cons]
  rw[h i (.head _),qSz fun j hj=>h j (.tail _ hj)]
theorem qZM (f g:Nat→UInt8) (n:Nat):Extern.BytealgCompare.cmp (qWn f n) (qWn g n)=jA6 f g n:=by
 have hs:∀f:Nat→UInt8,(qWn f n).size=n:=fun f=>by show Array.size _=n;simp
 unfold Extern.BytealgCompare.cmp jA6
 rw[hs,hs,Nat.min_self]
 have e:(List.range n).find? (fun i=>(qWn f n)[i]!!=(qWn g n)[i]!)=(List.range n).find? fun i=>f i !=g i:=
  qSz fun i hi=>by rw[qPi (List.mem_range.1 hi),qPi (List.mem_range.1 hi)]
 rw[e]
 cases hf:(List.range n).find? fun i=>f i !=g i with
 |none=>simp
 |some i=>
  have hi:=List.mem_range.1 (List.mem_of_find?_eq_some hf)
  simp only[qPi hi]
theorem qM9 {P:Program} {w:World} (b:Nat) (f:Nat→UInt8):∀(n o:Nat) (acc:ByteArray),(∀i,i<n→w.cell? ⟨b,o+i,none⟩=some (u8 (f (o+i))))→
  (Extern.Bytes.loadBytes ⟨b,o,none⟩ n acc).run P w=.ok ⟨acc.data++((List.range n).map fun i=>f (o+i)).toArray⟩ w
 |0,o,acc,_=>by
  show Result.ok acc w=_
  simp
 |n+1,o,acc,h=>by
  have h0:=h 0 (by omega)
  rw[Nat.add_zero] at h0
  have ih:=qM9 (P:=P) (w:=w) b f n (o+1) (acc.push (f o)) fun i hi=>by
   have:=h (i+1) (by omega)
   rw[show o+(i+1)=o+1+i by omega] at this;exact this
  unfold Extern.Bytes.loadBytes
  have hl:(load ⟨b,o,none⟩).run P w=.ok (u8 (f o)) w:=by
   simp[load,Sem.run,h0]
  simp only[Sem.run_bind,hl,Result.andThen_ok]
  unfold u8
  simp only
  have e1:((f o).toNat:Int).toNat.toUInt8=f o:=by simp
  rw[e1]
  refine ih.trans ?_
  congr 2
  rw[ByteArray.push,List.range_succ_eq_map,List.map_cons,List.map_map]
  apply Array.toList_inj.1
  simp
  intro a _
  congr 1;omega
theorem qKZ {P:Program} {w:World} (b n c:Nat) (f:Nat→UInt8) (h:∀i,i<n→w.cell? ⟨b,0+i,none⟩=some (u8 (f i))):(Extern.Bytes.bytesOf (.slice (some ⟨b,0,none⟩) n c)).run P w=.ok (qWn f n) w:=by
 show(Extern.Bytes.loadBytes ⟨b,0,none⟩ n .empty).run P w=_
 rw[qM9 b f n 0 .empty fun i hi=>by rw[h i hi,Nat.zero_add]]
 unfold qWn
 congr 2
 simp[ByteArray.empty,ByteArray.emptyWithCapacity]<;>rfl
theorem qWY {P:Program} {fid:FuncId} (hE:∀args w,(callFunc fid args).run P w=(do pure (Next.value (←Extern.BytealgCompare.compare args)):Sem Next).run P w) (b1 b2 n c1 c2:Nat) (f g:Nat→UInt8) (C1 C2:qAI)
  (h1:∀i,i<n→C1.get i=some (u8 (f i))) (h2:∀i,i<n→C2.get i=some (u8 (g i))):
  qAz P (callFunc fid #[.slice (some ⟨b1,0,none⟩) n c1,.slice (some ⟨b2,0,none⟩) n c2]) [⟨b1,false,0,C1⟩,⟨b2,false,0,C2⟩] 0 (fun _=>int (jA6 f g n)) (fun _=>[none,none]):=by
 intro w hall ha
 have k1:=hall _ (List.mem_cons_self ..)
 have k2:=hall _ (List.mem_cons_of_mem _ (List.mem_singleton.2 rfl))
 refine⟨[],w,rfl,.inl ?_,qCx 2⟩
 rw[hE]
 have e:∀x y,Extern.BytealgCompare.compare #[x,y]=(do pure (goInt (Extern.BytealgCompare.cmp (←Extern.Bytes.bytesOf x) (←Extern.Bytes.bytesOf y))):Sem Value):=fun _ _=>rfl
 rw[e]
 simp only[Sem.run_bind,qKZ b1 n c1 f fun i hi=>k1.cell i _ (h1 i hi),qKZ b2 n c2 g fun i hi=>k2.cell i _ (h2 i hi),Result.andThen_ok,Sem.run_pure,qZM]
 rfl
end Go.Eng
end
section
namespace Go.Eng
structure qGf where
 key:UInt64
 t:Nat
 sp:Nat
 sr:Nat
 fm:Nat
 am:Nat
 bm:Nat
 F:Fst
 A:List (Int×Unit)
 B:List ((Nat→UInt8)×BytL)
structure RwP where
 nm:Nat
 n:Nat
 c:Nat
 f:Nat→UInt8
abbrev Bks:=List ((Nat→UInt8)×BytL)
abbrev CV:=Option (Nat×Nat)
def clV:CV→Value
 |none=>.agg #[.pointer none,.map none]
 |some (t,b)=>.agg #[ptr t 0,.map (some b)]
def bkC (l:List ((Nat→UInt8)×BytL)):qAI:=qPq qDF qAJ l
def hgL (l:List qGf):List (UInt64×CV):=l.map fun x=>(x.key,some (x.t,x.bm))
def qTh (n:Nat) (s:Nat→UInt64) (x:qGf):List Value:=[.slice (some ⟨x.sp,0,none⟩) n (n+x.sr),u64 (qBm s n).a,.map (some x.fm),.map (some x.am)]
def qIZ {α β:Type} (kv:α→Value) (ev:β→Value) (l:List (α×β)):qAU:=.obj (qBH kv ev l 0).toArray l.length
def qIx (n:Nat) (s:Nat→UInt64) (x:qGf):Nat×qAU:=(x.t,.row 4 1 fun i=>[(qTh n s x).getD i (.bool false)])
def qK9 (n:Nat) (s:Nat→UInt64) (x:qGf):Nat×qAU:=(x.sp,.row n 1 fun i=>[u64 (s i)])
def qIM (x:qGf):Nat×qAU:=(x.fm,qIZ int qDF x.F)
def qLj (x:qGf):Nat×qAU:=(x.am,qIZ int ev0 x.A)
def bkP (x:qGf):Nat×qAU:=(x.bm,qIZ qDF qAJ x.B)
def qCS (y:RwP):BytL:=qBB y.nm y.n y.c y.f
def qIt (y:RwP):Nat×qAU:=(y.nm,.row y.c 1 fun k=>[if k<y.n then u8 (y.f k) else u8 0])
def qAI.capN:qAI→Nat
 |.tab c _ _=>c
 | _=>0
def rwL (n:Nat) (f:Nat→UInt8):List Blk→BytL
 | _ ::b:: _=>qCS ⟨b.name,n,b.cont.capN,f⟩
 | _=>qAc none 0
structure ChR where
 p:Nat
 h:Nat
 sp:Nat
 sr:Nat
 n:Nat
 s:Nat→UInt64
 D:List Nat
 l:List qGf
 R:List RwP
def chH (X:ChR):Option Blk:=some ⟨X.p,true,0,.lit [.slice (some ⟨X.sp,0,none⟩) X.n (X.n+X.sr),.map (some X.h)]⟩
def chK (X:ChR):Option Blk:=some ⟨X.sp,true,0,qAd X.n fun k=>u64 (X.s k)⟩
def chM (X:ChR):Option Blk:=some ⟨X.h,true,0,qA8 u64 clV X.D (hgL X.l)⟩
def chT (X:ChR):Option Blk:=lpO X.p (X.l.map (qIx X.n X.s))
def chS (X:ChR):Option Blk:=lpO X.p (X.l.map (qK9 X.n X.s))
def chF (X:ChR):Option Blk:=lpO X.p (X.l.map qIM)
def chA (X:ChR):Option Blk:=lpO X.p (X.l.map qLj)
def chB (X:ChR):Option Blk:=lpO X.p (X.l.map bkP)
def chR (X:ChR):Option Blk:=lpO X.p (X.R.map qIt)
def chO (X:ChR):List (Option Blk):=[chH X,chK X,chM X,chT X,chS X,chF X,chA X,chB X,chR X]
theorem qO3 (X:ChR):qR1 (chO X):=⟨rfl,rfl,rfl,rfl,rfl,rfl,rfl,rfl,rfl,trivial⟩
def slI (X:ChR) (k:UInt64):Option Nat:=(qDE eqW k X.D (hgL X.l) 0 0).map fun p=>p.2.1
def slX (X:ChR) (k:UInt64):Option qGf:=(slI X k).bind fun j=>X.l[j]?
theorem qPr {X:ChR} {k:UInt64} {x:qGf} (h:slX X k=some x):∃j,slI X k=some j∧X.l[j]?=some x∧x.key=k∧X.D.contains j=false∧qDf eqW k X.D (hgL X.l)=some (some (x.t,x.bm)):=by
 unfold slX slI at h
 cases hf:qDE eqW k X.D (hgL X.l) 0 0 with
 |none=>rw[hf] at h;cases h
 |some q=>
  obtain⟨p,j,v⟩:=q
  rw[hf] at h
  have hj:X.l[j]?=some x:=h
  obtain⟨_,_,_,k',h4,h5,h6⟩:=qH9 (kv:=u64) (ev:=clV) hf
  rw[Nat.sub_zero] at h4
  have h7:(hgL X.l)[j]?=some (x.key,some (x.t,x.bm)):=by unfold hgL;rw[List.getElem?_map,hj];rfl
  rw[h7] at h4
  injection h4 with h4;injection h4 with e1 e2;subst e1
  refine⟨j,by unfold slI;rw[hf];rfl,hj,(qFz.1 h5).symm,h6,?_⟩
  unfold qDf;rw[hf,e2];rfl
theorem qYx {X:ChR} {k:UInt64} (h:slX X k=none):qDf eqW k X.D (hgL X.l)=none:=by
 unfold slX slI at h
 unfold qDf
 cases hf:qDE eqW k X.D (hgL X.l) 0 0 with
 |none=>rfl
 |some q=>
  exfalso
  obtain⟨p,j,v⟩:=q
  rw[hf] at h
  have hj:X.l[j]?=none:=h
  obtain⟨_,_,_,k',h4,_⟩:=qH9 (kv:=u64) (ev:=clV) hf
  rw[Nat.sub_zero] at h4
  unfold hgL at h4
  rw[List.getElem?_map,hj] at h4;cases h4
def qRs (s:Nat→UInt64) (n:Nat) (F:Fst) (m:(Nat→UInt8)×Bool) (v:Nat→UInt8):(Nat→UInt8)×Bool:=
 if qA1 (qGd (forV s F v) (qBm s n).a) (qA1 (!m.2) true (decide (qNn v m.1<0))) false=true then(v,true) else m
def rB0:(Nat→UInt8)×BytL:=(fun _=>0,qAc none 0)
def nmB (B:List ((Nat→UInt8)×BytL)) (i:Nat):Nat→UInt8:=(qC8 rB0 B i).1
def qIh (s:Nat→UInt64) (n:Nat) (F:Fst) (B:List ((Nat→UInt8)×BytL)) (o:List Nat):(Nat→UInt8)×Bool:=o.foldl (fun m i=>qRs s n F m (nmB B i)) (fun _=>0,false)
def qE6 (s:Nat→UInt64) (n:Nat) (F:Fst) (B:List ((Nat→UInt8)×BytL)):(Nat→UInt8)×Bool:=qIh s n F B (List.range B.length)
def bvF (X:ChR) (k:UInt64):Bool:=match slX X k with
 |none=>false
 |some x=>(qE6 X.s X.n x.F x.B).2
def bvB (X:ChR) (k:UInt64):BytL:=match slX X k with
 |none=>qAc none 0
 |some x=>(qAr sR (qE6 X.s X.n x.F x.B).1 x.B).getD (qAc none 0)
noncomputable def qDM (X:ChR) (k:UInt64) (w:Int) (y:BytL) (v:Nat→UInt8):Int:=
 if unX y≠0∨unH y≠k then 31 else match slX X k with
  |some x=>qAF X.n X.s x.F w v
  |none=>if X.l.length=20 then 52 else qAF X.n X.s [] w v
def slU (X:ChR) (x:qGf) (w:Int) (v:Nat→UInt8) (b:BytL):qGf:=
 {x with F:=qBj X.n X.s x.F w v,A:=qBK X.n X.s x.F x.A w v,B:=if qAF X.n X.s x.F w v=0 then qCj sR v b x.B else x.B}
def hrO (X:ChR) (j:Nat) (x:qGf) (w:Int) (v:Nat→UInt8) (y:RwP):ChR:=
 {X with l:=X.l.set j (slU X x w v (qCS y)),R:=if qAF X.n X.s x.F w v=0 then X.R++[y] else X.R}
def slN (k:UInt64) (w:Int) (v:Nat→UInt8) (y:RwP) (t sp sr fm am bm:Nat):qGf:=⟨k,t,sp,sr,fm,am,bm,[(w,v)],[],[(v,qCS y)]⟩
def hrN (X:ChR) (k:UInt64) (w:Int) (v:Nat→UInt8) (y:RwP) (t sp sr fm am bm:Nat):ChR:=
 {X with l:=X.l++[slN k w v y t sp sr fm am bm],R:=X.R++[y]}
noncomputable def hrX (X:ChR) (k:UInt64) (w:Int) (y:BytL) (v:Nat→UInt8) (nm r t sp sr fm am bm:Nat):ChR:=
 if unX y≠0∨unH y≠k then X else match slX X k with
  |some x=>hrO X ((slI X k).getD 0) x w v ⟨nm,y.wn,y.wn+r,y.wf⟩
  |none=>if X.l.length=20 then X else if qAF X.n X.s [] w v=0 then hrN X k w v ⟨nm,y.wn,y.wn+r,y.wf⟩ t sp sr fm am bm else X
section
variable {X:ChR} {k:UInt64} {w:Int} {y:BytL} {v:Nat→UInt8}
theorem qXS (h:unX y≠0∨unH y≠k):qDM X k w y v=31∧∀a b c d e f g i,hrX X k w y v a b c d e f g i=X:=⟨if_pos h,fun _ _ _ _ _ _ _ _=>if_pos h⟩
theorem qXs (h:¬(unX y≠0∨unH y≠k)) (hs:slX X k=none) (h20:X.l.length=20):qDM X k w y v=52∧∀a b c d e f g i,hrX X k w y v a b c d e f g i=X:=by
 unfold qDM hrX
 simp only[if_neg h,hs,if_pos h20]
 exact⟨trivial,fun _ _ _ _ _ _ _ _=>trivial⟩
theorem qQo (h:¬(unX y≠0∨unH y≠k)) {x:qGf} {j:Nat} (hs:slX X k=some x) (hj:slI X k=some j):qDM X k w y v=qAF X.n X.s x.F w v∧∀a b c d e f g i,hrX X k w y v a b c d e f g i=hrO X j x w v ⟨a,y.wn,y.wn+b,y.wf⟩:=by
 unfold qDM hrX
 simp only[if_neg h,hs,hj]
 exact⟨trivial,fun _ _ _ _ _ _ _ _=>rfl⟩
theorem qXd (h:¬(unX y≠0∨unH y≠k)) (hs:slX X k=none) (h20:¬X.l.length=20) (hv:qAF X.n X.s [] w v≠0):qDM X k w y v=qAF X.n X.s [] w v∧∀a b c d e f g i,hrX X k w y v a b c d e f g i=X:=by
 unfold qDM hrX
 simp only[if_neg h,hs,if_neg h20,if_neg hv]
 exact⟨trivial,fun _ _ _ _ _ _ _ _=>trivial⟩
theorem qUH (h:¬(unX y≠0∨unH y≠k)) (hs:slX X k=none) (h20:¬X.l.length=20) (hv:qAF X.n X.s [] w v=0):qDM X k w y v=0∧∀a b c d e f g i,hrX X k w y v a b c d e f g i=hrN X k w v ⟨a,y.wn,y.wn+b,y.wf⟩ c d e f g i:=by
 unfold qDM hrX
 simp only[if_neg h,hs,if_neg h20,hv,if_true]
 exact⟨trivial,fun _ _ _ _ _ _ _ _=>trivial⟩
end
def LtR (f g:Nat→UInt8):Prop:=∃i,i<32∧f i<g i∧∀j,j<i→f j=g j
theorem qQr {p:Nat→Bool}:∀{n i:Nat},(List.range n).find? p=some i→i<n∧p i=true∧∀j,j<i→p j=false
 |n,i,h=>by
  have h1:=List.mem_range.1 (List.mem_of_find?_eq_some h)
  refine⟨h1,List.find?_some h,fun j hj=>?_⟩
  obtain⟨l1,l2,e,hn⟩:=(List.find?_eq_some_iff_append.1 h).2
  cases hp:p j with
  |false=>rfl
  |true=>
   exfalso
   have hl:l1.length=i:=by
    have h2:(List.range n)[l1.length]?=some i:=by rw[e];simp
    rw[List.getElem?_range (by
     have:=(List.getElem?_eq_some_iff.1 h2).1;simpa using this)] at h2
    injection h2
   have hm:j∈l1:=by
    have h2:(List.range n)[j]?=some j:=List.getElem?_range (by omega)
    rw[e,List.getElem?_append_left (by omega)] at h2
    exact List.mem_of_getElem? h2
   have:=hn j hm
   rw[hp] at this;cases this
theorem qXk {f g:Nat→UInt8}:qNn f g<0↔LtR f g:=by
 unfold qNn jA6
 cases hf:(List.range 32).find? fun i=>f i !=g i with
 |none=>
  have hn:=List.find?_eq_none.1 hf
  constructor
  ·intro h;simp at h
  ·rintro⟨i,h1,h2,_⟩
   have:=hn i (List.mem_range.2 h1)
   simp at this
   rw[this] at h2
   exact absurd h2 (UInt8.lt_irrefl _)
 |some i=>
  obtain⟨h1,h2,h3⟩:=qQr hf
  have h3':∀j,j<i→f j=g j:=fun j hj=>by simpa using h3 j hj
  constructor
  ·intro h
   by_cases hl:f i<g i
   ·exact⟨i,h1,hl,h3'⟩
   ·simp[hl] at h
  ·rintro⟨k,k1,k2,k3⟩
   have hk:k=i:=by
    rcases Nat.lt_trichotomy k i with h|h|h
    ·rw[h3' k h] at k2;exact absurd k2 (UInt8.lt_irrefl _)
    ·exact h
    ·have:=k3 i h
     simp[this] at h2
   subst hk
   simp[k2]
theorem LtR.trans {f g h:Nat→UInt8} (a:LtR f g) (b:LtR g h):LtR f h:=by
 obtain⟨i,i1,i2,i3⟩:=a
 obtain⟨k,k1,k2,k3⟩:=b
 rcases Nat.lt_trichotomy i k with e|e|e
 ·exact⟨i,i1,by rw[←k3 i e];exact i2,fun j hj=>(i3 j hj).trans (k3 j (by omega))⟩
 ·subst e;exact⟨i,i1,UInt8.lt_trans i2 k2,fun j hj=>(i3 j hj).trans (k3 j hj)⟩
 ·exact⟨k,k1,by rw[i3 k e];exact k2,fun j hj=>(i3 j (by omega)).trans (k3 j hj)⟩
theorem LtR.tri (f g:Nat→UInt8):LtR f g∨sR f g=true∨LtR g f:=by
 cases hf:(List.range 32).find? fun i=>f i !=g i with
 |none=>
  have hn:=List.find?_eq_none.1 hf
  exact .inr (.inl (qGy.2 fun i hi=>by simpa using hn i (List.mem_range.2 hi)))
 |some i=>
  obtain⟨h1,h2,h3⟩:=qQr hf
  have h3':∀j,j<i→f j=g j:=fun j hj=>by simpa using h3 j hj
  have hne:f i≠g i:=by simpa using h2
  rcases UInt8.lt_or_lt_of_ne hne with h|h
  ·exact .inl ⟨i,h1,h,h3'⟩
  ·exact .inr (.inr ⟨i,h1,h,fun j hj=>(h3' j hj).symm⟩)
theorem LtR.not_ge {f g h:Nat→UInt8} (a:LtR f g) (b:¬LtR h g):¬LtR h f:=fun c=>b (c.trans a)
section
variable {s:Nat→UInt64} {n:Nat} {F:Fst} {B:List ((Nat→UInt8)×BytL)}
def thB (s:Nat→UInt64) (n:Nat) (F:Fst) (B:List ((Nat→UInt8)×BytL)) (i:Nat):Bool:=qGd (forV s F (nmB B i)) (qBm s n).a
theorem qMt (o:List Nat) (i:Nat):qIh s n F B (o++[i])=qRs s n F (qIh s n F B o) (nmB B i):=by unfold qIh;rw[List.foldl_append];rfl
def IsL (s:Nat→UInt64) (n:Nat) (F:Fst) (B:List ((Nat→UInt8)×BytL)) (o:List Nat) (m:(Nat→UInt8)×Bool):Prop:=
 (m=(fun _=>0,false)∧∀j∈o,thB s n F B j=false)∨(m.2=true∧∃i∈o,thB s n F B i=true∧m.1=nmB B i∧∀j∈o,thB s n F B j=true→¬LtR (nmB B j) (nmB B i))
theorem IsL.step {o:List Nat} {m:(Nat→UInt8)×Bool} (h:IsL s n F B o m) (k:Nat):IsL s n F B (o++[k]) (qRs s n F m (nmB B k)):=by
 cases ht:thB s n F B k with
 |false=>
  have e:qRs s n F m (nmB B k)=m:=by
   unfold qRs
   rw[show qGd (forV s F (nmB B k)) (qBm s n).a=false from ht]
   rfl
  rw[e]
  rcases h with⟨h1,h2⟩|⟨h1,i,hi,h3,h4,h5⟩
  ·refine .inl ⟨h1,fun j hj=>?_⟩
   rcases List.mem_append.1 hj with hj|hj
   ·exact h2 j hj
   ·simp at hj;subst hj;exact ht
  ·refine .inr ⟨h1,i,by simp[hi],h3,h4,fun j hj hjt=>?_⟩
   rcases List.mem_append.1 hj with hj|hj
   ·exact h5 j hj hjt
   ·simp at hj;subst hj;rw[ht] at hjt;cases hjt
 |true=>
  have e:qRs s n F m (nmB B k)=if m.2=true∧¬qNn (nmB B k) m.1<0 then m else(nmB B k,true):=by
   unfold qRs
   rw[show qGd (forV s F (nmB B k)) (qBm s n).a=true from ht]
   cases h2:m.2 with
   |false=>simp[qA1]
   |true=>
    by_cases hl:qNn (nmB B k) m.1<0
    ·simp[qA1,hl]
    ·simp[qA1,hl]
  rw[e]
  rcases h with⟨h1,h2⟩|⟨h1,i,hi,h3,h4,h5⟩
  ·rw[if_neg (fun z=>by rw[h1] at z;cases z.1)]
   refine .inr ⟨rfl,k,by simp,ht,rfl,fun j hj hjt=>?_⟩
   rcases List.mem_append.1 hj with hj|hj
   ·rw[h2 j hj] at hjt;cases hjt
   ·simp at hj;subst hj
    exact fun⟨i,_,h,_⟩=>UInt8.lt_irrefl _ h
  ·by_cases hc:qNn (nmB B k) m.1<0
   ·have hl:=qXk.1 hc
    rw[if_neg (fun z=>z.2 hc)]
    refine .inr ⟨rfl,k,by simp,ht,rfl,fun j hj hjt=>?_⟩
    rcases List.mem_append.1 hj with hj|hj
    ·rw[h4] at hl;exact hl.not_ge (h5 j hj hjt)
    ·simp at hj;subst hj
     exact fun⟨i,_,h,_⟩=>UInt8.lt_irrefl _ h
   ·have hl:¬LtR (nmB B k) m.1:=fun z=>hc (qXk.2 z)
    rw[if_pos ⟨h1,hc⟩]
    refine .inr ⟨h1,i,by simp[hi],h3,h4,fun j hj hjt=>?_⟩
    rcases List.mem_append.1 hj with hj|hj
    ·exact h5 j hj hjt
    ·simp at hj;subst hj;rw[←h4];exact hl
theorem qUL (o:List Nat):IsL s n F B o (qIh s n F B o):=by
 have:∀(o1 o:List Nat),IsL s n F B o (qIh s n F B o)→IsL s n F B (o++o1) (qIh s n F B (o++o1)):=by
  intro o1
  induction o1 with
  |nil=>intro o h;simpa using h
  |cons j o1 ih=>
   intro o h
   rw[show o++j::o1=(o++[j])++o1 by simp]
   refine ih (o++[j]) ?_
   rw[qMt];exact h.step j
 simpa using this o [] (.inl ⟨rfl,fun j hj=>by cases hj⟩)
theorem qYG {o:List Nat} (h:qUv B.length o):(qIh s n F B o).2=(qE6 s n F B).2∧sR (qIh s n F B o).1 (qE6 s n F B).1=true:=by
 have h1:=qUL (s:=s) (n:=n) (F:=F) (B:=B) o
 have h2:=qUL (s:=s) (n:=n) (F:=F) (B:=B) (List.range B.length)
 have hm:∀j,j∈o↔j∈List.range B.length:=fun j=>by rw[h.mem,List.mem_range]
 change IsL s n F B (List.range B.length) (qE6 s n F B) at h2
 rcases h1 with⟨a1,a2⟩|⟨a1,i,hi,a3,a4,a5⟩
 ·rcases h2 with⟨b1,_⟩|⟨_,k,hk,b3,_,_⟩
  ·rw[a1,b1];exact⟨rfl,qGt _⟩
  ·rw[a2 k ((hm k).2 hk)] at b3;cases b3
 ·rcases h2 with⟨_,b2⟩|⟨b1,k,hk,b3,b4,b5⟩
  ·rw[b2 i ((hm i).1 hi)] at a3;cases a3
  ·refine⟨a1.trans b1.symm,?_⟩
   rw[a4,b4]
   rcases LtR.tri (nmB B i) (nmB B k) with h|h|h
   ·exact absurd h (b5 i ((hm i).1 hi) a3)
   ·exact h
   ·exact absurd h (a5 k ((hm k).2 hk) b3)
theorem qYa (h:(qE6 s n F B).2=true):∃i,i<B.length∧thB s n F B i=true∧(qE6 s n F B).1=nmB B i:=by
 rcases qUL (s:=s) (n:=n) (F:=F) (B:=B) (List.range B.length) with⟨a1,_⟩|⟨_,i,hi,a3,a4,_⟩
 ·change qE6 s n F B=_ at a1;rw[a1] at h;cases h
 ·exact⟨i,List.mem_range.1 hi,a3,a4⟩
end
end Go.Eng
namespace Go.Eng
section
variable {s:Nat→UInt64} {n:Nat} {F:Fst} {B:List ((Nat→UInt8)×BytL)} {o:List Nat} {j:Nat} {m:Nat→UInt8} {f:Bool}
theorem qPH (h1:m=(qIh s n F B o).1) (h2:f=(qIh s n F B o).2) (h:qA1 (qGd (forV s F (nmB B j)) (qBm s n).a) (qA1 (!f) true (decide (qNn (nmB B j) m<0))) false=true):
  nmB B j=(qIh s n F B (o++[j])).1∧true=(qIh s n F B (o++[j])).2:=by
 rw[qMt];unfold qRs;rw[←h1,←h2,if_pos h];exact⟨rfl,rfl⟩
theorem qUu (h1:m=(qIh s n F B o).1) (h2:f=(qIh s n F B o).2) (h:qA1 (qGd (forV s F (nmB B j)) (qBm s n).a) (qA1 (!f) true (decide (qNn (nmB B j) m<0))) false=false):
  m=(qIh s n F B (o++[j])).1∧f=(qIh s n F B (o++[j])).2:=by
 rw[qMt];unfold qRs;rw[←h1,←h2,if_neg (by rw[h];decide)];exact⟨h1,h2⟩
theorem jBi {f g:Nat→UInt8} (h:sR f g=true):(qDL 32 fun k=>u8 (f k))=qDL 32 fun k=>u8 (g k):=by
 unfold qDL
 rw[List.map_congr_left fun k hk=>by rw[qGy.1 h k (List.mem_range.1 hk)]]
theorem qYs (ho:qIw B.length o) (hu:qBe o B.length=false) (h1:m=(qIh s n F B o).1) (h2:f=(qIh s n F B o).2):f=(qE6 s n F B).2∧(qDL 32 fun k=>u8 (m k))=qDL 32 fun k=>u8 ((qE6 s n F B).1 k):=by
 obtain⟨a,b⟩:=qYG (s:=s) (n:=n) (F:=F) (B:=B) (o:=o) ⟨ho,hu⟩
 rw[h1,h2];exact⟨a,jBi b⟩
end
end Go.Eng
end
section
namespace Go.Proofs.YtmdpendnbkajdaaDoor
open Go Go.Eng
theorem qOz {D:List Nat} {l:List (UInt64×CV)} {k:UInt64} (h:qDf eqW k D l=none):(Value.tuple #[clV ((qDf eqW k D l).getD none),.bool (qDf eqW k D l).isSome])=.tuple #[.agg #[.pointer none,.map none],.bool false]:=by rw[h];rfl
theorem qV6 {D:List Nat} {l:List (UInt64×CV)} {k:UInt64} (h:qDf eqW k D l=none):clV ((qDf eqW k D l).getD none)=.agg #[.pointer none,.map none]:=by rw[h];rfl
theorem qQq {D:List Nat} {l:List (UInt64×CV)} {k:UInt64} {t b:Nat} (h:qDf eqW k D l=some (some (t,b))):(Value.tuple #[clV ((qDf eqW k D l).getD none),.bool (qDf eqW k D l).isSome])=.tuple #[.agg #[ptr t 0,.map (some b)],.bool true]:=by rw[h];rfl
theorem qTO {D:List Nat} {l:List (UInt64×CV)} {k:UInt64} {t b:Nat} (h:qDf eqW k D l=some (some (t,b))):clV ((qDf eqW k D l).getD none)=.agg #[ptr t 0,.map (some b)]:=by rw[h];rfl
theorem jAd:qQj TP 56 61 23 qDF qAJ (qAc none 0) sR:=qVa (by kernel_rfl) (by kernel_rfl:Tryd.prog.underlying 61=some (.array 32 5)) (by kernel_rfl) (by kernel_rfl) fun w=>qAO (show qAa TP (zeroValue 23)=some (qAJ (qAc none 0)) by kernel_rfl) w
theorem qMW:qZp TP 49 30 58 u64 clV none eqW:=qWP (by kernel_rfl) (by kernel_rfl) fun w=>qAO (show qAa TP (zeroValue 58)=some (clV none) by kernel_rfl) w
theorem jEo:∀args w,(callFunc 41 args).run TP w=(do pure (Next.value (←Extern.BytealgCompare.compare args)):Sem Next).run TP w:=fun args w=>by kernel_rfl
theorem qVB (a b:Nat) (f g:Nat→UInt8):qBp TP 23 [(Value.slice (some ⟨a,0,none⟩) 32 32),(Value.slice (some ⟨b,0,none⟩) 32 32)] [⟨a,false,0,(qDL 32 (fun k=>u8 (f k)))⟩,⟨b,false,0,(qDL 32 (fun k=>u8 (g k)))⟩] 0 (fun _=>int (qNn f g)) (fun _=>[some ⟨a,false,0,(qDL 32 (fun k=>u8 (f k)))⟩,some ⟨b,false,0,(qDL 32 (fun k=>u8 (g k)))⟩]):=
 qAh mix Tryd.func23 rfl rfl 400 (.reg (rg [.g]) (.reg (rg [.g,.g,(.oth [(0,true),(1,true)] 0 0 (fun _=>(int (qNn f g))) (fun _=>[none,none])),.g]) .done)) [] [] rfl
  (Eq.mp (by kernel_rfl) (aI kV1 (aI (sK2 (aI (aT (qWY (P:=TP) (fid:=41) jEo a b 32 32 32 f g (qDL 32 (fun k=>u8 (f k))) (qDL 32 (fun k=>u8 (g k))) (fun i hi=>qSd hi) (fun i hi=>qSd hi))) kV1)) (aT (eX (fun(ns:List Nat)=>ns.length=0∧((int (qNn f g)):Value)=(fun _=>int (qNn f g)) ns∧([some ⟨a,false,0,(qDL 32 (fun k=>u8 (f k)))⟩,some ⟨b,false,0,(qDL 32 (fun k=>u8 (g k)))⟩]:List (Option Blk))=(fun _=>[some ⟨a,false,0,(qDL 32 (fun k=>u8 (f k)))⟩,some ⟨b,false,0,(qDL 32 (fun k=>u8 (g k)))⟩]) ns) [] (aI (@rfl Nat 0) (aI (@rfl Value (int (qNn f g))) (@rfl (List (Option Blk)) [some ⟨a,false,0,(qDL 32 (fun k=>u8 (f k)))⟩,some ⟨b,false,0,(qDL 32 (fun k=>u8 (g k)))⟩]))))))))
theorem qUa (q:BytL) (hq:OkB q) (hl:q.wn≤140737488355328):qAb (qA2 q) TP 21 [qAJ q] [] 2 (fun ns=>gsV (clG q (ns.getD 0 0) (ns.getD 1 0))) (fun ns=>[grO u8 (u8 0) (clG q (ns.getD 0 0) (ns.getD 1 0))]):=by
 rcases Nat.eq_zero_or_pos q.wn with h0|h0
 ·cases ha:q.wa with
  |none=>
   have e:qAJ q=.slice none 0 q.wc:=by unfold qAJ;rw[ha,h0]
   rw[e]
   refine(qGU q.wc).toF.toO.pad0 [0,0] rfl ?_ ?_
   ·show gsV (clG q 0 0)=_
    unfold clG;rw[ha,h0]<;>rfl
   ·intro p b hb
    rw[show grO u8 (u8 0) (clG q _ _)=none from by unfold clG;rw[ha]<;>rfl] at hb
    rcases p with _ |p<;>simp[lM] at hb
  |some A=>
   have e:qAJ q=.slice (some A) 0 q.wc:=by unfold qAJ;rw[ha,h0]
   rw[e]
   refine(qIS A q.wc).toF.toO.pad1 (fun a=>?_) (fun a=>?_)
   ·show gsV (clG q a 0)=_
    unfold clG;rw[ha,h0]<;>rfl
   ·show[grO u8 (u8 0) (clG q a 0)]=_
    unfold clG;rw[ha,h0]
    show[some (⟨a,true,0,spr (0+0) 0 (fun k=>u8 (q.wf k)) (u8 0)⟩:Blk)]=[some ⟨a,true,0,spr (0+0) 0 (fun k=>u8 ((fun _=>0) k)) (u8 0)⟩]
    rw[qUl (fun k hk=>absurd hk (by omega))]
 ·have ha:=hq.ad h0
  have e:qAJ q=.slice (some ⟨q.wb,q.wo,none⟩) q.wn q.wc:=by unfold qAJ;rw[ha]
  have h:=qKO q.wb q.wo q.wn q.wc q.wf h0 hl
  simp only[Nat.zero_add,qSE] at h
  rw[e]
  have h2:=(h.famN (F:=qA2 q) ⟨h0,rfl⟩).toO
  have e2:∀a r,clG q a r=⟨false,a,q.wn,r,q.wf⟩:=fun a r=>by unfold clG;rw[ha]<;>rfl
  simp only[e2]
  exact h2
theorem qYL (q:BytL) (hq:OkB q) (hl:q.wn≤140737488355328):qAb (qA2 q) TP 21 [qAJ q] [] 2 (fun ns=>gsV (clG q (ns.getD 0 0) (ns.getD 1 0))) (fun ns=>[gsE u8C [u8 0] 1 (clG q (ns.getD 0 0) (ns.getD 1 0))]):=by
 have h:=qUa q hq hl
 simp only[←qJl] at h
 exact h
end Go.Proofs.YtmdpendnbkajdaaDoor
end
section
namespace Go.Eng
open Go.RowKit Go.WideShapes Go.ChangeShapes Go.ChangeAt Go.Deep
structure qET (X:ChR):Prop where
 good:0<X.n∧X.n≤40∧qRF X.s X.n<2^63
 len:X.l.length≤20
 keys:(X.l.map qGf.key).Nodup
 vok:∀x∈X.l,VOk X.n X.s x.F
 blen:∀x∈X.l,x.B.length≤x.F.length
 kd:∀x∈X.l,KD sR x.B
 row:∀x∈X.l,∀e∈x.B,∃y∈X.R,e.2=qCS y
 rlen:∀y∈X.R,y.n≤3000∧y.n≤y.c
def jA5 (R:List RwP) (z:Blk):Prop:=∃y∈R,qA2 (qCS y) z
section
variable {X:ChR} {x:qGf}
theorem qET.look (h:qET X) (hx:x∈X.l) (v:Nat→UInt8):(qAr sR v x.B).getD (qAc none 0)=qAc none 0∨∃y∈X.R,(qAr sR v x.B).getD (qAc none 0)=qCS y:=by
 cases hf:qAr sR v x.B with
 |none=>exact .inl rfl
 |some b=>
  obtain⟨e,he,_,rfl⟩:=qVN qMk hf
  exact .inr (h.row x hx e he)
theorem qET.look_ok (h:qET X) (hx:x∈X.l) (v:Nat→UInt8):OkB ((qAr sR v x.B).getD (qAc none 0))∧((qAr sR v x.B).getD (qAc none 0)).wn≤3000∧∀z,qA2 ((qAr sR v x.B).getD (qAc none 0)) z→jA5 X.R z:=by
 rcases h.look hx v with e|⟨y,hy,e⟩
 ·rw[e];exact⟨qGJ,Nat.zero_le _,fun z hz=>absurd hz.1 (Nat.lt_irrefl 0)⟩
 ·rw[e];exact⟨qFB (h.rlen y hy).2 (Nat.le_trans (h.rlen y hy).1 (by decide)),(h.rlen y hy).1,fun z hz=>⟨y,hy,hz⟩⟩
theorem qET.b40 (h:qET X) (hx:x∈X.l):x.B.length≤40:=Nat.le_trans (h.blen x hx) (h.vok x hx).len
end
theorem qVd {R:List RwP} (hR:∀y∈R,y.n≤y.c) {q:Nat} {ow:Bool} {w:World} (hb:∀b,roO (some (lpB q ow (R.map qIt)))=some b→qAl b w):qCJ (jA5 R) w:=fun z ⟨y,hy,hz⟩=>by
 obtain⟨j,hj⟩:=List.getElem?_of_mem hy
 have hp:(R.map qIt)[j]?=some (qIt y):=by rw[List.getElem?_map,hj];rfl
 have h1:=qZH hp hb
 have h2:qAl ⟨y.nm,false,0,spr y.c y.n (fun k=>u8 (y.f k)) (u8 0)⟩ w:=h1
 have h3:=hR y hy
 obtain⟨r,hr⟩:∃r,y.c=y.n+r:=⟨y.c-y.n,by omega⟩
 rw[hr] at h2
 exact qEi (qBu h2) z hz
theorem qUV {R:List RwP} {q:Nat} {ow:Bool} {z:Blk} (h:jA5 R z) {j:Nat} (hj:z.has j):(lpB q ow (R.map qIt)).has j:=by
 obtain⟨y,hy,h0,rfl⟩:=h
 obtain⟨i,hi⟩:=List.getElem?_of_mem hy
 have hp:(R.map qIt)[i]?=some (qIt y):=by rw[List.getElem?_map,hi];rfl
 have:y.nm=j:=(qBk (b:=qK5 (qCS y)) rfl).1 hj
 exact qEg.2 ⟨i,qIt y,hp,this⟩
theorem qAb.lendR {F':Blk→Prop} {P:Program} {f:FuncId} {args:List Value} {bs:List (Option Blk)} {k:Nat} {v:List Nat→Value} {o nw:List Nat→List (Option Blk)} {R:List RwP} (hR:∀y∈R,y.n≤y.c) {q:Nat} (h:qAb (jA5 R) P f args bs k v (fun ns=>o ns++nw ns)) (ho:∀ns,(o ns).length=bs.length):
  qAb F' P f args (bs++[roO (lpO q (R.map qIt))]) k v (fun ns=>o ns++(none::nw ns)):=
 qAb.lendQ (F':=F') (cs:=[roO (lpO q (R.map qIt))]) h ho (fun w _ hb=>qVd hR (q:=q) (ow:=true) fun b hb0=>hb b (List.mem_singleton.2 hb0.symm)) fun z hz j hj=>.inr ⟨lpB q false (R.map qIt),List.mem_singleton.2 rfl,qUV hz hj⟩
theorem qT6 (n:Nat) (s:Nat→UInt64) (x:qGf):∀o v,(qAI.lit (qTh n s x)).get o=some v↔(qIx n s x).2.cont.get o=some v:=fun o v=>by
 show(qTh n s x)[o]?=some v↔(if o<4*1 then([(qTh n s x).getD (o/1) (.bool false)]:List Value)[o%1]?else none)=some v
 by_cases h:o<4
 ·rw[if_pos (by omega),Nat.div_one,Nat.mod_one]
  have hl:o<(qTh n s x).length:=h
  rw[List.getElem?_eq_getElem hl]
  simp[List.getD_eq_getElem?_getD,List.getElem?_eq_getElem hl]
 ·rw[if_neg (by omega)]
  have hl:(qTh n s x).length≤o:=by show 4≤o;omega
  rw[List.getElem?_eq_none hl]
theorem qOF {ow:Bool} (n:Nat) (s:Nat→UInt64) (x:qGf) {l l':List (Option Blk)} (h:Sub l l'):Sub (some ⟨x.t,ow,0,.lit (qTh n s x)⟩::l) (some (qCl ow (qIx n s x))::l'):=
 .kp _ _ (qAl.retab (b:=qCl ow (qIx n s x)) (c:=.lit (qTh n s x)) rfl rfl fun o v ho=>(qT6 n s x o v).1 ho) h
theorem qZB {ow:Bool} (n:Nat) (s:Nat→UInt64) (x:qGf) {l l':List (Option Blk)} (h:Sub l l'):Sub (some (qCl ow (qIx n s x))::l) (some ⟨x.t,ow,0,.lit (qTh n s x)⟩::l'):=
 .kp _ _ (qAl.retab (b:=⟨x.t,ow,0,.lit (qTh n s x)⟩) (c:=(qIx n s x).2.cont) rfl rfl fun o v ho=>(qT6 n s x o v).2 ho) h
theorem qYg {n:Nat} {f:Nat→UInt64}:(qMX n f !=0)=true:=by unfold qMX;split<;>rfl
def chN (n:Nat) (f:Nat→UInt64) (p sp sr h:Nat):ChR:=⟨p,h,sp,sr,n,f,[],[],[]⟩
theorem qXY {n:Nat} {f:Nat→UInt64} (h0:0<n) (hg:qGa n f) (p sp sr h:Nat):qET (chN n f p sp sr h) where
 good:=⟨h0,(qIs.1 hg).1,(qIs.1 hg).2⟩
 len:=Nat.zero_le _
 keys:=List.nodup_nil
 vok:=fun x hx=>by cases hx
 blen:=fun x hx=>by cases hx
 kd:=fun x hx=>by cases hx
 row:=fun x hx=>by cases hx
 rlen:=fun y hy=>by cases hy
end Go.Eng
namespace Go.Eng
theorem qWo {l:List (UInt64×CV)} {k:UInt64} {v:CV}:qAr eqW k l=some v→qCj eqW k v l=l:=by
 induction l with
 |nil=>intro h;cases h
 |cons z l ih=>
  obtain⟨a,b⟩:=z
  intro h
  simp only[qAr] at h
  simp only[qCj]
  by_cases e:eqW k a=true
  ·rw[if_pos e] at h ⊢
   injection h with h;rw[h,qFz.1 e]
  ·rw[if_neg e] at h ⊢
   rw[ih h]
theorem qKh {β:Type} (k:UInt64) (l:List (UInt64×β)):qDf eqW k [] l=qAr eqW k l:=by
 have:∀(l:List (UInt64×β)) (i q:Nat),(qDE eqW k [] l i q).map (fun p=>p.2.2)=qAr eqW k l:=fun l=>by
  induction l with
  |nil=>intro i q;rfl
  |cons z l ih=>
   obtain⟨a,b⟩:=z
   intro i q
   simp only[qDE,qAr]
   rw[if_neg (by simp)]
   by_cases e:eqW k a=true
   ·rw[if_pos e,if_pos e];rfl
   ·rw[if_neg e,if_neg e];exact ih (i+1) (q+1)
 exact this l 0 0
theorem qQJ (n:Nat):qCd [] n=n:=by
 unfold qCd
 have e:(List.range n).filter (fun i=>!([]:List Nat).contains i)=List.range n:=List.filter_eq_self.2 fun i _=>rfl
 rw[e,List.length_range]
theorem qNb {P:Program} {mt kt et:TypeId} (M:qZp P mt kt et u64 clV none eqW) (b:Nat) (l:List (UInt64×CV)) (k:UInt64) (x:CV) {l':List (UInt64×CV)} (h:qCj eqW k x l=l'):
  qAz P (qSy mt (.map (some b)) (u64 k) (clV x)) [⟨b,true,0,qA8 u64 clV [] l⟩] 0 (fun _=>undef) (fun _=>[some ⟨b,true,0,qA8 u64 clV [] l'⟩]):=by
 subst h
 rw[qQc,qQc]
 exact qGX M.toqQj b l k x
theorem qIi {P:Program} {mt kt et:TypeId} (hm:P.underlying mt=some (.map kt et)) (ty b:Nat) (own:Bool) (l:List (UInt64×CV)):
  qAz P (qXR mt ty (.map (some b))) [⟨b,own,0,qA8 u64 clV [] l⟩] 0 (fun _=>nat l.length) (fun _=>[none]):=by
 have h:=qNs (P:=P) (kv:=u64) (ev:=clV) hm ty b own [] l
 rw[qQJ] at h;exact h
end Go.Eng
namespace Go.Eng
theorem jDo {a:Int} {b k:UInt64} (h:a≠0∨b≠k):qA1 (a !=0) true (!(b==k))=true:=by
 rw[qCX]
 rcases h with h|h
 ·simp[h]
 ·simp[h]
theorem qSa {a:Int} {b k:UInt64} (h:¬(a≠0∨b≠k)):qA1 (a !=0) true (!(b==k))=false:=by
 rw[qCX]
 have h1:a=0:=Decidable.byContradiction fun z=>h (.inl z)
 have h2:b=k:=Decidable.byContradiction fun z=>h (.inr z)
 simp[h1,h2]
end Go.Eng
namespace Go.Eng
theorem jDV {e:Int} (h:e≠0):(e !=0)=true:=by simpa using h
theorem jD8 {e:Int} (h:e=0):(e !=0)=false:=by simpa using h
end Go.Eng
namespace Go.Eng
theorem qAz.beside {P:Program} {s:Sem Next} {a b:Blk} {k:Nat} {v:List Nat→Value} {o:List Nat→Option Blk} (h:qAz P s [a] k v (fun ns=>[o ns])):qAz P s [a,b] k v (fun ns=>[o ns,none]):=by
 intro w hall ha
 have h0:∀p x,lM ([a].map some) p=some x→p=0∧x=a:=fun p x hx=>by
  rcases p with _ |p
  ·injection hx with hx;exact⟨rfl,hx.symm⟩
  ·simp[lM] at hx
 obtain⟨ns,w',h1,h2,h3⟩:=h w (fun x hx=>by rw[List.mem_singleton.1 hx];exact hall _ (List.mem_cons_self ..)) (fun p q x y hpq hp hq=>by
  obtain⟨e1,_⟩:=h0 p x hp
  obtain⟨e2,_⟩:=h0 q y hq
  omega)
 have hown:∀k,qDc (lM ([a].map some)) k→qDc (lM ([a,b].map some)) k:=fun k ⟨p,x,hp,ho,hk⟩=>by
  obtain⟨_,rfl⟩:=h0 p x hp
  exact⟨0,_,rfl,ho,hk⟩
 have hn:∀p x,lM [o ns,none] p=some x→p=0∧lM [o ns] 0=some x:=fun p x hx=>by
  rcases p with _ | _ |p
  ·exact⟨rfl,hx⟩
  ·simp[lM] at hx
  ·simp[lM] at hx
 refine⟨ns,w',h1,h2,fun p x hx=>h3.holds 0 x (hn p x hx).2,fun p q x y hpq hp hq=>?_,⟨h3.adv.os,h3.adv.output,h3.adv.tape,h3.adv.size,fun i hi hno=>h3.adv.heap i hi fun z=>hno (hown i z),fun i ⟨p,x,hp,ho,hk⟩=>?_,fun p x hp ho=>?_⟩⟩
 ·have e1:=(hn p x hp).1
  have e2:=(hn q y hq).1
  omega
 ·rcases h3.adv.names i ⟨0,x,(hn p x hp).2,ho,hk⟩ with h5|h5
  ·exact .inl (hown i h5)
  ·exact .inr h5
 ·obtain⟨e,h5⟩:=hn p x hp
  subst e
  have:=(h0 0 x (h3.adv.ro 0 x h5 ho)).2
  subst this;rfl
end Go.Eng
end
section
namespace Go.Proofs.YtmdpendnbkajdaaDoor
open Go Go.Eng
theorem jCa (ao:Option Addr) (c:Nat):qBp TP 6 [(Value.slice ao 0 c)] [] 0 (fun _=>Value.tuple #[.pointer none,int 2]) (fun _=>[]):=
 qAh mix Tryd.func6 rfl rfl 400 (.reg (rg [.g,.g]) (.reg (rg [.g,(.call [] 0 0 (fun _=>(vT #[(Value.pointer none),(int 2)])) (fun _=>[])),.g,.g,.g,.g,.g]) (.reg (rg [.g,.g]) (.yes (.reg (rg [.g,.g,.g]) .done))))) [] [] rfl
  (Eq.mp (by kernel_rfl) (aI kV2 (aI (sk (aI (aT (jBG ao c)) (sk kV4))) (aI kV2 (aT (aI (@rfl Bool true) (aI kV3 (aT (eX (fun(ns:List Nat)=>ns.length=0∧((vT #[(Value.pointer none),(int 2)]):Value)=(fun _=>vT #[.pointer none,int 2]) ns∧([]:List (Option Blk))=(fun _=>[]) ns) [] (aI (@rfl Nat 0) (aI (@rfl Value (vT #[.pointer none,int 2])) (@rfl (List (Option Blk)) []))))))))))))
theorem qWN (p o n c:Nat) (f:Nat→UInt64) (hp:0<n) (hn:n≤9223372036854775807) (hg:¬qGa n f):qBp TP 6 [(Value.slice (some ⟨p,o,none⟩) n c)] [⟨p,false,o,(qAd n (fun k=>u64 (f k)))⟩] 0 (fun _=>Value.tuple #[.pointer none,int (qMX n f)]) (fun _=>[some ⟨p,false,o,(qAd n (fun k=>u64 (f k)))⟩]):=
 qAh mix Tryd.func6 rfl rfl 400 (.reg (rg [.g,.g]) (.reg (rg [.g,(.call [(0,true)] 0 0 (fun _=>(vT #[(Value.pointer none),(int (qMX n f))])) (fun _=>[none])),.g,.g,.g,.g,.g]) (.reg (rg [.g,.g]) (.yes (.reg (rg [.g,.g,.g]) .done))))) [] [] rfl
  (Eq.mp (by kernel_rfl) (aI kV2 (aI (sk (aI (aT (qBp.dark [true] (qVX p o n c f (show 0<n from by omega) (show n≤9223372036854775807 from by omega) hg))) (sk kV4))) (aI kV2 ((fun(hp1:(((qMX n f):Int)!=0)=true)=>aT (aI hp1 (aI kV3 (aT (eX (fun(ns:List Nat)=>ns.length=0∧((vT #[(Value.pointer none),(int (qMX n f))]):Value)=(fun _=>vT #[.pointer none,int (qMX n f)]) ns∧([some ⟨p,false,o,(qAd n (fun k=>u64 (f k)))⟩]:List (Option Blk))=(fun _=>[some ⟨p,false,o,(qAd n (fun k=>u64 (f k)))⟩]) ns) [] (aI (@rfl Nat 0) (aI (@rfl Value (vT #[.pointer none,int (qMX n f)])) (@rfl (List (Option Blk)) [some ⟨p,false,o,(qAd n (fun k=>u64 (f k)))⟩])))))))) (show(((qMX n f):Int)!=0)=true from by exact qYg))))))
theorem qVS (p o n c:Nat) (f:Nat→UInt64) (hp:0<n) (hg:qGa n f):qBp TP 6 [(Value.slice (some ⟨p,o,none⟩) n c)] [⟨p,false,o,(qAd n (fun k=>u64 (f k)))⟩] 4 (fun(ns:List Nat)=>(Value.tuple #[(ptr (ns.getD 0 0) 0),(int 0)])) (fun(ns:List Nat)=>[some ⟨p,false,o,(qAd n (fun k=>u64 (f k)))⟩,some ⟨(ns.getD 0 0),true,0,(.lit [(Value.slice (some ⟨(ns.getD 1 0),0,none⟩) n (n+(ns.getD 2 0))),(Value.map (some (ns.getD 3 0)))])⟩,some ⟨(ns.getD 1 0),true,0,(qAd n (fun k=>u64 (f k)))⟩,some ⟨(ns.getD 3 0),true,0,(qA8 u64 clV [] ([]))⟩]):=
 qAh mix Tryd.func6 rfl rfl 400 (.reg (rg [.g,.g]) (.regn (rg [.g,(.callO [(0,true)] 5 4 (fun ns=>vT #[ptr (g0 ns) 0,int 0]) (fun ns=>[none,some ⟨(g0 ns),true,0,(.lit [(vS (some ⟨(g1 ns),0,none⟩) n (n+(g2 ns))),(u64 (qBm f n).a),(vM (some (g3 ns))),(vM (some (g4 ns)))])⟩,some ⟨(g1 ns),true,0,(qAd n (fun k=>u64 (f k)))⟩,some ⟨(g3 ns),true,0,(qBM ([]))⟩,some ⟨(g4 ns),true,0,(qDT ([]))⟩])),.g,.g,.g,.g,.g]) (more (fun n1=>more (fun n2=>more (fun n3=>more (fun n4=>more (fun n5=>fun _=>(.reg (rg [.g,.g]) (.no (.regn (rg [.g,(.call [(0,true)] 2 1 (fun ns=>vS (some ⟨(g0 ns),0,none⟩) n (n+(g1 ns))) (fun ns=>[none,some ⟨(g0 ns),true,0,(qAd n (fun k=>u64 (f k)))⟩])),(.oth [] 1 1 (fun ns=>vM (some (g0 ns))) (fun ns=>[some ⟨ns.getD 0 0,true,0,qA8 u64 clV [] []⟩])),.g,.new,.g,.g]) (more (fun n6=>more (fun n7=>more (fun n8=>more (fun n9=>fun _=>.done)))))))))))))))) [] [7,5,6] rfl
  (have f1:=hg.1;Eq.mp (by kernel_rfl) (aI kV2 (fun(n1 n2 n3 n4 n5:Nat)=>aI (sk (aI (aT (qAb.darkV (F:=(fun _=>False)) [true] (qK8 p o n c f (show 0<n from by omega) hg).toO)) (sk kV4))) (aI kV2 (aT (aI (@rfl Bool false) (fun(n6 n7 n8 n9:Nat)=>aI (sk (aI (aT (qBp.dark [true] (qKd p o n c f (show 0<n∧n≤40 from by omega)))) (aI (aT (qGW (P:=TP) (kv:=u64) (ev:=clV) 49)) kV4))) (aT (eX (fun(ns:List Nat)=>ns.length=4∧((vT #[(ptr n9 0),(int 0)]):Value)=(fun(ns:List Nat)=>(vT #[(ptr (g0 ns) 0),(int 0)])) ns∧([some ⟨p,false,o,(qAd n (fun k=>u64 (f k)))⟩,some ⟨n9,true,0,(.lit [(vS (some ⟨n6,0,none⟩) n (n+n7)),(vM (some n8))])⟩,some ⟨n6,true,0,(qAd n (fun k=>u64 (f k)))⟩,some ⟨n8,true,0,(qA8 u64 clV [] ([]))⟩]:List (Option Blk))=(fun(ns:List Nat)=>[some ⟨p,false,o,(qAd n (fun k=>u64 (f k)))⟩,some ⟨(g0 ns),true,0,(.lit [(vS (some ⟨(g1 ns),0,none⟩) n (n+(g2 ns))),(vM (some (g3 ns)))])⟩,some ⟨(g1 ns),true,0,(qAd n (fun k=>u64 (f k)))⟩,some ⟨(g3 ns),true,0,(qA8 u64 clV [] ([]))⟩]) ns) [n9,n6,n7,n8] (aI (@rfl Nat 4) (aI (@rfl Value (vT #[(ptr n9 0),(int 0)])) (@rfl (List (Option Blk)) [some ⟨p,false,o,(qAd n (fun k=>u64 (f k)))⟩,some ⟨n9,true,0,(.lit [(vS (some ⟨n6,0,none⟩) n (n+n7)),(vM (some n8))])⟩,some ⟨n6,true,0,(qAd n (fun k=>u64 (f k)))⟩,some ⟨n8,true,0,(qA8 u64 clV [] ([]))⟩]))))))))))))
theorem qXv {F:Blk→Prop} (p o n c:Nat) (f:Nat→UInt64) (hp:0<n) (hg:qGa n f):qAb F TP 6 [.slice (some ⟨p,o,none⟩) n c] [some ⟨p,false,o,qAd n fun k=>u64 (f k)⟩] 4 (fun ns=>.tuple #[ptr (ns.getD 0 0) 0,int 0]) (fun ns=>none::chO (chN n f (ns.getD 0 0) (ns.getD 1 0) (ns.getD 2 0) (ns.getD 3 0))):=by
 have h0:=qAb.darkO [true] (qVS p o n c f hp hg).toO (F:=F)
 have h1:=qAb.pile0 (q:=fun ns=>ns.getD 0 0) h0 fun ns=>⟨1,_,rfl,rfl⟩
 have h2:=qAb.pile0 (q:=fun ns=>ns.getD 0 0) h1 fun ns=>⟨1,_,rfl,rfl⟩
 have h3:=qAb.pile0 (q:=fun ns=>ns.getD 0 0) h2 fun ns=>⟨1,_,rfl,rfl⟩
 have h4:=qAb.pile0 (q:=fun ns=>ns.getD 0 0) h3 fun ns=>⟨1,_,rfl,rfl⟩
 have h5:=qAb.pile0 (q:=fun ns=>ns.getD 0 0) h4 fun ns=>⟨1,_,rfl,rfl⟩
 exact qAb.pile0 (q:=fun ns=>ns.getD 0 0) h5 fun ns=>⟨1,_,rfl,rfl⟩
abbrev qPC (a:Nat→UInt64) (b:Fst) (c:Bks) (d:List Nat) (e f:Nat):=qGd (forV a b ((qC8 rB0 c (pk d c.length e)).1)) (qBm a f).a
abbrev qPK (a:Bks) (b:List Nat) (c:Nat):=qC8 rB0 a (pk b a.length c)
abbrev qNw (a:Nat):=Value.map (some a)
abbrev jCq (a:Nat→UInt64) (b:Nat) (c:Fst) (d:Bks) (e:List Nat):=clG ((qAr sR ((qE6 a b c d).1) d).getD (qAc none 0)) (e.getD 0 0) (e.getD 1 0)
theorem jDD (p h:Nat) (v0:Value) (D:List Nat) (l:List (UInt64×CV)) (k:UInt64) (hs:qDf eqW k D l=none):qBp TP 10 [(ptr p 0),(u64 k)] [⟨p,false,0,(.lit [v0,(Value.map (some h))])⟩,⟨h,false,0,(qA8 u64 clV D l)⟩] 0 (fun _=>Value.tuple #[.slice none 0 0,.bool false]) (fun _=>[some ⟨p,false,0,(.lit [v0,(Value.map (some h))])⟩,some ⟨h,false,0,(qA8 u64 clV D l)⟩]):=
 qAh mix Tryd.func10 rfl rfl 400 (.reg (rg [.g,.g]) (.regn (rg [.g,.g,.g,(.ld 0 (.lit 1)),.g,(.oth [(1,true)] 0 0 (fun _=>(Value.agg #[(Value.pointer none),(vM none)])) (fun _=>[none])),.new,(.st 2 (.lit 0))]) (more (fun n1=>fun _=>(.regn (rg [.new]) (more (fun n2=>fun _=>(.reg (rg [.g]) (.regn (rg [.g,(.ld 2 (.lit 1)),(.oth [] 1 1 (fun ns=>ptr (g0 ns) 0) (fun ns=>[some ⟨ns.getD 0 0,true,0,jDv ()⟩]))]) (more (fun n3=>fun _=>(.unroll (.reg (rg [(.oth [(4,true)] 0 0 (fun _=>vT #[.bool false]) (fun _=>[none])),.g]) (.no (.reg (rg [.g,(.ld 2 (.lit 1)),(.ld 3 (.lit 0)),(.oth [] 0 0 (fun _=>(vS none 0 0)) (fun _=>[])),(.call [] 0 0 (fun _=>(vS none 0 0)) (fun _=>[])),.g,.g,.g]) .done))))))))))))))) [] [] rfl
  (Eq.mp (by kernel_rfl) (aI kV2 (fun(n1:Nat)=>aI (sK3 (aI (aT (ad p 1)) (sk (aI (aT (qAz.valE (qKx (P:=TP) qMW h false D l k) (qV6 hs))) (sk (aI (aT (ad n1 0)) tV)))))) (fun(n2:Nat)=>aI kV1 (aI kV1 (fun(n3:Nat)=>aI (sk (aI (aT (ad n1 1)) (aI (aT (qR9 (P:=TP) (mt:=56) jAd.hm)) tV))) (aI (aI (aT (qSG (P:=TP) 0 n3 false)) kV1) (aT (aI (@rfl Bool false) (aI (sk (aI (aT (ad n1 1)) (aI (aT (ad n2 0)) (aI (aT (qOT (P:=TP) jAd (fun _=>0))) (aI (aT (qGU 0)) kV3))))) (aT (eX (fun(ns:List Nat)=>ns.length=0∧((vT #[(vS none 0 0),(vB false)]):Value)=(fun _=>vT #[.slice none 0 0,.bool false]) ns∧([some ⟨p,false,0,(.lit [v0,(qNw h)])⟩,some ⟨h,false,0,(qA8 u64 clV D l)⟩]:List (Option Blk))=(fun _=>[some ⟨p,false,0,(.lit [v0,(qNw h)])⟩,some ⟨h,false,0,(qA8 u64 clV D l)⟩]) ns) [] (aI (@rfl Nat 0) (aI (@rfl Value (vT #[.slice none 0 0,.bool false])) (@rfl (List (Option Blk)) [some ⟨p,false,0,(.lit [v0,(qNw h)])⟩,some ⟨h,false,0,(qA8 u64 clV D l)⟩])))))))))))))))
def qJB (F0:Blk→Prop) (p:Nat) (h:Nat) (v0:Value) (D:List Nat) (l:List (UInt64×CV)) (k:UInt64) (t:Nat) (sp:Nat) (sc:Nat) (fm:Nat) (am:Nat) (bm:Nat) (n:Nat) (s:Nat→UInt64) (F:Fst) (B:Bks) (n1:Nat) (n2:Nat) (n3:Nat) (x1:(List Nat)×(Nat→UInt8)×Bool):St:=⟨[(6,.v (ptr n1 0)),(7,.v (ptr n2 0)),(8,.v (vB x1.2.2)),(18,.v (ptr n3 0))],[(0,some ⟨p,false,0,(.lit [v0,(qNw h)])⟩),(1,some ⟨h,false,0,(qA8 u64 clV D l)⟩),(2,some ⟨t,false,0,(.lit [(vS (some ⟨sp,0,none⟩) n sc),(u64 ((qBm s n).a)),(qNw fm),(qNw am)])⟩),(3,some ⟨sp,false,0,(qAd n (fun k=>u64 (s k)))⟩),(4,some ⟨fm,false,0,(qBM F)⟩),(5,some ⟨bm,false,0,(bkC B)⟩),(6,some ⟨n1,true,0,(.lit [(ptr t 0),(qNw bm)])⟩),(7,some ⟨n2,true,0,(qDL 32 (fun k=>u8 (x1.2.1 k)))⟩),(8,some ⟨n3,true,0,(itC bm B.length x1.1)⟩)],9⟩
def qF6 (F0:Blk→Prop) (p:Nat) (h:Nat) (v0:Value) (D:List Nat) (l:List (UInt64×CV)) (k:UInt64) (t:Nat) (sp:Nat) (sc:Nat) (fm:Nat) (am:Nat) (bm:Nat) (n:Nat) (s:Nat→UInt64) (F:Fst) (B:Bks) (n1:Nat) (n2:Nat) (n3:Nat) (x1:(List Nat)×(Nat→UInt8)×Bool):Prop:=(qIw B.length x1.1)∧(x1.2.1=(qIh s n F B x1.1).1)∧(x1.2.2=(qIh s n F B x1.1).2)
def qEh (F0:Blk→Prop) (p:Nat) (h:Nat) (v0:Value) (D:List Nat) (l:List (UInt64×CV)) (k:UInt64) (t:Nat) (sp:Nat) (sc:Nat) (fm:Nat) (am:Nat) (bm:Nat) (n:Nat) (s:Nat→UInt64) (F:Fst) (B:Bks) (n1:Nat) (n2:Nat) (n3:Nat) (x1:(List Nat)×(Nat→UInt8)×Bool):Nat:=qEX x1.1 B.length
theorem jDe (F0:Blk→Prop) (p h:Nat) (v0:Value) (D:List Nat) (l:List (UInt64×CV)) (k:UInt64) (t sp sc fm am bm n:Nat) (s:Nat→UInt64) (F:Fst) (B:Bks) (hs:qDf eqW k D l=some (some (t,bm))) (hV:VOk n s F) (hB:B.length≤40) (hok:∀v,OkB ((qAr sR v B).getD (qAc none 0))) (hle:∀v,((qAr sR v B).getD (qAc none 0)).wn≤140737488355328) (hF:∀v z,qA2 ((qAr sR v B).getD (qAc none 0)) z→F0 z):qAb F0 TP 10 [(ptr p 0),(u64 k)] [some ⟨p,false,0,(.lit [v0,(Value.map (some h))])⟩,some ⟨h,false,0,(qA8 u64 clV D l)⟩,some ⟨t,false,0,(.lit [(Value.slice (some ⟨sp,0,none⟩) n sc),(u64 (qBm s n).a),(Value.map (some fm)),(Value.map (some am))])⟩,some ⟨sp,false,0,(qAd n (fun k=>u64 (s k)))⟩,some ⟨fm,false,0,(qBM F)⟩,some ⟨bm,false,0,(bkC B)⟩] 2 (fun(ns:List Nat)=>(Value.tuple #[(gsV (clG ((qAr sR (qE6 s n F B).1 B).getD (qAc none 0)) (ns.getD 0 0) (ns.getD 1 0))),(Value.bool (qE6 s n F B).2)])) (fun(ns:List Nat)=>[some ⟨p,false,0,(.lit [v0,(Value.map (some h))])⟩,some ⟨h,false,0,(qA8 u64 clV D l)⟩,some ⟨t,false,0,(.lit [(Value.slice (some ⟨sp,0,none⟩) n sc),(u64 (qBm s n).a),(Value.map (some fm)),(Value.map (some am))])⟩,some ⟨sp,false,0,(qAd n (fun k=>u64 (s k)))⟩,some ⟨fm,false,0,(qBM F)⟩,some ⟨bm,false,0,(bkC B)⟩,(gsE u8C [u8 0] 1 (clG ((qAr sR (qE6 s n F B).1 B).getD (qAc none 0)) (ns.getD 0 0) (ns.getD 1 0)))]):=
 qAn mix Tryd.func10 rfl rfl 400 (.reg (rg [.g,.g]) (.regn (rg [.g,.g,.g,(.ld 0 (.lit 1)),.g,(.oth [(1,true)] 0 0 (fun _=>(Value.agg #[(ptr t 0),(qNw bm)])) (fun _=>[none])),.new,(.st 6 (.lit 0))]) (more (fun n1=>fun _=>(.regn (rg [.new]) (more (fun n2=>fun _=>(.reg (rg [.g]) (.regn (rg [.g,(.ld 6 (.lit 1)),(.othB [(5,true)] 1 1 (fun ns=>ptr (g0 ns) 0) (fun bs ns=>[none,some ⟨(g0 ns),true,0,itB bs⟩]))]) (more (fun n3=>fun _=>(.inv [6,7,8,18] [0,1,2,3,4,5,6,7,8] 9 (qF6 F0 p h v0 D l k t sp sc fm am bm n s F B n1 n2 n3) (qJB F0 p h v0 D l k t sp sc fm am bm n s F B n1 n2 n3) (qEh F0 p h v0 D l k t sp sc fm am bm n s F B n1 n2 n3) ((([]),(fun _=>0),false):(List Nat)×(Nat→UInt8)×Bool) (fun(x1:(List Nat)×(Nat→UInt8)×Bool)=>(.both (qBe x1.1 B.length) (.regn (rg [(.oth [(8,false),(5,true)] 1 0 (fun ns=>(vT #[(vB true),(qCt 32 (fun k=>u8 ((qC8 rB0 B (pk x1.1 B.length (g0 ns))).1 k))),(vS (((qC8 rB0 B (pk x1.1 B.length (g0 ns))).2).wa) (((qC8 rB0 B (pk x1.1 B.length (g0 ns))).2).wn) (((qC8 rB0 B (pk x1.1 B.length (g0 ns))).2).wc))])) (fun ns=>[some ⟨n3,true,0,(itC bm B.length (x1.1++[pk x1.1 B.length (g0 ns)]))⟩,none])),.g]) (more (fun n4=>fun _=>(.yes (.regn (rg [(.oth [(8,true),(5,true)] 0 0 (fun _=>(vT #[(qCt 32 (fun k=>u8 ((qPK B x1.1 n4).1 k))),(vS ((qPK B x1.1 n4).2).wa ((qPK B x1.1 n4).2).wn ((qPK B x1.1 n4).2).wc)])) (fun _=>[none,none])),.g,.new,(.st 9 (.lit 0))]) (more (fun n5=>fun _=>(.reg (rg [.g,(.ld 6 (.lit 0)),(.ld 9 (.lit 0)),(.call [(2,true),(3,true),(4,true)] 0 0 (fun _=>(vB (qPC s F B x1.1 n4 n))) (fun _=>[none,none,none])),.g,(.opt .g),(.opt .g),(.opt .g),(.opt .g),(.opt .g),(.opt (.call [(9,true),(7,true)] 0 0 (fun _=>(int (qNn (qPK B x1.1 n4).1 x1.2.1))) (fun _=>[none,none]))),(.opt .g),(.opt .pk),.pk]) (.br (.reg (rg [(.ld 9 (.lit 0)),(.st 7 (.lit 0)),.g]) .done) .done))))))))) (.reg (rg [(.oth [(8,true),(5,true)] 0 0 (fun _=>vT #[.bool false]) (fun _=>[none,none])),.g]) (.no (.keep [6,7,8] [0,1,2,3,4,5,6,7,8] 9 (.told ⟨[(6,.v (ptr n1 0)),(7,.v (ptr n2 0)),(8,.v (vB (qE6 s n F B).2))],[(0,some ⟨p,false,0,(.lit [v0,(vM (some h))])⟩),(1,some ⟨h,false,0,(qA8 u64 clV D l)⟩),(2,some ⟨t,false,0,(.lit [(vS (some ⟨sp,0,none⟩) n sc),(u64 (qBm s n).a),(qNw fm),(qNw am)])⟩),(3,some ⟨sp,false,0,(qAd n (fun k=>u64 (s k)))⟩),(4,some ⟨fm,false,0,(qBM F)⟩),(5,some ⟨bm,false,0,(bkC B)⟩),(6,some ⟨n1,true,0,(.lit [(ptr t 0),(qNw bm)])⟩),(7,some ⟨n2,true,0,(qDL 32 (fun k=>u8 ((qE6 s n F B).1 k)))⟩),(8,some ⟨n3,true,0,(itC bm B.length x1.1)⟩)],9⟩ (.regn (rg [.g,(.ld 6 (.lit 1)),(.ld 7 (.lit 0)),(.oth [(5,true)] 0 0 (fun _=>(vS ((qAr sR (qE6 s n F B).1 B).getD (qAc none 0)).wa ((qAr sR (qE6 s n F B).1 B).getD (qAc none 0)).wn ((qAr sR (qE6 s n F B).1 B).getD (qAc none 0)).wc)) (fun _=>[none])),(.callO [] 2 1 (fun ns=>gsV (jCq s n F B ns)) (fun ns=>[(gsE u8C [u8 0] 1 (jCq s n F B ns))])),.g,.g,.g]) (more (fun n6=>more (fun n7=>fun _=>.done)))))))))))))))))))))) [] [9] rfl
  (Eq.mp (by kernel_rfl) (aI kV2 (fun(n1:Nat)=>aI (sK3 (aI (aT (ad p 1)) (sk (aI (aT (qAz.valE (qKx (P:=TP) qMW h false D l k) (qTO hs))) (sk (aI (aT (ad n1 0)) tV)))))) (fun(n2:Nat)=>aI kV1 (aI kV1 (fun(n3:Nat)=>aI (sk (aI (aT (ad n1 1)) (aI (aT (qAz.dark [true] (qP9 (P:=TP) (mt:=56) (kv:=qDF) (ev:=qAJ) jAd.hm bm false B))) tV))) (aI (show(qF6 F0 p h v0 D l k t sp sc fm am bm n s F B n1 n2 n3) ((([]),(fun _=>0),false):(List Nat)×(Nat→UInt8)×Bool) from(show(qIw B.length ([]))∧((fun _=>0)=(qIh s n F B ([])).1)∧(false=(qIh s n F B ([])).2) from by exact⟨qIw.nil _,rfl,rfl⟩)) (aI (@rfl St ((qJB F0 p h v0 D l k t sp sc fm am bm n s F B n1 n2 n3) ((([]),(fun _=>0),false):(List Nat)×(Nat→UInt8)×Bool))) (fun(x1:(List Nat)×(Nat→UInt8)×Bool) (hx1:(qF6 F0 p h v0 D l k t sp sc fm am bm n s F B n1 n2 n3) x1)=>have B0:qIw B.length x1.1:=hx1.1;have B1:x1.2.1=(qIh s n F B x1.1).1:=hx1.2.1;have B2:x1.2.2=(qIh s n F B x1.1).2:=hx1.2.2;aI (fun(h1:(qBe x1.1 B.length)=true)=>fun(n4:Nat)=>aI (aI (aT (qAz.dark [false,true] (qQA (P:=TP) (kv:=qDF) (ev:=qAJ) 0 n3 bm false B x1.1 rB0 h1))) kV1) ((have f4:(pk x1.1 B.length n4)<B.length:=((qDH h1 n4)).1;aT (aI (@rfl Bool true) (fun(n5:Nat)=>aI (aI (aT (qP7 (P:=TP) (kv:=qDF) (ev:=qAJ) n3 bm false false B x1.1 (pk x1.1 B.length n4) rB0 (show pk x1.1 B.length n4<B.length from by omega))) (sK2 (aI (aT (ad n5 0)) tV))) (aI (sk (aI (aT (ad n1 0)) (aI (aT (ad n5 0)) (aI (aT (qBp.dark [true,true,true] (qRi t sp sc fm am n s F (qPK B x1.1 n4).1 hV))) (sk (aI (fun(hg:(sB (qPC s F B x1.1 n4 n) true)=true)=>t2) (aI (fun(hg:(sB (qPC s F B x1.1 n4 n) true)=true)=>(aI (aI hg tV) tV)) (aI (fun(hg:(sB (qPC s F B x1.1 n4 n) true)=true)=>(aI (aI hg tV) tV)) (aI (fun(hg:(qA1 (sB (qPC s F B x1.1 n4 n) true) (sB (!x1.2.2) false) false)=true)=>t2) (aI (fun(hg:(qA1 (sB (qPC s F B x1.1 n4 n) true) (sB (!x1.2.2) false) false)=true)=>t2) (aI (fun(hg:(qA1 (sB (qPC s F B x1.1 n4 n) true) (sB (!x1.2.2) false) false)=true)=>(aI (aI hg (aI hg tV)) (qBp.dark [true,true] (qVB n5 n2 (qPK B x1.1 n4).1 x1.2.1)))) (aI (fun(hg:(qA1 (sB (qPC s F B x1.1 n4 n) true) (sB (!x1.2.2) false) false)=true)=>(aI (aI hg tV) tV)) (aI (fun(hg:(sB (qPC s F B x1.1 n4 n) true)=true)=>(aI hg (aI (fun(_:(!x1.2.2)=true)=>tV) (fun(hp:(!x1.2.2)=false)=>(qZ0 hg (qBf hp)))))) (aI (aT (aI (fun(hp:(qPC s F B x1.1 n4 n)=true)=>(qBr hp)) (fun(_:(qPC s F B x1.1 n4 n)=false)=>tV))) tV)))))))))))))) (aT (aI (fun(h2:(qA1 (qPC s F B x1.1 n4 n) (qA1 (!x1.2.2) true (decide (((qNn (qPK B x1.1 n4).1 x1.2.1):Int)<0))) false)=true)=>have f5:(qPC s F B x1.1 n4 n)=true:=(qB9 h2);have f6:((x1.2.2)=false)∨((((qNn (qPK B x1.1 n4).1 x1.2.1):Int)<0)):=(Or.imp (fun h=>(qBh h)) (fun h=>(oT h)) (qKV (qCg h2)));aI (aI (aT (ad n5 0)) (aI (aT (ad n2 0)) kV1)) ((rnd (qF6 F0 p h v0 D l k t sp sc fm am bm n s F B n1 n2 n3) (qJB F0 p h v0 D l k t sp sc fm am bm n s F B n1 n2 n3) (qEh F0 p h v0 D l k t sp sc fm am bm n s F B n1 n2 n3) x1 (((x1.1++[pk x1.1 B.length n4]),(qPK B x1.1 n4).1,true):(List Nat)×(Nat→UInt8)×Bool) (show(qF6 F0 p h v0 D l k t sp sc fm am bm n s F B n1 n2 n3) (((x1.1++[pk x1.1 B.length n4]),(qPK B x1.1 n4).1,true):(List Nat)×(Nat→UInt8)×Bool)∧(qEh F0 p h v0 D l k t sp sc fm am bm n s F B n1 n2 n3) (((x1.1++[pk x1.1 B.length n4]),(qPK B x1.1 n4).1,true):(List Nat)×(Nat→UInt8)×Bool)<(qEh F0 p h v0 D l k t sp sc fm am bm n s F B n1 n2 n3) x1 from(show((qIw B.length (x1.1++[pk x1.1 B.length n4]))∧(((qPK B x1.1 n4).1)=(qIh s n F B (x1.1++[pk x1.1 B.length n4])).1)∧(true=(qIh s n F B (x1.1++[pk x1.1 B.length n4])).2))∧(qEX (x1.1++[pk x1.1 B.length n4]) B.length)<(qEX x1.1 B.length) from by exact⟨⟨B0.snoc h1 _,(qPH B1 B2 h2).1,(qPH B1 B2 h2).2⟩,qGO (qDH h1 _).1 (qDH h1 _).2⟩))))) (fun(h2:(qA1 (qPC s F B x1.1 n4 n) (qA1 (!x1.2.2) true (decide (((qNn (qPK B x1.1 n4).1 x1.2.1):Int)<0))) false)=false)=>(rnd (qF6 F0 p h v0 D l k t sp sc fm am bm n s F B n1 n2 n3) (qJB F0 p h v0 D l k t sp sc fm am bm n s F B n1 n2 n3) (qEh F0 p h v0 D l k t sp sc fm am bm n s F B n1 n2 n3) x1 (((x1.1++[pk x1.1 B.length n4]),x1.2.1,x1.2.2):(List Nat)×(Nat→UInt8)×Bool) (show(qF6 F0 p h v0 D l k t sp sc fm am bm n s F B n1 n2 n3) (((x1.1++[pk x1.1 B.length n4]),x1.2.1,x1.2.2):(List Nat)×(Nat→UInt8)×Bool)∧(qEh F0 p h v0 D l k t sp sc fm am bm n s F B n1 n2 n3) (((x1.1++[pk x1.1 B.length n4]),x1.2.1,x1.2.2):(List Nat)×(Nat→UInt8)×Bool)<(qEh F0 p h v0 D l k t sp sc fm am bm n s F B n1 n2 n3) x1 from(show((qIw B.length (x1.1++[pk x1.1 B.length n4]))∧(x1.2.1=(qIh s n F B (x1.1++[pk x1.1 B.length n4])).1)∧(x1.2.2=(qIh s n F B (x1.1++[pk x1.1 B.length n4])).2))∧(qEX (x1.1++[pk x1.1 B.length n4]) B.length)<(qEX x1.1 B.length) from by exact⟨⟨B0.snoc h1 _,(qUu B1 B2 h2).1,(qUu B1 B2 h2).2⟩,qGO (qDH h1 _).1 (qDH h1 _).2⟩)))))))))))) (fun(h1:(qBe x1.1 B.length)=false)=>aI (aI (aT (qNz (P:=TP) (kv:=qDF) (ev:=qAJ) 0 n3 bm false false B x1.1 h1)) kV1) (aT (aI (@rfl Bool false) (aI (show(⟨[(6,.v (ptr n1 0)),(7,.v (ptr n2 0)),(8,.v (vB x1.2.2))],[(0,some ⟨p,false,0,(.lit [v0,(vM (some h))])⟩),(1,some ⟨h,false,0,(qA8 u64 clV D l)⟩),(2,some ⟨t,false,0,(.lit [(vS (some ⟨sp,0,none⟩) n sc),(u64 (qBm s n).a),(vM (some fm)),(vM (some am))])⟩),(3,some ⟨sp,false,0,(qAd n (fun k=>u64 (s k)))⟩),(4,some ⟨fm,false,0,(qBM F)⟩),(5,some ⟨bm,false,0,(bkC B)⟩),(6,some ⟨n1,true,0,(.lit [(ptr t 0),(vM (some bm))])⟩),(7,some ⟨n2,true,0,(qDL 32 (fun k=>u8 (x1.2.1 k)))⟩),(8,some ⟨n3,true,0,(itC bm B.length x1.1)⟩)],9⟩:St)=⟨[(6,.v (ptr n1 0)),(7,.v (ptr n2 0)),(8,.v (vB (qE6 s n F B).2))],[(0,some ⟨p,false,0,(.lit [v0,(vM (some h))])⟩),(1,some ⟨h,false,0,(qA8 u64 clV D l)⟩),(2,some ⟨t,false,0,(.lit [(vS (some ⟨sp,0,none⟩) n sc),(u64 (qBm s n).a),(vM (some fm)),(vM (some am))])⟩),(3,some ⟨sp,false,0,(qAd n (fun k=>u64 (s k)))⟩),(4,some ⟨fm,false,0,(qBM F)⟩),(5,some ⟨bm,false,0,(bkC B)⟩),(6,some ⟨n1,true,0,(.lit [(ptr t 0),(vM (some bm))])⟩),(7,some ⟨n2,true,0,(qDL 32 (fun k=>u8 ((qE6 s n F B).1 k)))⟩),(8,some ⟨n3,true,0,(itC bm B.length x1.1)⟩)],9⟩ from by have e:=qYs B0 h1 B1 B2;rw[e.1,e.2]) (fun(n6 n7:Nat)=>aI (sk (aI (aT (ad n1 1)) (aI (aT (ad n2 0)) (aI (aT (qIO (P:=TP) jAd bm false B (qE6 s n F B).1)) (aI (aT (qAb.mono (fun z hz=>hF _ z hz) (qYL ((qAr sR (qE6 s n F B).1 B).getD (qAc none 0)) (hok _) (hle _)))) kV3))))) (aT (eX (fun(ns:List Nat)=>ns.length=2∧((vT #[(gsV (clG ((qAr sR (qE6 s n F B).1 B).getD (qAc none 0)) n6 n7)),(vB (qE6 s n F B).2)]):Value)=(fun(ns:List Nat)=>(vT #[(gsV (jCq s n F B ns)),(vB (qE6 s n F B).2)])) ns∧([some ⟨p,false,0,(.lit [v0,(vM (some h))])⟩,some ⟨h,false,0,(qA8 u64 clV D l)⟩,some ⟨t,false,0,(.lit [(vS (some ⟨sp,0,none⟩) n sc),(u64 (qBm s n).a),(qNw fm),(qNw am)])⟩,some ⟨sp,false,0,(qAd n (fun k=>u64 (s k)))⟩,some ⟨fm,false,0,(qBM F)⟩,some ⟨bm,false,0,(bkC B)⟩,(gsE u8C [u8 0] 1 (clG ((qAr sR (qE6 s n F B).1 B).getD (qAc none 0)) n6 n7))]:List (Option Blk))=(fun(ns:List Nat)=>[some ⟨p,false,0,(.lit [v0,(vM (some h))])⟩,some ⟨h,false,0,(qA8 u64 clV D l)⟩,some ⟨t,false,0,(.lit [(vS (some ⟨sp,0,none⟩) n sc),(u64 (qBm s n).a),(qNw fm),(qNw am)])⟩,some ⟨sp,false,0,(qAd n (fun k=>u64 (s k)))⟩,some ⟨fm,false,0,(qBM F)⟩,some ⟨bm,false,0,(bkC B)⟩,(gsE u8C [u8 0] 1 (jCq s n F B ns))]) ns) [n6,n7] (aI (@rfl Nat 2) (aI (@rfl Value (vT #[(gsV (clG ((qAr sR (qE6 s n F B).1 B).getD (qAc none 0)) n6 n7)),(vB (qE6 s n F B).2)])) (@rfl (List (Option Blk)) [some ⟨p,false,0,(.lit [v0,(vM (some h))])⟩,some ⟨h,false,0,(qA8 u64 clV D l)⟩,some ⟨t,false,0,(.lit [(vS (some ⟨sp,0,none⟩) n sc),(u64 (qBm s n).a),(qNw fm),(qNw am)])⟩,some ⟨sp,false,0,(qAd n (fun k=>u64 (s k)))⟩,some ⟨fm,false,0,(qBM F)⟩,some ⟨bm,false,0,(bkC B)⟩,(gsE u8C [u8 0] 1 (clG ((qAr sR (qE6 s n F B).1 B).getD (qAc none 0)) n6 n7))])))))))))))))))))))
theorem qFl {F':Blk→Prop} (X:ChR) (hX:qET X) (k:UInt64):qAb F' TP 10 [ptr X.p 0,u64 k] [roO (chH X),roO (chM X),roO (chT X),roO (chS X),roO (chF X),roO (chB X),roO (chR X)] 2 (fun ns=>.tuple #[gsV (clG (bvB X k) (ns.getD 0 0) (ns.getD 1 0)),.bool (bvF X k)])
  (fun ns=>[none,none,none,none,none,none,none,gsE u8C [u8 0] 1 (clG (bvB X k) (ns.getD 0 0) (ns.getD 1 0))]):=by
 cases hs:slX X k with
 |none=>
  rw[show bvB X k=qAc none 0 by unfold bvB;rw[hs],show bvF X k=false by unfold bvF;rw[hs]]
  have h:=(jDD X.p X.h (.slice (some ⟨X.sp,0,none⟩) X.n (X.n+X.sr)) X.D (hgL X.l) k (qYx hs)).toO (F:=F')
  exact h.as (.cons _ (.cons _ (.zz _))) (fun _=>[0,0]) fun ns _=>⟨rfl,rfl,.dr _ (.dr _ (.dn (.dn (.dn (.dn (.dn (.dn (.zz _)))))))),tV⟩
 |some x=>
  obtain⟨j,hj,hl,_,_,hv⟩:=qPr hs
  have hm:x∈X.l:=List.mem_of_getElem? hl
  have hg:∀{g:qGf→Nat×qAU},(X.l.map g)[j]?=some (g x):=by intro g;rw[List.getElem?_map,hl];rfl
  rw[show bvB X k=(qAr sR (qE6 X.s X.n x.F x.B).1 x.B).getD (qAc none 0) by unfold bvB;rw[hs],show bvF X k=(qE6 X.s X.n x.F x.B).2 by unfold bvF;rw[hs]]
  have h0:=jDe (jA5 X.R) X.p X.h (.slice (some ⟨X.sp,0,none⟩) X.n (X.n+X.sr)) X.D (hgL X.l) k x.t x.sp (X.n+x.sr) x.fm x.am x.bm X.n X.s x.F x.B hv (hX.vok x hm) (hX.b40 hm) (fun v=>(hX.look_ok hm v).1) (fun v=>Nat.le_trans (hX.look_ok hm v).2.1 (by decide)) (fun v=>(hX.look_ok hm v).2.2)
  have h1:=(h0.as (bs':=[roO (chH X),roO (chM X),some (qCl false (qIx X.n X.s x)),some (qCl false (qK9 X.n X.s x)),some (qCl false (qIM x)),some (qCl false (bkP x))]) (k':=2) (v':=fun ns=>.tuple #[gsV (clG ((qAr sR (qE6 X.s X.n x.F x.B).1 x.B).getD (qAc none 0)) (ns.getD 0 0) (ns.getD 1 0)),.bool (qE6 X.s X.n x.F x.B).2])
   (out':=fun ns=>[none,none,none,none,none,none,gsE u8C [u8 0] 1 (clG ((qAr sR (qE6 X.s X.n x.F x.B).1 x.B).getD (qAc none 0)) (ns.getD 0 0) (ns.getD 1 0))])
   (.cons _ (.cons _ (qOF X.n X.s x (.cons _ (.cons _ (.cons _ (.zz _))))))) id fun ns hns=>⟨hns,rfl,.dr _ (.dr _ (.dr _ (.dr _ (.dr _ (.dr _ (.refl _)))))),qU1 tV⟩)
  have h2:=qAb.focusL (bs:=[roO (chH X),roO (chM X)]) (o:=fun _=>[none,none]) (q:=X.p) (ow:=false) h1 (hg (g:=qIx X.n X.s)) (fun _=>rfl)
  have h3:=qAb.focusL (bs:=[roO (chH X),roO (chM X),roO (chT X)]) (o:=fun _=>[none,none,none]) (q:=X.p) (ow:=false) h2 (hg (g:=qK9 X.n X.s)) (fun _=>rfl)
  have h4:=qAb.focusL (bs:=[roO (chH X),roO (chM X),roO (chT X),roO (chS X)]) (o:=fun _=>[none,none,none,none]) (q:=X.p) (ow:=false) h3 (hg (g:=qIM)) (fun _=>rfl)
  have h5:=qAb.focusL (bs:=[roO (chH X),roO (chM X),roO (chT X),roO (chS X),roO (chF X)]) (o:=fun _=>[none,none,none,none,none]) (q:=X.p) (ow:=false) h4 (hg (g:=bkP)) (fun _=>rfl)
  exact qAb.lendR (fun y hy=>(hX.rlen y hy).2) (q:=X.p) (bs:=[roO (chH X),roO (chM X),roO (chT X),roO (chS X),roO (chF X),roO (chB X)]) (o:=fun _=>[none,none,none,none,none,none]) h5 (fun _=>rfl)
end Go.Proofs.YtmdpendnbkajdaaDoor
end
section
namespace Go.Eng
theorem qP5 {α:Type} {L:List α} {j:Nat} {a:α} (h:L[j]?=some a):L.set j a=L:=by
 apply List.ext_getElem?
 intro i
 rw[List.getElem?_set]
 by_cases e:j=i
 ·subst e
  rw[if_pos rfl,if_pos (List.getElem?_eq_some_iff.1 h).1,h]
 ·rw[if_neg e]
theorem qEM {α β:Type} {L:List α} {j:Nat} {a a':α} (h:L[j]?=some a) (g:α→β) (e:g a'=g a):(L.set j a').map g=L.map g:=by
 rw[List.map_set,e]
 exact qP5 (by rw[List.getElem?_map,h];rfl)
section
variable {X:ChR} {x:qGf} {j:Nat} {w:Int} {v:Nat→UInt8} {y:RwP} {k:UInt64} {t sp sr fm am bm:Nat}
theorem qR7 (hl:X.l[j]?=some x):chO (hrO X j x w v y)=[chH X,chK X,chM X,chT X,chS X,lpO X.p ((X.l.map qIM).set j (x.fm,qIZ int qDF (qBj X.n X.s x.F w v))),lpO X.p ((X.l.map qLj).set j (x.am,qIZ int ev0 (qBK X.n X.s x.F x.A w v))),
  lpO X.p ((X.l.map bkP).set j (x.bm,qIZ qDF qAJ (if qAF X.n X.s x.F w v=0 then qCj sR v (qCS y) x.B else x.B))),lpO X.p ((if qAF X.n X.s x.F w v=0 then X.R++[y] else X.R).map qIt)]:=by
 unfold chO
 have e1:chM (hrO X j x w v y)=chM X:=by
  unfold chM hrO hgL
  simp only
  rw[qEM (a':=slU X x w v (qCS y)) hl (fun x=>(x.key,(some (x.t,x.bm):CV))) rfl]
 have e2:chT (hrO X j x w v y)=chT X:=by
  unfold chT hrO
  simp only
  rw[qEM (a':=slU X x w v (qCS y)) hl (qIx X.n X.s) rfl]
 have e3:chS (hrO X j x w v y)=chS X:=by
  unfold chS hrO
  simp only
  rw[qEM (a':=slU X x w v (qCS y)) hl (qK9 X.n X.s) rfl]
 rw[e1,e2,e3]
 unfold chF chA chB chR hrO
 simp only[List.map_set]
 rfl
theorem qYT:chO (hrN X k w v y t sp sr fm am bm)=[chH X,chK X,some ⟨X.h,true,0,qA8 u64 clV X.D (hgL X.l++[(k,some (t,bm))])⟩,lpO X.p (X.l.map (qIx X.n X.s)++[qIx X.n X.s (slN k w v y t sp sr fm am bm)]),lpO X.p (X.l.map (qK9 X.n X.s)++[qK9 X.n X.s (slN k w v y t sp sr fm am bm)]),
  lpO X.p (X.l.map qIM++[qIM (slN k w v y t sp sr fm am bm)]),lpO X.p (X.l.map qLj++[qLj (slN k w v y t sp sr fm am bm)]),lpO X.p (X.l.map bkP++[bkP (slN k w v y t sp sr fm am bm)]),lpO X.p (X.R.map qIt++[qIt y])]:=by
 unfold chO chM chT chS chF chA chB chR hrN hgL
 simp only[List.map_append,List.map_cons,List.map_nil]
 rfl
end
theorem qJV {l:List (Option Blk)} {p:Nat} {b:Blk} (h:lM l p=some b):p<l.length:=by
 unfold lM at h
 cases hc:l[p]?with
 |none=>rw[hc] at h;cases h
 |some x=>exact(List.getElem?_eq_some_iff.1 hc).1
end Go.Eng
namespace Go.Eng
theorem qXx {q:BytL} (h:unX q=0):0<q.wn:=by
 refine Nat.pos_of_ne_zero fun h0=>?_
 have e1:rsE q 0 18446744073709551615=3:=by unfold rsE wrE;rw[if_pos h0];rfl
 have e2:uE q=3:=by
  unfold uE;rw[e1]
  unfold rsE qBR;rw[if_neg (by decide)]
 have e3:∀k,(usS (uQ q) (uE q) k).2=3:=fun k=>by
  induction k with
  |zero=>exact e2
  |succ k ih=>show rbE _ _ _=3;rw[ih];exact(qUs (by decide)).1
 have e4:=(jDN h).1
 unfold uD qSk at e4
 rw[e3,if_neg (fun z=>by cases z.1)] at e4
 exact absurd e4 (by decide)
end Go.Eng
namespace Go.Eng
def fgX (X:ChR) (b:UInt64):ChR:={X with D:=fgD (hgL X.l) b}
def fgN (X:ChR) (b:UInt64):Nat:=X.l.length-qCd (fgD (hgL X.l) b) X.l.length
theorem qTI {X:ChR} (h:qET X) (b:UInt64):qET (fgX X b):=⟨h.good,h.len,h.keys,h.vok,h.blen,h.kd,h.row,h.rlen⟩
theorem qYp (l:List qGf):(hgL l).map (·.1)=l.map qGf.key:=by unfold hgL;rw[List.map_map];rfl
theorem qPI (l:List qGf):(hgL l).length=l.length:=List.length_map ..
end Go.Eng
namespace Go.Eng
def upK (k:UInt64) (j:Nat):UInt64:=k+UInt64.ofNat j
def rnN (X:ChR) (k:UInt64):Nat:=((List.range 21).find? fun j=>!bvF X (upK k j)).getD 0
def rnL (X:ChR) (k:UInt64) (j:Nat):Nat:=(bvB X (upK k j)).wn
def rnF (X:ChR) (k:UInt64) (j:Nat):Nat→UInt8:=(bvB X (upK k j)).wf
theorem jDK (k:UInt64):k=upK k 0:=by unfold upK;simp
theorem qWc (k:UInt64) (j:Nat):upK k j+1=upK k (j+1):=by
 unfold upK
 rw[UInt64.add_assoc]
 congr 1
 apply UInt64.toNat_inj.1
 rw[UInt64.toNat_add,UInt64.toNat_ofNat',UInt64.toNat_ofNat']
 show((j%2^64)+1)%2^64=(j+1)%2^64
 omega
theorem qYy {k:UInt64} {i j:Nat} (hi:i<2^64) (hj:j<2^64) (h:upK k i=upK k j):i=j:=by
 unfold upK at h
 have h2:=UInt64.add_right_inj k |>.1 h
 have h3:=congrArg UInt64.toNat h2
 rw[UInt64.toNat_ofNat',UInt64.toNat_ofNat',Nat.mod_eq_of_lt hi,Nat.mod_eq_of_lt hj] at h3
 exact h3
theorem qUz {X:ChR} {k:UInt64} (h:bvF X k=true):∃x,slX X k=some x∧(qE6 X.s X.n x.F x.B).2=true:=by
 unfold bvF at h
 cases hs:slX X k with
 |none=>rw[hs] at h;cases h
 |some x=>rw[hs] at h;exact⟨x,rfl,h⟩
theorem qXG {X:ChR} {k:UInt64}:∀(m:Nat) (l:List UInt64),m≤2^64→(∀j,j<m→upK k j∈l)→m≤l.length
 |0,l,_,_=>Nat.zero_le _
 |m+1,l,hm,h=>by
  have h1:=h m (Nat.lt_succ_self m)
  have h2:=qXG (X:=X) (k:=k) m (l.erase (upK k m)) (by omega) fun j hj=>by
   have hne:upK k j≠upK k m:=fun e=>by
    have:=qYy (by omega) (by omega) e
    omega
   exact(List.mem_erase_of_ne hne).2 (h j (by omega))
  rw[List.length_erase_of_mem h1] at h2
  have:=List.length_pos_of_mem h1
  omega
theorem jBN {X:ChR} (hX:qET X) {k:UInt64} {m:Nat} (hm:m≤21) (h:∀j,j<m→bvF X (upK k j)=true):m≤20:=by
 have h1:=qXG (X:=X) (k:=k) m (X.l.map qGf.key) (by omega) fun j hj=>by
  obtain⟨x,hs,_⟩:=qUz (h j hj)
  obtain⟨i,_,hi,hk,_⟩:=qPr hs
  exact List.mem_map.2 ⟨x,List.mem_of_getElem? hi,hk⟩
 rw[List.length_map] at h1
 have:=hX.len
 omega
theorem qXH {X:ChR} {k:UInt64} {m:Nat} (hm:m≤20) (h:∀j,j<m→bvF X (upK k j)=true) (he:bvF X (upK k m)=false):m=rnN X k:=by
 unfold rnN
 have:(List.range 21).find? (fun j=>!bvF X (upK k j))=some m:=qLC (by omega) (by rw[he];rfl) fun j hj=>by rw[h j hj];rfl
 rw[this];rfl
theorem jBK {X:ChR} (hX:qET X) {k:UInt64} (h:bvF X k=true):∃y∈X.R,bvB X k=qCS y:=by
 obtain⟨x,hs,hl⟩:=qUz h
 obtain⟨i,_,hi,_⟩:=qPr hs
 have hm:=List.mem_of_getElem? hi
 obtain⟨j,hj,_,hn⟩:=qYa hl
 have hf:qAr sR (qE6 X.s X.n x.F x.B).1 x.B=some (qC8 rB0 x.B j).2:=by
  rw[hn]
  exact KD.find qMk (hX.kd x hm) (qTy hj)
 have he:bvB X k=(qC8 rB0 x.B j).2:=by unfold bvB;rw[hs];simp only;rw[hf];rfl
 obtain⟨y,hy,e⟩:=hX.row x hm _ (qTy (d:=rB0) hj)
 exact⟨y,hy,he.trans e⟩
theorem qTU {X:ChR} (hX:qET X) {k:UInt64} (h:bvF X k=true) (a r:Nat):gsV (clG (bvB X k) a r)=.slice (some ⟨a,0,none⟩) (bvB X k).wn ((bvB X k).wn+r)∧gsE u8C [u8 0] 1 (clG (bvB X k) a r)=some ⟨a,true,0,spr ((bvB X k).wn+r) (bvB X k).wn (fun j=>u8 ((bvB X k).wf j)) (u8 0)⟩:=by
 obtain⟨y,_,e⟩:=jBK hX h
 rw[e]
 exact⟨rfl,by rw[qJl];rfl⟩
theorem qXf {X:ChR} (hX:qET X) (k:UInt64):(bvB X k).wn≤3000:=by
 unfold bvB
 cases hs:slX X k with
 |none=>exact Nat.zero_le _
 |some x=>
  obtain⟨i,_,hi,_⟩:=qPr hs
  exact(hX.look_ok (List.mem_of_getElem? hi) _).2.1
end Go.Eng
namespace Go.Eng
theorem qWi {X:ChR} (hX:qET X) {k0 z:UInt64} {k:Nat} (h0:z=upK k0 k) (h1:∀j,j<k→bvF X (upK k0 j)=true) (h2:k≤20) (h:bvF X z=true):z+1=upK k0 (k+1)∧(∀j,j<k+1→bvF X (upK k0 j)=true)∧k+1≤20:=by
 have h3:∀j,j<k+1→bvF X (upK k0 j)=true:=fun j hj=>by
  by_cases e:j=k
  ·subst e;rw[←h0];exact h
  ·exact h1 j (by omega)
 exact⟨by rw[h0];exact qWc k0 k,h3,jBN hX (by omega) h3⟩
def wC (x:UInt64):List Value:=[u64 x]
theorem jC8 (x:UInt64):(wC x).length=1∧(wC x).all Value.oneCell'=true:=⟨rfl,rfl⟩
def srW (n nm c:Nat):Option Blk:=if n=0 then none else some ⟨nm,true,0,qAd n fun k=>u64 (cdU c k)⟩
theorem qUD {n:Nat} (nm c:Nat) (h:0<n):srW n nm c=some ⟨nm,true,0,qAd n fun k=>u64 (cdU c k)⟩:=if_neg (by omega)
structure qPZ (D:List Nat) (n:Nat) (o:List Nat):Prop extends qIw n o where
 off:∀i∈o,D.contains i=false
theorem qPZ.nil (D:List Nat) (n:Nat):qPZ D n []:=⟨qIw.nil _,by simp⟩
theorem qHS (D o:List Nat):qI2 (D++o) D o:=fun i=>by
 rw[List.contains_eq_any_beq,List.contains_eq_any_beq,List.contains_eq_any_beq,List.any_append]
theorem qNt {D o:List Nat} {j:Nat} (h:(D++o).contains j=false):D.contains j=false∧o.contains j=false:=by
 rw[qHS D o j,Bool.or_eq_false_iff] at h;exact h
theorem qPZ.snoc {D o:List Nat} {n:Nat} (h:qPZ D n o) (hu:qBe (D++o) n=true) (c:Nat):qPZ D n (o++[pk (D++o) n c]):=by
 obtain⟨h1,h2⟩:=qDH hu c
 obtain⟨h3,h4⟩:=qNt h2
 refine⟨⟨List.nodup_append.2 ⟨h.nd,by simp,fun a ha b hb=>?_⟩,fun x hx=>?_⟩,fun x hx=>?_⟩
 ·simp at hb h4;subst hb
  exact fun e=>h4 (e▸ha)
 ·rcases List.mem_append.1 hx with hx|hx
  ·exact h.lt x hx
  ·simp at hx;omega
 ·rcases List.mem_append.1 hx with hx|hx
  ·exact h.off x hx
  ·simp at hx;rw[hx];exact h3
theorem qPZ.left {D o:List Nat} {n:Nat} (hu:qBe (D++o) n=true) (c:Nat):qEX (D++(o++[pk (D++o) n c])) n<qEX (D++o) n:=by
 rw[←List.append_assoc];exact qGO (qDH hu c).1 (qDH hu c).2
theorem qPZ.len {D o:List Nat} {n:Nat} (h:qPZ D n o) (hu:qBe (D++o) n=false):o.length=qCd D n:=by
 unfold qCd
 refine(List.Perm.length_eq ((List.perm_ext_iff_of_nodup h.nd (List.Pairwise.filter _ List.nodup_range)).2 fun i=>?_))
 rw[List.mem_filter,List.mem_range]
 constructor
 ·intro hi;exact⟨h.lt i hi,by rw[h.off i hi];rfl⟩
 ·rintro⟨hi,hd⟩
  have e:=qJ1 hu i hi
  rw[qHS D o i] at e
  have hd':D.contains i=false:=by simpa using hd
  rw[hd',Bool.false_or] at e
  simpa using e
theorem qFe {P:Program} {t:TypeId} (ha:qVr P t=some false) {n nm:Nat} (c i:Nat) (hi:i<n):qE4 P (qXp t (ptr nm (0+i*1))) [roO (srW n nm c)] 0 (fun _=>u64 (cdU c i)) (fun _=>[none]):=by
 rw[qUD nm c (by omega)]
 intro w hm hap
 have hS:qAl ⟨nm,false,0,qAd n fun k=>u64 (cdU c k)⟩ w:=hm 0 _ rfl
 have hc:=hS.cell i (u64 (cdU c i)) (qAL hi)
 refine⟨[],w,rfl,.inl ?_,?_⟩
 ·have hr:=qCv (P:=P) (t:=t) (w:=w) (b:=nm) (o:=0+i*1) (v:=u64 (cdU c i)) ha (by rw[Nat.mul_one];exact hc)
  show(Instr.loadAt t (Value.pointer (some {block:=nm,off:=0+i*1})) >>= fun v=>Sem.pure (Next.value v)).run P w=_
  rw[Sem.run_bind,hr];rfl
 ·exact⟨fun p b hpb=>by rcases p with _ |p<;>simp[lM] at hpb,fun p q b c _ hpb=>by rcases p with _ |p<;>simp[lM] at hpb,(Adv.refl _ _).weak fun p b hpb=>by rcases p with _ |p<;>simp[lM] at hpb⟩
section
variable {X:ChR} {x:qGf} {j:Nat} {w:Int} {v:Nat→UInt8} {y:RwP} {k:UInt64} {t sp sr fm am bm:Nat}
theorem qP3 {n:Nat} {s:Nat→UInt64} {F:Fst} (h:qAF n s F w v≠0):qBj n s F w v=F:=if_neg h
theorem jCg (h:qET X) (hl:X.l[j]?=some x) (hy:y.n≤3000∧y.n≤y.c):qET (hrO X j x w v y):=by
 have hm:x∈X.l:=List.mem_of_getElem? hl
 have hin:∀z∈(hrO X j x w v y).l,z=slU X x w v (qCS y)∨z∈X.l:=fun z hz=>by
  rcases List.mem_or_eq_of_mem_set hz with h1|h1
  ·exact .inr h1
  ·exact .inl h1
 have hR:∀b:BytL,(∃r∈X.R,b=qCS r)→∃r∈(hrO X j x w v y).R,b=qCS r:=fun b ⟨r,hr,e⟩=>by
  refine⟨r,?_,e⟩
  show r∈(if qAF X.n X.s x.F w v=0 then X.R++[y] else X.R)
  split
  ·exact List.mem_append_left _ hr
  ·exact hr
 refine⟨h.good,?_,?_,fun z hz=>?_,fun z hz=>?_,fun z hz=>?_,fun z hz e he=>?_,fun r hr=>?_⟩
 ·show(X.l.set j _).length≤20
  rw[List.length_set];exact h.len
 ·show((X.l.set j _).map qGf.key).Nodup
  rw[qEM (a':=slU X x w v (qCS y)) hl qGf.key rfl];exact h.keys
 ·rcases hin z hz with rfl|h1
  ·exact(h.vok x hm).vote w v
  ·exact h.vok z h1
 ·rcases hin z hz with rfl|h1
  ·have h2:=h.blen x hm
   by_cases he:qAF X.n X.s x.F w v=0
   ·have e1:(slU X x w v (qCS y)).B=qCj sR v (qCS y) x.B:=if_pos he
    have e2:(slU X x w v (qCS y)).F=x.F++[(w,v)]:=(qIq he).1
    have h3:(qCj sR v (qCS y) x.B).length≤x.B.length+1:=by
     rw[qZn]
     split
     ·exact Nat.le_succ _
     ·exact Nat.le_refl _
    rw[e1,e2,List.length_append]
    exact Nat.le_trans h3 (Nat.succ_le_succ h2)
   ·have e1:(slU X x w v (qCS y)).B=x.B:=if_neg he
    have e2:(slU X x w v (qCS y)).F=x.F:=qP3 he
    rw[e1,e2];exact h2
  ·exact h.blen z h1
 ·rcases hin z hz with rfl|h1
  ·by_cases he:qAF X.n X.s x.F w v=0
   ·rw[show(slU X x w v (qCS y)).B=qCj sR v (qCS y) x.B from if_pos he]
    exact KD.put qMk (h.kd x hm)
   ·rw[show(slU X x w v (qCS y)).B=x.B from if_neg he];exact h.kd x hm
  ·exact h.kd z h1
 ·rcases hin z hz with rfl|h1
  ·by_cases hE:qAF X.n X.s x.F w v=0
   ·rw[show(slU X x w v (qCS y)).B=qCj sR v (qCS y) x.B from if_pos hE] at he
    rcases qT7 qMk he with rfl|he
    ·refine⟨y,?_,rfl⟩
     show y∈(if qAF X.n X.s x.F w v=0 then X.R++[y] else X.R)
     rw[if_pos hE];simp
    ·exact hR _ (h.row x hm e he)
   ·rw[show(slU X x w v (qCS y)).B=x.B from if_neg hE] at he
    exact hR _ (h.row x hm e he)
  ·exact hR _ (h.row z h1 e he)
 ·change r∈(if qAF X.n X.s x.F w v=0 then X.R++[y] else X.R) at hr
  split at hr
  ·rcases List.mem_append.1 hr with hr|hr
   ·exact h.rlen r hr
   ·rw[List.mem_singleton.1 hr];exact hy
  ·exact h.rlen r hr
theorem jBT (hD:X.D=[]) (hs:slX X k=none):k∉X.l.map qGf.key:=fun hc=>by
 obtain⟨x,hx,hk⟩:=List.mem_map.1 hc
 have h1:=qYx hs
 rw[hD,qKh] at h1
 have h2:=qKm h1 (x.key,some (x.t,x.bm)) (List.mem_map.2 ⟨x,hx,rfl⟩)
 rw[hk] at h2
 have:eqW k k=true:=qFz.2 rfl
 rw[this] at h2;cases h2
theorem qXi (h:qET X) (hD:X.D=[]) (hs:slX X k=none) (h20:¬X.l.length=20) (hv:qAF X.n X.s [] w v=0) (hy:y.n≤3000∧y.n≤y.c):qET (hrN X k w v y t sp sr fm am bm):=by
 have hin:∀z∈(hrN X k w v y t sp sr fm am bm).l,z=slN k w v y t sp sr fm am bm∨z∈X.l:=fun z hz=>by
  rcases List.mem_append.1 hz with h1|h1
  ·exact .inr h1
  ·exact .inl (List.mem_singleton.1 h1)
 have hV:VOk X.n X.s [(w,v)]:=by
  have h1:=(VOk.nil (n:=X.n) (s:=X.s) h.good.2).vote w v
  rw[(qIq hv).1] at h1;exact h1
 refine⟨h.good,?_,?_,fun z hz=>?_,fun z hz=>?_,fun z hz=>?_,fun z hz e he=>?_,fun r hr=>?_⟩
 ·show(X.l++[_]).length≤20
  have:=h.len
  rw[List.length_append]
  show X.l.length+1≤20
  omega
 ·show((X.l++[_]).map qGf.key).Nodup
  rw[List.map_append,List.nodup_append]
  refine⟨h.keys,by simp,fun a ha b hb=>?_⟩
  simp at hb;subst hb
  exact fun e=>jBT hD hs (e▸ha)
 ·rcases hin z hz with rfl|h1
  ·exact hV
  ·exact h.vok z h1
 ·rcases hin z hz with rfl|h1
  ·exact Nat.le_refl 1
  ·exact h.blen z h1
 ·rcases hin z hz with rfl|h1
  ·exact List.pairwise_singleton _ _
  ·exact h.kd z h1
 ·rcases hin z hz with rfl|h1
  ·refine⟨y,List.mem_append_right _ (List.mem_singleton.2 rfl),?_⟩
   rw[List.mem_singleton.1 he]
  ·obtain⟨r,hr,e1⟩:=h.row z h1 e he
   exact⟨r,List.mem_append_left _ hr,e1⟩
 ·rcases List.mem_append.1 hr with hr|hr
  ·exact h.rlen r hr
  ·rw[List.mem_singleton.1 hr];exact hy
theorem qTK (h:qET X) (hD:X.D=[]) (k:UInt64) (w:Int) (y:BytL) (v:Nat→UInt8) (hl:y.wn≤3000) (a b c d e f g i:Nat):qET (hrX X k w y v a b c d e f g i):=by
 by_cases hb:unX y≠0∨unH y≠k
 ·rw[(qXS (w:=w) (v:=v) hb).2];exact h
 ·cases hs:slX X k with
  |some x=>
   obtain⟨j,hj,hx,_⟩:=qPr hs
   rw[(qQo (w:=w) (v:=v) hb hs hj).2]
   exact jCg h hx ⟨hl,Nat.le_add_right _ _⟩
  |none=>
   by_cases h20:X.l.length=20
   ·rw[(qXs (w:=w) (v:=v) hb hs h20).2];exact h
   ·by_cases hv:qAF X.n X.s [] w v=0
    ·rw[(qUH hb hs h20 hv).2];exact qXi h hD hs h20 hv ⟨hl,Nat.le_add_right _ _⟩
    ·rw[(qXd hb hs h20 hv).2];exact h
theorem jDO (X:ChR) (k:UInt64) (w:Int) (y:BytL) (v:Nat→UInt8) (a b c d e f g i:Nat):(hrX X k w y v a b c d e f g i).D=X.D:=by
 unfold hrX
 split
 ·rfl
 ·split
  ·rfl
  ·split
   ·rfl
   ·split<;>rfl
end
def awS:Nat→UInt64:=qYz [1,1,1,1]
def qTG (p sp sr h:Nat):ChR:=chN 4 awS p sp sr h
section
variable (p sp sr h t s2 r2 fm am bm:Nat) (v v1:Nat→UInt8) (y1 y2 y3:RwP)
def jEa:qGf:=slN 0 0 v y1 t s2 r2 fm am bm
def qIC:ChR:=hrN (qTG p sp sr h) 0 0 v y1 t s2 r2 fm am bm
def jCt:qGf:=⟨0,t,s2,r2,fm,am,bm,[(0,v),(1,v)],[],[(v,qCS y2)]⟩
def qJu:ChR:=⟨p,h,sp,sr,4,awS,[],[jCt t s2 r2 fm am bm v y2],[y1,y2]⟩
def jD1:qGf:=⟨0,t,s2,r2,fm,am,bm,[(0,v),(1,v)],[(0,())],[(v,qCS y2)]⟩
def qDy:ChR:=⟨p,h,sp,sr,4,awS,[],[jD1 t s2 r2 fm am bm v y2],[y1,y2]⟩
variable {p sp sr h t s2 r2 fm am bm v v1 y1 y2 y3}
theorem jDR:forV awS [(0,v)] v=1:=by
 unfold forV jB6
 simp only[List.length_cons,List.length_nil,qMb]
 rw[show sR (vF [(0,v)] 0) v=true from qGt v]
 rfl
theorem jDn:forV awS [(0,v),(1,v)] v=2:=by
 unfold forV jB6
 simp only[List.length_cons,List.length_nil,qMb]
 rw[show sR (vF [(0,v),(1,v)] 0) v=true from qGt v,show sR (vF [(0,v),(1,v)] 1) v=true from qGt v]
 rfl
theorem jBe:qAF 4 awS [] 0 v=0:=rfl
theorem jBD:qAF 4 awS [(0,v)] 1 v=0:=rfl
theorem qZL (hv:sR v v1=false):qAF 4 awS [(0,v),(1,v)] 0 v1=52:=by
 unfold qAF
 rw[if_neg (by decide),if_neg (by decide),show qAr eqI 0 [((0:Int),v),(1,v)]=some v from rfl]
 simp only[hv]
 rfl
theorem qY6:slX (qIC p sp sr h t s2 r2 fm am bm v y1) 0=some (jEa t s2 r2 fm am bm v y1)∧slI (qIC p sp sr h t s2 r2 fm am bm v y1) 0=some 0:=⟨rfl,rfl⟩
theorem qYA:slX (qJu p sp sr h t s2 r2 fm am bm v y1 y2) 0=some (jCt t s2 r2 fm am bm v y2)∧slI (qJu p sp sr h t s2 r2 fm am bm v y1 y2) 0=some 0:=⟨rfl,rfl⟩
theorem jBX:slX (qDy p sp sr h t s2 r2 fm am bm v y1 y2) 0=some (jD1 t s2 r2 fm am bm v y2)∧slX (qDy p sp sr h t s2 r2 fm am bm v y1 y2) 1=none:=⟨rfl,rfl⟩
theorem jCW:qE6 awS 4 [(0,v)] [(v,qCS y1)]=(fun _=>0,false):=by
 show qRs awS 4 [(0,v)] (fun _=>0,false) v=_
 unfold qRs
 rw[jDR,show qGd 1 (qBm awS 4).a=false from rfl]
 rfl
theorem qWI:qE6 awS 4 [(0,v),(1,v)] [(v,qCS y2)]=(v,true):=by
 show qRs awS 4 [(0,v),(1,v)] (fun _=>0,false) v=_
 unfold qRs
 rw[jDn,show qGd 2 (qBm awS 4).a=true from rfl]
 rfl
theorem jDh:bvF (qIC p sp sr h t s2 r2 fm am bm v y1) 0=false:=by
 unfold bvF;rw[qY6.1];exact congrArg Prod.snd jCW
theorem jDq:bvF (qJu p sp sr h t s2 r2 fm am bm v y1 y2) 0=true∧bvB (qJu p sp sr h t s2 r2 fm am bm v y1 y2) 0=qCS y2:=by
 unfold bvF bvB;rw[qYA.1]
 refine⟨congrArg Prod.snd qWI,?_⟩
 show(qAr sR (qE6 awS 4 [(0,v),(1,v)] [(v,qCS y2)]).1 [(v,qCS y2)]).getD _=_
 rw[qWI]
 simp only[qAr,qGt,if_true]
 rfl
theorem qW7:bvF (qDy p sp sr h t s2 r2 fm am bm v y1 y2) 0=true∧bvB (qDy p sp sr h t s2 r2 fm am bm v y1 y2) 0=qCS y2∧bvF (qDy p sp sr h t s2 r2 fm am bm v y1 y2) 1=false:=by
 unfold bvF bvB;rw[jBX.1,jBX.2]
 refine⟨congrArg Prod.snd qWI,?_,rfl⟩
 show(qAr sR (qE6 awS 4 [(0,v),(1,v)] [(v,qCS y2)]).1 [(v,qCS y2)]).getD _=_
 rw[qWI]
 simp only[qAr,qGt,if_true]
 rfl
theorem jAZ {q:BytL} (hX:unX q=0) (hH:unH q=0) (a b:Nat):qDM (qTG p sp sr h) 0 0 q v=0∧hrX (qTG p sp sr h) 0 0 q v a b t s2 r2 fm am bm=qIC p sp sr h t s2 r2 fm am bm v ⟨a,q.wn,q.wn+b,q.wf⟩:=by
 have h5:=qUH (X:=qTG p sp sr h) (k:=0) (w:=0) (y:=q) (v:=v) (by rw[hX,hH];simp) rfl (fun z=>(by cases(show(0:Nat)=20 from z))) jBe
 exact⟨h5.1,h5.2 ..⟩
theorem qYI {q:BytL} (hX:unX q=0) (hH:unH q=0) (a b c d e f g i:Nat):qDM (qIC p sp sr h t s2 r2 fm am bm v y1) 0 1 q v=0∧hrX (qIC p sp sr h t s2 r2 fm am bm v y1) 0 1 q v a b c d e f g i=qJu p sp sr h t s2 r2 fm am bm v y1 ⟨a,q.wn,q.wn+b,q.wf⟩:=by
 have h3:=qQo (X:=qIC p sp sr h t s2 r2 fm am bm v y1) (k:=0) (w:=1) (y:=q) (v:=v) (by rw[hX,hH];simp) qY6.1 qY6.2
 refine⟨h3.1.trans jBD,(h3.2 ..).trans ?_⟩
 have e1:qBj 4 awS [(0,v)] 1 v=[(0,v),(1,v)]:=(qIq jBD).1
 have e2:qCj sR v (qCS ⟨a,q.wn,q.wn+b,q.wf⟩) [(v,qCS y1)]=[(v,qCS ⟨a,q.wn,q.wn+b,q.wf⟩)]:=by simp[qCj,qGt]
 unfold hrO slU qJu jCt
 show ChR.mk p h sp sr 4 awS [] ([jEa t s2 r2 fm am bm v y1].set 0 ⟨0,t,s2,r2,fm,am,bm,qBj 4 awS [(0,v)] 1 v,[],qCj sR v (qCS ⟨a,q.wn,q.wn+b,q.wf⟩) [(v,qCS y1)]⟩) ([y1]++[_])=_
 rw[e1,e2]
 rfl
theorem qZf {q:BytL} (hX:unX q=0) (hH:unH q=0) (hv:sR v v1=false) (a b c d e f g i:Nat):qDM (qJu p sp sr h t s2 r2 fm am bm v y1 y2) 0 0 q v1=52∧hrX (qJu p sp sr h t s2 r2 fm am bm v y1 y2) 0 0 q v1 a b c d e f g i=qDy p sp sr h t s2 r2 fm am bm v y1 y2:=by
 have h3:=qQo (X:=qJu p sp sr h t s2 r2 fm am bm v y1 y2) (k:=0) (w:=0) (y:=q) (v:=v1) (by rw[hX,hH];simp) qYA.1 qYA.2
 refine⟨h3.1.trans (qZL hv),(h3.2 ..).trans ?_⟩
 have hne:qAF 4 awS [(0,v),(1,v)] 0 v1≠0:=by rw[qZL hv];decide
 have e1:qBj 4 awS [(0,v),(1,v)] 0 v1=[(0,v),(1,v)]:=qP3 hne
 have e2:qBK 4 awS [(0,v),(1,v)] [] 0 v1=[(0,())]:=(qMf (A:=[]) (qZL hv)).2
 unfold hrO slU
 show ChR.mk p h sp sr 4 awS [] ([jCt t s2 r2 fm am bm v y2].set 0 ⟨0,t,s2,r2,fm,am,bm,qBj 4 awS [(0,v),(1,v)] 0 v1,qBK 4 awS [(0,v),(1,v)] [] 0 v1,if qAF 4 awS [(0,v),(1,v)] 0 v1=0 then qCj sR v1 _ [(v,qCS y2)] else[(v,qCS y2)]⟩) (if qAF 4 awS [(0,v),(1,v)] 0 v1=0 then[y1,y2]++[_] else[y1,y2])=_
 rw[e1,e2,if_neg hne,if_neg hne]
 rfl
theorem jBW:rnN (qDy p sp sr h t s2 r2 fm am bm v y1 y2) 0=1∧rnL (qDy p sp sr h t s2 r2 fm am bm v y1 y2) 0 0=y2.n∧rnF (qDy p sp sr h t s2 r2 fm am bm v y1 y2) 0 0=y2.f:=by
 refine⟨(qXH (m:=1) (by decide) (fun j hj=>?_) ?_).symm,?_,?_⟩
 ·rw[show j=0 by omega];exact qW7.1
 ·exact qW7.2.2
 ·show(bvB _ 0).wn=_
  rw[qW7.2.1];rfl
 ·show(bvB _ 0).wf=_
  rw[qW7.2.1];rfl
theorem jAQ:fgN (qDy p sp sr h t s2 r2 fm am bm v y1 y2) 1=1∧qBe (fgX (qDy p sp sr h t s2 r2 fm am bm v y1 y2) 1).D (hgL (fgX (qDy p sp sr h t s2 r2 fm am bm v y1 y2) 1).l).length=false:=⟨rfl,rfl⟩
end
def blL (b:BytL):qBE:=if b.wn=0 then bysZ else qXb 0 1 1 (qVY [b])
def blG (h:UInt64) (b:BytL) (a r:Nat):Grw UInt8:=qT4 h (blL b) a r
def blN (h:UInt64) (b:BytL):Nat:=pkL h (blL b).wn (blL b).wf (blL b).wn
def blF (h:UInt64) (b:BytL):Nat→UInt8:=pkF h (blL b).wn (blL b).wf (blL b).wn
def blQ (h:UInt64) (b:BytL):BytL:=qBB 0 (blN h b) (blN h b) (blF h b)
section
variable {h:UInt64} {b:BytL} {a r:Nat}
theorem qQM (hl:b.wn≤1000):qJx (blL b)=0:=by
 unfold blL
 by_cases h0:b.wn=0
 ·rw[if_pos h0];decide
 ·rw[if_neg h0]
  refine jAR ?_ ?_
  ·rw[qCX,Bool.or_eq_false_iff]
   refine⟨rfl,qFs fun k hk=>?_⟩
   have:k=0:=by have:k<1:=hk;omega
   subst this
   show(!szB b.wn)=false
   rw[qTw.2 ⟨by omega,hl⟩];rfl
  ·exact qFs fun k hk=>by
    have:k=0:=by have:k<1:=hk;omega
    subst this;rfl
theorem qXq (hl:b.wn≤1000):blG h b a r=qAE (blN h b) (blF h b) a r:=by
 unfold blG;rw[qMB (qQM hl)];rfl
theorem qEc (hl:b.wn≤1000):0<blN h b∧blN h b≤2000:=by
 have h1:=qS0 (h:=h) (n:=(blL b).wn) (e:=(blL b).wf) (k:=(blL b).wn)
 refine⟨by unfold blN;omega,?_⟩
 obtain⟨h2,_⟩:=qP8 (qQM hl)
 have h3:=qXL (h:=h) (n:=(blL b).wn) (e:=(blL b).wf) (k:=(blL b).wn) fun i hi=>(h2.2 i hi).2
 have h4:(blL b).wn≤1:=by
  unfold blL
  split
  ·exact Nat.zero_le _
  ·exact Nat.le_refl 1
 unfold blN
 omega
theorem qT2 (hl:b.wn≤1000):gsV (blG h b a r)=.slice (some ⟨a,0,none⟩) (blN h b) (blN h b+r)∧gsE u8C [u8 0] 1 (blG h b a r)=some ⟨a,true,0,spr (blN h b+r) (blN h b) (fun k=>u8 (blF h b k)) (u8 0)⟩:=by
 have h1:=(qEc (h:=h) hl).1
 rw[qXq hl]
 have hz:(qAE (blN h b) (blF h b) a r).z=false:=decide_eq_false (by omega)
 exact⟨qHv hz,by rw[qJl,qMK hz];rfl⟩
theorem qKc (hl:b.wn≤1000) {nm c:Nat}:unX (qBB nm (blN h b) c (blF h b))=0∧unH (qBB nm (blN h b) c (blF h b))=h:=by
 obtain⟨e1,e2⟩:=qZy (h:=h) (a:=0) (r:=0) (qQM hl)
 obtain⟨h1,h2,_⟩:=jDj (h:=h) (l:=blL b) (q:=qBB nm (blN h b) c (blF h b)) (qQM hl) rfl fun k _=>rfl
 exact⟨h1,h2⟩
end
structure ClR where
 h:UInt64
 w:Int
 y:BytL
def jCz (x:ClR):List Value:=[u64 x.h,int x.w,qAJ x.y]
theorem qYC (x:ClR):(jCz x).length=3∧(jCz x).all Value.oneCell'=true:=⟨rfl,rfl⟩
def jEe:ClR:=⟨0,0,qAc none 0⟩
noncomputable def hrY (X:ChR) (k:UInt64) (w:Int) (y:BytL) (v:Nat→UInt8) (a b c d e f g i:Nat):ChR:=⟨X.p,X.h,X.sp,X.sr,X.n,X.s,X.D,(hrX X k w y v a b c d e f g i).l,(hrX X k w y v a b c d e f g i).R⟩
theorem qTF (X:ChR) (k:UInt64) (w:Int) (y:BytL) (v:Nat→UInt8) (a b c d e f g i:Nat):hrY X k w y v a b c d e f g i=hrX X k w y v a b c d e f g i:=by
 unfold hrY hrX
 split
 ·rfl
 ·split
  ·rfl
  ·split
   ·rfl
   ·split<;>rfl
structure qJT where
 wa:Option Addr
 wn:Nat
 wc:Nat
 wb:Nat
 wo:Nat
 wf:Nat→UInt64
def qUZ (q:qJT):Value:=.slice q.wa q.wn q.wc
def jEq (q:qJT):Blk:=⟨q.wb,false,q.wo,qAd q.wn fun k=>u64 (q.wf k)⟩
structure OkU (q:qJT):Prop where
 cap:q.wn≤q.wc
 ad:0<q.wn→q.wa=some ⟨q.wb,q.wo,none⟩
 len:q.wn≤9223372036854775807
def qVE (q:qJT) (b:Blk):Prop:=0<q.wn∧b=jEq q
section
open Go.RowKit Go.WideShapes Go.ChangeShapes Go.ChangeAt Go.Deep
variable {H:Type} {enc:TypeId×Value→H} {P:Program}
theorem qQZ {r:Reach} {b0:Nat} {W:World} {base:Nat} {sp:Nat→Bool} {held:Bool} {t e:TypeId} {v:Value} {d:DataW H} {ps:List MemPlace} (ht:P.underlying t=some (.slice e)) (he:P.underlying e=some (.int .u64))
  (hc:P.cellsOf e=1) (hval:Value.okWide P W r b0 t v) (hd:DataW.Trod enc P W base sp held t v d ps):∃q:qJT,v=.slice q.wa q.wn q.wc∧OkU q∧qCJ (qVE q) W:=by
 obtain⟨a1,len,cap,rfl⟩:=okWide_slice ht hval
 obtain⟨fuel,hf⟩:=hd
 obtain⟨wa,wn,wc,wb,wo,f,e1,e2,e3,e4,_,e6⟩:=qOW (α:=UInt64) u64 (fun _=>True) ht hc (fun n v x hx=>by
  obtain⟨z,hz⟩:=qP0 he hx
  exact⟨z,hz,trivial⟩) hf
 injection e1 with h1 h2 h3
 subst h1 h2 h3
 exact⟨⟨a1,len,cap,wb,wo,f⟩,rfl,⟨e2,e3,e4⟩,fun b ⟨h0,hb⟩=>by subst hb;exact⟨e6 h0,rfl⟩⟩
end
end Go.Eng
namespace Go.Eng
theorem qY7 {X:ChR} (hX:qET X) (k:UInt64) (a r:Nat):(clG (bvB X k) a r).ok:=fun hz=>by
 show(bvB X k).wn=0
 have h1:OkB (bvB X k):=by
  unfold bvB
  cases hs:slX X k with
  |none=>exact qGJ
  |some x=>
   obtain⟨i,_,hi,_⟩:=qPr hs
   exact(hX.look_ok (List.mem_of_getElem? hi) _).1
 refine Nat.eq_zero_of_not_pos fun h0=>?_
 have h2:=h1.ad h0
 have hz':(bvB X k).wa.isNone=true:=hz
 rw[h2] at hz';cases hz'
def gA (p:Nat→Bool) (L:Nat→Nat) (g:Nat→Nat→UInt8) (c d k:Nat):Nat→Option (Nat×qAU):=fun i=>if i<k∧p i=true then some (qC7 c i,qXn (L i) (qC7 d i) (g i)) else none
def qLn (p:Nat→Bool):Nat→Option Nat
 |0=>none
 |k+1=>if p k=true then some k else qLn p k
section
variable {p:Nat→Bool} {L:Nat→Nat} {g:Nat→Nat→UInt8} {c d k n1 n2:Nat}
theorem qPz:∀{k m:Nat},qLn p k=some m→m<k∧p m=true
 |0,m,h=>by cases h
 |k+1,m,h=>by
  unfold qLn at h
  split at h
  ·rename_i h0
   injection h with h;subst h
   exact⟨Nat.lt_succ_self _,h0⟩
  ·obtain⟨h1,h2⟩:=qPz (k:=k) h
   exact⟨by omega,h2⟩
theorem qIz:∀{k i:Nat},i<k→p i=true→∃m,qLn p k=some m
 |0,i,h,_=>absurd h (Nat.not_lt_zero i)
 |k+1,i,h,h0=>by
  unfold qLn
  split
  ·exact⟨k,rfl⟩
  ·rename_i hk
   by_cases e:i=k
   ·subst e;exact absurd h0 hk
   ·exact qIz (k:=k) (by omega) h0
theorem qXW {i:Nat} (hi:i<k):gA p L g (qAy c k n1) (qAy d k n2) (k+1) i=gA p L g c d k i:=by
 unfold gA
 rw[qCa hi,qCa hi]
 by_cases h:p i=true
 ·rw[if_pos ⟨by omega,h⟩,if_pos ⟨hi,h⟩]
 ·rw[if_neg (fun e=>h e.2),if_neg (fun e=>h e.2)]
end
end Go.Eng
end
section
namespace Go.Eng
open Go.RowKit Go.WideShapes Go.ChangeShapes Go.ChangeAt Go.Deep
instance:Inhabited ClR:=⟨jEe⟩
def jDm (n:Nat) (f:Nat→ClR):qAI:=.tab n 3 fun k=>jCz (f k)
structure ClS where
 wa:Option Addr
 wn:Nat
 wc:Nat
 wb:Nat
 wo:Nat
 wf:Nat→ClR
def jDr (x:ClS):Blk:=⟨x.wb,false,x.wo,jDm x.wn x.wf⟩
structure jAD (x:ClS):Prop where
 ad:0<x.wn→x.wa=some ⟨x.wb,x.wo,none⟩
 len:x.wn≤9223372036854775807
 el:∀k,k<x.wn→OkB (x.wf k).y
def qOV (x:ClS) (z:Blk):Prop:=(0<x.wn∧z=jDr x)∨∃k,k<x.wn∧qA2 (x.wf k).y z
section
variable {H:Type} {enc:TypeId×Value→H} {P:Program}
def clB (P:Program) (e u i s:TypeId):Bool:=match P.underlying e with
 |some (.struct fs)=>match fs.toList with
  |[f0,f1,f2]=>(Nat.beq f0.type u&&Nat.beq f0.offset 0)&&((Nat.beq f1.type i&&Nat.beq f1.offset 1)&&(Nat.beq f2.type s&&Nat.beq f2.offset 2))
  | _=>false
 | _=>false
theorem qYH {P:Program} {e u i s:TypeId} (h:clB P e u i s=true):∃f0 f1 f2:Field,P.underlying e=some (.struct #[f0,f1,f2])∧(f0.type=u∧f0.offset=0)∧(f1.type=i∧f1.offset=1)∧(f2.type=s∧f2.offset=2):=by
 unfold clB at h
 split at h
 ·rename_i fs hf
  split at h
  ·rename_i f0 f1 f2 hl
   simp only[Bool.and_eq_true] at h
   obtain⟨⟨a0,b0⟩,⟨a1,b1⟩,a2,b2⟩:=h
   refine⟨f0,f1,f2,?_,⟨Nat.eq_of_beq_eq_true a0,Nat.eq_of_beq_eq_true b0⟩,⟨Nat.eq_of_beq_eq_true a1,Nat.eq_of_beq_eq_true b1⟩,⟨Nat.eq_of_beq_eq_true a2,Nat.eq_of_beq_eq_true b2⟩⟩
   rw[hf]
   have:fs=#[f0,f1,f2]:=by cases fs;simp_all
   rw[this]
  ·cases h
 ·cases h
def GCl (W:World) (x:ClR):Prop:=OkB x.y∧qCJ (qA2 x.y) W
theorem qO0 {r:Reach} {b0:Nat} {W:World} {base:Nat} {sp:Nat→Bool} {held:Bool} {t e u i s b:TypeId} {v:Value} {d:DataW H} {ps:List MemPlace} (ht:P.underlying t=some (.slice e)) (he:clB P e u i s=true)
  (hs:P.underlying s=some (.slice b)) (hb:P.underlying b=some (.int .u8)) (hi:P.underlying i=some (.int .i64)) (hu:P.underlying u=some (.int .u64)) (cs:P.cellsOf s=1) (cb:P.cellsOf b=1) (ci:P.cellsOf i=1) (cu:P.cellsOf u=1) (ce:P.cellsOf e=3)
  (hval:Value.okWide P W r b0 t v) (hd:DataW.Trod enc P W base sp held t v d ps):∃x:ClS,v=.slice x.wa x.wn x.wc∧jAD x∧qCJ (qOV x) W:=by
 obtain⟨f0,f1,f2,hst,g0,g1,g2⟩:=qYH he
 have hin:Inhabited {y:ClR // GCl W y}:=⟨⟨jEe,qGJ,qK6⟩⟩
 rcases qOp (α:={y:ClR // GCl W y}) (fun y=>jCz y.1) (sz:=3) (fun a=>(qYC a.1).1) (by decide) ht ce (fun n cs' x hl h=>by
  obtain⟨xs,m,_,_,_,hlen,hf⟩:=DataW.trod_struct hst h
  obtain⟨c0,c1,c2,rfl⟩:∃c0 c1 c2,cs'=[c0,c1,c2]:=by
   match cs',hl with
   |[c0,c1,c2],_=>exact⟨c0,c1,c2,rfl⟩
  obtain⟨y0,y1,y2,rfl⟩:∃y0 y1 y2,xs=[y0,y1,y2]:=by
   match xs,hlen with
   |[y0,y1,y2],_=>exact⟨y0,y1,y2,rfl⟩
  have k0:=hf 0 f0 rfl
  have k1:=hf 1 f1 rfl
  have k2:=hf 2 f2 rfl
  rw[g0.1,g0.2,cu] at k0
  rw[g1.1,g1.2,ci] at k1
  rw[g2.1,g2.2,cs] at k2
  obtain⟨x0,rfl⟩:=qP0 hu (c:=c0) k0
  obtain⟨x1,rfl,l1,h1⟩:=qWJ hi (c:=c1) k1
  obtain⟨q,rfl,hq,hF⟩:=qRa (v:=c2) hs hb cb k2
  exact⟨⟨⟨x0,x1,q⟩,hq,hF⟩,rfl⟩) hval hd with⟨ao,c,rfl⟩|⟨b',o,n,c,f,rfl,hn,hl,hH⟩
 ·exact⟨⟨ao,0,c,0,0,fun _ =>default⟩,rfl,⟨fun h=>absurd h (Nat.lt_irrefl 0),Nat.zero_le _,fun k hk=>absurd hk (Nat.not_lt_zero k)⟩,fun z hz=>by
   rcases hz with⟨h0,_⟩|⟨k,hk,_⟩
   ·exact absurd h0 (Nat.lt_irrefl 0)
   ·exact absurd hk (Nat.not_lt_zero k)⟩
 ·refine⟨⟨some ⟨b',o,none⟩,n,c,b',o,fun k=>(f k).1⟩,rfl,⟨fun _=>rfl,hl,fun k _=>(f k).2.1⟩,fun z hz=>?_⟩
  rcases hz with⟨_,rfl⟩|⟨k,_,hz⟩
  ·exact⟨hH,rfl⟩
  ·exact(f k).2.2 z hz
end
def c9 (X:ChR) (r:List (Nat×Option Blk)):List (Nat×Option Blk):=(0,chH X)::(1,chK X)::(2,chM X)::(3,chT X)::(4,chS X)::(5,chF X)::(6,chA X)::(7,chB X)::(8,chR X)::r
theorem jB3 (L:List (UInt64×CV)) (b:UInt64) (j:Nat) (hj:j<L.length):(fgD L b).contains j=decide ((qC8 d0W L j).1<b):=by
 unfold fgD lsK
 rw[Bool.eq_iff_iff,List.contains_iff_mem,List.mem_filter,List.mem_range]
 exact⟨fun h=>h.2,fun h=>⟨hj,h⟩⟩
theorem qHY {D:List Nat} {b k:UInt64}:∀(l:List (UInt64×CV)) (i q q':Nat),(∀j h x,l[j]?=some (h,x)→D.contains (i+j)=decide (h<b))→
  (k<b→qDE eqW k D l i q=none)∧(¬k<b→(qDE eqW k D l i q).map (fun p=>p.2.1)=(qDE eqW k [] l i q').map fun p=>p.2.1)
 |[],_,_,_,_=>⟨fun _=>rfl,fun _=>rfl⟩
 |(h,x)::r,i,q,q',hD=>by
  have h0:D.contains i=decide (h<b):=hD 0 h x rfl
  have hr:∀j h' x',r[j]?=some (h',x')→D.contains (i+1+j)=decide (h'<b):=fun j h' x' e=>by
   rw[show i+1+j=i+(j+1) by omega];exact hD (j+1) h' x' e
  constructor
  ·intro hk
   simp only[qDE]
   by_cases hc:h<b
   ·rw[if_pos (by rw[h0];exact decide_eq_true hc)];exact(qHY r (i+1) q q' hr).1 hk
   ·rw[if_neg (by rw[h0];simpa using hc)]
    have e:eqW k h=false:=by
     cases e:eqW k h with
     |false=>rfl
     |true=>rw[qFz.1 e] at hk;exact absurd hk hc
    rw[if_neg (by rw[e];exact Bool.false_ne_true)]
    exact(qHY r (i+1) (q+1) q' hr).1 hk
  ·intro hk
   simp only[qDE]
   rw[if_neg (show¬([]:List Nat).contains i=true by simp)]
   by_cases hc:h<b
   ·rw[if_pos (by rw[h0];exact decide_eq_true hc)]
    have e:eqW k h=false:=by
     cases e:eqW k h with
     |false=>rfl
     |true=>rw[qFz.1 e] at hk;exact absurd hc hk
    rw[if_neg (by rw[e];exact Bool.false_ne_true)]
    exact(qHY r (i+1) q (q'+1) hr).2 hk
   ·rw[if_neg (by rw[h0];simpa using hc)]
    cases e:eqW k h with
    |true=>rfl
    |false=>exact(qHY r (i+1) (q+1) (q'+1) hr).2 hk
theorem qXy {X:ChR} (hD:X.D=[]) (b k:UInt64):(k<b→slX (fgX X b) k=none)∧(¬k<b→slX (fgX X b) k=slX X k):=by
 have h:=qHY (D:=fgD (hgL X.l) b) (b:=b) (k:=k) (hgL X.l) 0 0 0 fun j h x e=>by
  obtain⟨hj,e2⟩:=List.getElem?_eq_some_iff.1 e
  rw[Nat.zero_add,jB3 _ _ _ hj]
  unfold qC8
  rw[List.getD_eq_getElem?_getD,e];rfl
 unfold slX slI
 rw[hD]
 show(k<b→Option.bind ((qDE eqW k (fgD (hgL X.l) b) (hgL X.l) 0 0).map fun p=>p.2.1) (fun j=>X.l[j]?)=none)∧(¬k<b→Option.bind ((qDE eqW k (fgD (hgL X.l) b) (hgL X.l) 0 0).map fun p=>p.2.1) (fun j=>X.l[j]?)=_)
 exact⟨fun hk=>by rw[h.1 hk];rfl,fun hk=>by rw[h.2 hk]⟩
theorem jC9 {X:ChR} (hD:X.D=[]) {b k:UInt64} (h:k<b):bvF (fgX X b) k=false∧bvB (fgX X b) k=qAc none 0:=by
 unfold bvF bvB
 rw[(qXy hD b k).1 h];exact⟨rfl,rfl⟩
theorem jC0 {X:ChR} (hD:X.D=[]) {b k:UInt64} (h:¬k<b):bvB (fgX X b) k=bvB X k:=by
 unfold bvB
 rw[(qXy hD b k).2 h];rfl
theorem jBM {X:ChR} (hD:X.D=[]) (b:UInt64):qCd (fgX X b).D (fgX X b).l.length+fgN X b=qCd X.D X.l.length:=by
 rw[hD,qQJ]
 show qCd (fgD (hgL X.l) b) X.l.length+(X.l.length-qCd (fgD (hgL X.l) b) X.l.length)=X.l.length
 have:=qGB (fgD (hgL X.l) b) X.l.length
 omega
theorem qSM {X:ChR} (h:qET X):qCd X.D X.l.length≤20:=Nat.le_trans (qGB _ _) h.len
theorem jAK {X:ChR} (h:qET X) (b:UInt64):fgN X b≤20:=Nat.le_trans (Nat.sub_le _ _) h.len
def wsP (X:ChR) (q:Nat) (k:Nat):Bool:=!(bvB X (cdU q k)).wa.isNone
def wsL (X:ChR) (q:Nat) (k:Nat):Nat:=(bvB X (cdU q k)).wn
def wsW (X:ChR) (q:Nat) (k:Nat):Nat→UInt8:=(bvB X (cdU q k)).wf
def wsY (X:ChR) (q c d k:Nat):BytL:=qON (clG (bvB X (cdU q k)) (qC7 c k) (qC7 d k))
def plM (m:Nat) (p:Nat→Bool) (L:Nat→Nat) (g:Nat→Nat→UInt8) (c d k:Nat):Option Blk:=match qLn p k with
 |none=>none
 |some j=>some ⟨qC7 c j,true,0,.pile m (gA p L g c d k)⟩
section
variable {m:Nat} {p:Nat→Bool} {L:Nat→Nat} {g:Nat→Nat→UInt8} {c d k n1 n2:Nat}
theorem qY5 (h0:p k=true):plM m p L g (qAy c k n1) (qAy d k n2) (k+1)=some ⟨n1,true,0,.pile m (gA p L g (qAy c k n1) (qAy d k n2) (k+1))⟩:=by
 unfold plM
 rw[show qLn p (k+1)=some k from if_pos h0]
 show some (⟨qC7 (qAy c k n1) k,true,0,_⟩:Blk)=_
 rw[qCo]
theorem jBO (h0:¬p k=true):plM m p L g (qAy c k n1) (qAy d k n2) (k+1)=plM m p L g c d k:=by
 have hg:gA p L g (qAy c k n1) (qAy d k n2) (k+1)=gA p L g c d k:=funext fun i=>by
  by_cases hi:i<k
  ·exact qXW hi
  ·unfold gA
   have h1:¬(i<k+1∧p i=true):=fun e=>by
    by_cases hk:i=k
    ·subst hk;exact h0 e.2
    ·have:=e.1;omega
   rw[if_neg h1,if_neg (fun e=>hi e.1)]
 unfold plM
 rw[show qLn p (k+1)=qLn p k from if_neg h0,hg]
 cases e:qLn p k with
 |none=>rfl
 |some j=>show some (⟨qC7 (qAy c k n1) j,true,0,_⟩:Blk)=some ⟨qC7 c j,true,0,_⟩;rw[qCa (qPz e).1]
theorem jB5 (h0:p k=true):qKG (plM m p L g c d k) ⟨n1,true,0,spr (L k+n2) (L k) (fun j=>u8 (g k j)) (u8 0)⟩ m (gA p L g (qAy c k n1) (qAy d k n2) (k+1)):=by
 refine⟨k,fun i j pc hi hg=>?_⟩
 by_cases hik:i<k
 ·left
  rw[qXW hik] at hg
  have hp:p i=true:=by
   unfold gA at hg
   by_cases h:p i=true
   ·exact h
   ·rw[if_neg (fun e=>h e.2)] at hg;cases hg
  obtain⟨j',hm⟩:=qIz hik hp
  exact⟨_,_,_,by unfold plM;rw[hm],rfl,rfl,hi,hg⟩
 ·right
  unfold gA at hg
  split at hg
  ·rename_i h
   have:i=k:=by omega
   subst this
   injection hg with hg
   injection hg with h1 h2
   rw[qCo] at h1 h2
   refine⟨rfl,h1.symm,.inl ?_⟩
   rw[←h2];rfl
  ·cases hg
end
def wsN (X:ChR) (q c d k:Nat):Option Blk:=plM 20 (wsP X q) (wsL X q) (wsW X q) c d k
theorem qQl {X:ChR} {q c d k n1 n2:Nat} {A:Grw BytL} (hz:A.z=false) (hn:A.n=k+1) (hA:A.f=qAs (wsY X q c d) k fun _ =>qOf (gsV (clG (bvB X (cdU q k)) n1 n2))):
  gsV A=gsV (qAE (k+1) (wsY X q (qAy c k n1) (qAy d k n2)) A.nm A.r)∧gsE qBb [.slice none 0 0] 1 A=gsE qBb [.slice none 0 0] 1 (qAE (k+1) (wsY X q (qAy c k n1) (qAy d k n2)) A.nm A.r):=
 qML hn (by rw[hz,decide_eq_false (by omega)]) fun j hj=>by
  rw[hA]
  unfold qAs
  by_cases h:j<k
  ·rw[if_pos h];unfold wsY;rw[qCa h,qCa h]
  ·have:j=k:=by omega
   subst this
   rw[if_neg h];unfold wsY;rw[qCo,qCo]
   rfl
theorem jDu {X:ChR} {q k a r:Nat} (h:wsP X q k=true):gsE u8C [u8 0] 1 (clG (bvB X (cdU q k)) a r)=some ⟨a,true,0,spr (wsL X q k+r) (wsL X q k) (fun j=>u8 (wsW X q k j)) (u8 0)⟩:=by
 have h1:(bvB X (cdU q k)).wa.isNone=false:=by simpa[wsP] using h
 rw[qJl]
 exact qMK h1
theorem jDM {X:ChR} {q k a r:Nat} (h:wsP X q k=false):gsE u8C [u8 0] 1 (clG (bvB X (cdU q k)) a r)=none:=by
 have h1:(bvB X (cdU q k)).wa.isNone=true:=by simpa[wsP] using h
 rw[qJl]
 exact qZt h1
theorem jA1 {X:ChR} (h:qET X) (q c d k:Nat):OkB (wsY X q c d k):=qOE (qY7 h _ _ _) (Nat.le_trans (qXf h _) (by decide))
theorem jCi {X:ChR} (hX:qET X) {q c d K i:Nat} {w:World} (hb:∀b,roO (wsN X q c d K)=some b→qAl b w) (hi:i<K) (hK:K≤20):qCJ (qA2 (wsY X q c d i)) w:=fun b hb'=>by
 obtain⟨h0,rfl⟩:=hb'
 have h0:0<(bvB X (cdU q i)).wn:=h0
 have hp:wsP X q i=true:=by
  unfold wsP
  cases e:(bvB X (cdU q i)).wa.isNone with
  |false=>rfl
  |true=>
   have h9:(clG (bvB X (cdU q i)) 0 0).n=0:=qY7 hX (cdU q i) 0 0 e
   have h9:(bvB X (cdU q i)).wn=0:=h9
   omega
 obtain⟨m,hm⟩:=qIz (p:=wsP X q) hi hp
 have h1:=(hb ⟨qC7 c m,false,0,.pile 20 (gA (wsP X q) (wsL X q) (wsW X q) c d K)⟩ (by unfold wsN plM;rw[hm];rfl)).obj
 have h2:qEr (qC7 c i) false (qXn (wsL X q i) (qC7 d i) (wsW X q i)) w:=h1.1 i _ _ (by omega) (by unfold gA;rw[if_pos ⟨hi,hp⟩])
 have h3:qAl ⟨qC7 c i,false,0,spr (wsL X q i+qC7 d i) (wsL X q i) (fun j=>u8 (wsW X q i j)) (u8 0)⟩ w:=⟨h2.lt,h2.cell,(fun h=>by cases h),trivial⟩
 exact⟨qBu h3,rfl⟩
end Go.Eng
end
