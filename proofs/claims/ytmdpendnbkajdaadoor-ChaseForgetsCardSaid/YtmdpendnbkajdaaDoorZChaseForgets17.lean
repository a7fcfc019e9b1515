/-
  Many in one: Jou, Jou2, Srt, Jou3, Pool, Pool2, Jou4, Jou5, Jou6, Jou7, Jou8, Jou9, Pool3, Pool4, Pool5, Pool6, Pool7, Pool10, Pool11, Pool12, Pool13, Pool14, PoFn, PoTw, PoRd, PoUn, CodQ, Pool15, Pool8, Pool9, Pool16, Pool17, DoRd, Pool20, DoUn, DoPk.
-/
import Derived.Test.YtmdpendnbkajdaaDoorZChaseForgets16
import Derived.ChangeArms
import Derived.Laws.BytesString
set_option linter.unusedSectionVars false
set_option linter.unusedVariables false
set_option linter.unusedSimpArgs false
set_option maxRecDepth 100000
set_option maxHeartbeats 1000000
section
namespace Go.Eng
open Go.RowKit Go.WideShapes Go.ChangeShapes Go.ChangeAt Go.Deep
def qGr (f:Nat→UInt8) (n:Nat):ByteArray:=⟨((List.range n).map f).toArray⟩
theorem qN9 (f:Nat→UInt8):∀(l:List Nat) (s:ByteArray),(l.map fun k=>((f k).toNat:Int)).foldl (fun r n=>r.push (UInt8.ofNat n.toNat)) s=⟨s.data++(l.map f).toArray⟩
 |[],s=>by simp
 |k::l,s=>by
  simp only[List.map_cons,List.foldl_cons]
  rw[qN9 f l]
  simp[ByteArray.push]
theorem qKA {P:Program} {src dst e:TypeId} (hs:P.underlying src=some (.slice e)) (he:P.underlying e=some (.int .u8)) (hd:P.underlying dst=some .string) (q:BytL) (hq:OkB q):
  qJj (qA2 q) P (qTc src dst (qAJ q)) [] 0 (fun _=>.string (qGr q.wf q.wn)) (fun _=>[]):=by
 intro w hall ha hF
 refine⟨[],w,rfl,.inl ?_,qCL.refl (fun p b h=>by simp[lM] at h) ha⟩
 have key:(Conv.bytesToString (qAJ q)).run P w=.ok (.string (qGr q.wf q.wn)) w:=by
  rcases Nat.eq_zero_or_pos q.wn with h0|h0
  ·unfold qAJ
   rw[h0]
   cases q.wa with
   |none=>rfl
   |some a=>
    have:=run_bytesToString (P:=P) w a 0 q.wc [] (by
     have:=run_loadCells (P:=P) (w:=w) a 0 (fun _=>undef) (fun j hj=>by omega)
     simpa using this)
    rw[this];rfl
  ·have h1:=(hF (qK5 q) ⟨h0,rfl⟩).1
   unfold qAJ
   rw[hq.ad h0]
   have h2:=run_loadCells (P:=P) (w:=w) ⟨q.wb,q.wo,none⟩ q.wn (fun k=>u8 (q.wf k)) (fun j hj=>by
    have:=h1.cell j (u8 (q.wf j)) (qAL hj)
    rw[qBs];exact this)
   have h3:=run_bytesToString (P:=P) w ⟨q.wb,q.wo,none⟩ q.wn q.wc ((List.range q.wn).map fun k=>((q.wf k).toNat:Int)) (by
    rw[h2];congr 2;rw[List.map_map];rfl)
   rw[h3]
   congr 2
   rw[qN9]
   unfold qGr
   congr 1
   exact Array.empty_append
 show((convert src dst (qAJ q)).bind fun v=>Sem.pure (Next.value v)).run P w=_
 have e1:=run_convert_bytes_string (P:=P) w src dst e q.wa q.wn q.wc hs he hd
 show(convert src dst (qAJ q) >>= fun v=>Sem.pure (Next.value v)).run P w=_
 rw[Sem.run_bind,show(convert src dst (qAJ q)).run P w=_ from e1,show(Conv.bytesToString (.slice q.wa q.wn q.wc)).run P w=_ from key]
 rfl
theorem qJj.mono {F F':Blk→Prop} {P:Program} {s:Sem Next} {bs:List Blk} {k:Nat} {v:List Nat→Value} {out:List Nat→List (Option Blk)} (hs:∀b,F b→F' b) (h:qJj F P s bs k v out):qJj F' P s bs k v out:=
 fun w hb ha hF=>h w hb ha fun b hb'=>hF b (hs b hb')
def NmF (F F':Blk→Prop):Prop:=∀z,F z→∃y,F' y∧∀j,z.has j→y.has j
theorem qTN {F F':Blk→Prop} (h:∀z,F z→F' z):NmF F F':=fun z hz=>⟨z,h z hz,fun _ h=>h⟩
theorem jBF {F G F':Blk→Prop} (h1:NmF F F') (h2:NmF G F'):NmF (fun b=>F b∨G b) F':=fun z hz=>hz.elim (h1 z) (h2 z)
def jAf (F F':Blk→Prop):Prop:=∀w:World,qCJ F' w→qCJ F w
theorem qTq {F F':Blk→Prop} (h:∀z,F z→F' z):jAf F F':=fun w hF z hz=>hF z (h z hz)
theorem jBl {F G F':Blk→Prop} (h1:jAf F F') (h2:jAf G F'):jAf (fun b=>F b∨G b) F':=fun w hF=>qKC (h1 w hF) (h2 w hF)
theorem qAb.pad1 {F:Blk→Prop} {P:Program} {f:FuncId} {args:List Value} {bs:List (Option Blk)} {v v2:List Nat→Value} {out out2:List Nat→List (Option Blk)} (h:qAb F P f args bs 1 v out) (hv:∀a,v2 [a,0]=v [a]) (ho:∀a,out2 [a,0]=out [a]):
  qAb F P f args bs 2 v2 out2:=fun w hm ha hF=>(h w hm ha hF).mono fun e w' ⟨ns,hns,he,hp⟩=>by
 match ns,hns with
 |[a],_=>exact⟨[a,0],rfl,by rw[hv];exact he,by rw[ho];exact hp⟩
theorem qAb.pad0 {F:Blk→Prop} {P:Program} {f:FuncId} {args:List Value} {bs:List (Option Blk)} {k:Nat} {v v2:List Nat→Value} {out out2:List Nat→List (Option Blk)} (h:qAb F P f args bs 0 v out) (ns0:List Nat) (hk:ns0.length=k) (hv:v2 ns0=v []) (ho:∀p b,lM (out2 ns0) p=some b→lM (out []) p=some b):
  qAb F P f args bs k v2 out2:=fun w hm ha hF=>(h w hm ha hF).mono fun e w' ⟨ns,hns,he,hp⟩=>by
 match ns,hns with
 |[],_=>exact⟨ns0,hk,by rw[hv];exact he,hp.sub ho⟩
def clG (q:BytL) (a r:Nat):Grw UInt8:=⟨q.wa.isNone,a,q.wn,r,q.wf⟩
def jAx (s u:ByteArray):Bool:=s.toList==u.toList
theorem qST {P:Program} {t t':TypeId} {x y:Operand} (s u:ByteArray):qB0 P (.binOp .eql t x y t') [.string s,.string u] (.bool (jAx s u)):=qAv rfl rfl
theorem qLL (f:Nat→UInt8) (n:Nat):(qGr f n).toList=(List.range n).map f:=by
 rw[ByteArray.toList_eq];simp[qGr]
theorem qZU (f g:Nat→UInt8) (n m:Nat):jAx (qGr f n) (qGr g m)=qCH f n g m:=by
 unfold jAx
 rw[qLL,qLL,Bool.eq_iff_iff,beq_iff_eq]
 constructor
 ·intro h
  have hl:n=m:=by have:=congrArg List.length h;simpa using this
  subst hl
  refine decide_eq_true ⟨rfl,fun k hk=>?_⟩
  have h1:=congrArg (fun l=>l[k]?) h
  simp only[List.getElem?_map,List.getElem?_range hk,Option.map_some] at h1
  exact Option.some.inj h1
 ·intro h
  obtain⟨rfl,hk⟩:=of_decide_eq_true h
  exact List.map_congr_left fun k hk'=>hk k (List.mem_range.1 hk')
def tzP:Nat→Nat→Nat
 |0,_=>0
 |k+1,n=>if n%2=0 then tzP k (n/2)+1 else 0
theorem qPy (y:Nat):∀(x fuel:Nat),x<fuel→tzP fuel (2^x*(2*y+1))=x
 |0,fuel+1,_=>by
  unfold tzP;rw[if_neg (by omega)]
 |x+1,fuel+1,h=>by
  have e:2^(x+1)*(2*y+1)=2*(2^x*(2*y+1)):=by rw[Nat.pow_succ,Nat.mul_comm (2^x) 2,Nat.mul_assoc]
  unfold tzP
  rw[e,if_pos (by omega),Nat.mul_div_cancel_left _ (by omega),qPy y x fuel (by omega)]
def un1 (n:Nat):Nat:=tzP n n
def un2 (n:Nat):Nat:=n/2^un1 n/2
theorem qJF (x y:Nat):un1 (2^x*(2*y+1))=x:=by
 refine qPy y x _ ?_
 have h1:=Nat.lt_two_pow_self (n:=x)
 have h2:2^x*1≤2^x*(2*y+1):=Nat.mul_le_mul_left _ (by omega)
 omega
theorem qL6 (x y:Nat):un2 (2^x*(2*y+1))=y:=by
 unfold un2
 rw[qJF,Nat.mul_div_cancel_left _ (Nat.two_pow_pos x)]
 omega
def qC7:Nat→Nat→Nat
 |c,0=>un1 c
 |c,i+1=>qC7 (un2 c) i
def jBw:Nat→(Nat→Nat)→Nat
 |0,_=>0
 |n+1,f=>2^f 0*(2*jBw n (fun i=>f (i+1))+1)
theorem qHW:∀(n:Nat) (f:Nat→Nat) (i:Nat),i<n→qC7 (jBw n f) i=f i
 |n+1,f,0,_=>qJF _ _
 |n+1,f,i+1,h=>by
  show qC7 (un2 (2^f 0*(2*jBw n (fun i=>f (i+1))+1))) i=_
  rw[qL6,qHW n _ i (by omega)]
def qAy (c k x:Nat):Nat:=jBw (k+1) fun i=>if i<k then qC7 c i else x
theorem qCa {c k x i:Nat} (h:i<k):qC7 (qAy c k x) i=qC7 c i:=by
 unfold qAy;rw[qHW _ _ _ (by omega),if_pos h]
theorem qCo (c k x:Nat):qC7 (qAy c k x) k=x:=by
 unfold qAy;rw[qHW _ _ _ (by omega),if_neg (by omega)]
def qBb (q:BytL):List Value:=[qAJ q]
theorem qI7 (q:BytL):(qBb q).length=1∧(qBb q).all Value.oneCell'=true:=⟨rfl,rfl⟩
section
variable {L:Nat→Nat} {f:Nat→Nat→UInt8}
def elF (c d:Nat) (L:Nat→Nat) (f:Nat→Nat→UInt8) (k:Nat):BytL:=qBB (qC7 c k) (L k) (L k+qC7 d k) (f k)
def qXn (n r:Nat) (g:Nat→UInt8):qAU:=.row (n+r) 1 fun k=>[if k<n then u8 (g k) else u8 0]
def plG (c d:Nat) (L:Nat→Nat) (f:Nat→Nat→UInt8) (k:Nat):Option (Nat×qAU):=some (qC7 c k,qXn (L k) (qC7 d k) (f k))
def plO (n c d:Nat) (L:Nat→Nat) (f:Nat→Nat→UInt8):Option Blk:=match n with
 |0=>none
 |m+1=>some ⟨qC7 c m,true,0,.pile (m+1) (plG c d L f)⟩
theorem qMI (n c d:Nat):plO (n+1) c d L f=some ⟨qC7 c n,true,0,.pile (n+1) (plG c d L f)⟩:=rfl
theorem qT0 {k c d n1 n2:Nat} {x:BytL} (hL:x.wn=L k) (hf:x.wf=f k):
  qKG (plO k c d L f) ⟨n1,true,0,spr (x.wn+n2) x.wn (fun j=>u8 (x.wf j)) (u8 0)⟩ (k+1) (plG (qAy c k n1) (qAy d k n2) L f):=by
 refine⟨k,fun i j pc hi hg=>?_⟩
 injection hg with hg
 injection hg with h1 h2
 by_cases hik:i<k
 ·left
  cases k with
  |zero=>omega
  |succ m=>
   refine⟨_,_,_,qMI m c d,rfl,rfl,hik,?_⟩
   rw[←h1,←h2,qCa hik,qCa hik];rfl
 ·right
  have:i=k:=by omega
  subst this
  refine⟨rfl,by rw[←h1,qCo],.inl ?_⟩
  rw[←h2,qCo,hL,hf]
  rfl
theorem qML {α:Type} {C:α→List Value} {zc:List Value} {sz:Nat} {A:Grw α} {S:Nat} {F:Nat→α} (h1:A.n=S) (h2:A.z=decide (S=0)) (h3:∀j,j<S→C (A.f j)=C (F j)):
  gsV A=gsV (qAE S F A.nm A.r)∧gsE C zc sz A=gsE C zc sz (qAE S F A.nm A.r):=by
 subst h1
 refine⟨?_,?_⟩
 ·unfold gsV gsA gsC qAE
  simp only[h2]
 ·unfold gsE qAE
  rw[h2]
  cases hd:decide (A.n=0) with
  |true=>rfl
  |false=>
   simp only
   congr 2
   unfold qF8
   congr 1
   funext k
   by_cases h:k<A.n
   ·rw[if_pos h,if_pos h];exact h3 k h
   ·rw[if_neg h,if_neg h]
def qOf:Value→BytL
 |.slice a n c=>⟨a,n,c,0,0,fun _=>0⟩
 | _=>qAc none 0
theorem qN0 {k c d n1 n2:Nat} {x:BytL} (hL:x.wn=L k) (hf:x.wf=f k) {A:Grw BytL} (hz:A.z=false) (hn:A.n=k+1) (hA:A.f=qAs (elF c d L f) k fun _ =>qOf (.slice (some ⟨n1,0,none⟩) x.wn (x.wn+n2))):
  gsV A=gsV (qAE (k+1) (elF (qAy c k n1) (qAy d k n2) L f) A.nm A.r)∧gsE qBb [Value.slice none 0 0] 1 A=gsE qBb [Value.slice none 0 0] 1 (qAE (k+1) (elF (qAy c k n1) (qAy d k n2) L f) A.nm A.r):=
 qML hn (by rw[hz,decide_eq_false (by omega)]) fun j hj=>by
  rw[hA]
  unfold qAs
  by_cases h:j<k
  ·rw[if_pos h];unfold elF;rw[qCa h,qCa h]
  ·have:j=k:=by omega
   subst this
   rw[if_neg h];unfold elF;rw[qCo,qCo,←hL]
   rfl
end
end Go.Eng
end
section
namespace Go.Eng
def qXu:Nat→Nat→Nat→Nat
 |0,c,x=>2^x*(2*un2 c+1)
 |i+1,c,x=>2^un1 c*(2*qXu i (un2 c) x+1)
theorem qNK:∀(i c x k:Nat),qC7 (qXu i c x) k=if k=i then x else qC7 c k
 |0,c,x,0=>by show un1 _=_;unfold qXu;rw[qJF];rfl
 |0,c,x,k+1=>by show qC7 (un2 _) k=_;unfold qXu;rw[qL6,if_neg (by omega)];rfl
 |i+1,c,x,0=>by show un1 _=_;unfold qXu;rw[qJF,if_neg (by omega)];rfl
 |i+1,c,x,k+1=>by
  show qC7 (un2 (qXu (i+1) c x)) k=_
  unfold qXu
  rw[qL6,qNK i (un2 c) x k]
  by_cases h:k=i
  ·rw[if_pos h,if_pos (by omega)]
  ·rw[if_neg h,if_neg (by omega)];rfl
def cdU (c k:Nat):UInt64:=UInt64.ofNat (qC7 c k)
def qB4 (c i:Nat) (x:UInt64):Nat:=qXu i c x.toNat
def enU (n:Nat) (g:Nat→UInt64):Nat:=jBw n fun k=>(g k).toNat
theorem qCV (c i:Nat) (x:UInt64) (k:Nat):upd (cdU c) i x k=cdU (qB4 c i x) k:=by
 unfold upd cdU qB4
 rw[qNK]
 by_cases h:k=i
 ·rw[if_pos h,if_pos h,UInt64.ofNat_toNat]
 ·rw[if_neg h,if_neg h]
theorem qQe {n k:Nat} {g:Nat→UInt64} (h:k<n):cdU (enU n g) k=g k:=by
 unfold cdU enU
 rw[qHW n _ k h,UInt64.ofNat_toNat]
def pkN (g x y:Nat):Nat:=if g=0 then x else y
theorem qLO (g:Nat):pkN g 0 1≤1:=by unfold pkN;split<;>omega
theorem qF9 {p:Nat→Prop} (g:Nat) {x y:Nat} (hx:p x) (hy:p y):p (pkN g x y):=by unfold pkN;split<;>assumption
def bG (g:Nat):Bool:=decide (g≠0)
theorem qNN {a z r:Nat} (h1:a≤r) (h2:r<z):a+(r-a)%(z-a)=r:=by
 rw[Nat.mod_eq_of_lt (by omega)];omega
theorem qNM {a z:Nat} (g:Nat) (h:a<z):a≤a+g%(z-a)∧a+g%(z-a)<z:=by
 have:=Nat.mod_lt g (show 0<z-a by omega);omega
theorem qLH {P:Program} {x:Operand} (n:Nat):qB0 P (.assign x) [nat n] (int ((((n+1):Nat):Int)-((1:Nat):Int))):=by
 intro ρ o ho hv
 rw[ho] at hv
 simp only[Op.operands,List.map_cons,List.map_nil,List.cons.injEq,and_true] at hv
 unfold execOp
 rw[ho]
 show some (Next.value (ρ x))=_
 rw[hv,show(((n+1:Nat):Int)-((1:Nat):Int))=(n:Int) by omega];rfl
end Go.Eng
end
section
namespace Go.Eng
open Go.RowKit Go.WideShapes Go.ChangeShapes Go.ChangeAt Go.Deep
theorem qPS {n r:Nat} {f:Nat→Value} {z:Value}:∀j,j<n→(spr (n+r) n f z).get (0+j)=some (f j):=fun j hj=>by
 rw[Nat.zero_add,spr,qAL (by omega),if_pos hj]
def qRw (a b:qBE) (z:Blk):Prop:=qFv a z∨qFv b z
theorem jDw {a b:qBE} {i j:Nat} (hi:i<a.wn) (hj:j<b.wn):∀z,qGc (a.wf i) (b.wf j) z→qRw a b z:=fun z hz=>hz.elim (fun h=>.inl (.inr ⟨i,hi,h⟩)) (fun h=>.inr (.inr ⟨j,hj,h⟩))
def elS (a b:qBE) (i:Nat):Bool:=qCH (a.wf i).wf (a.wf i).wn (b.wf i).wf (b.wf i).wn
def qFb (a b:qBE):Bool:=decide (a.wn=b.wn∧∀i,i<a.wn→elS a b i=true)
theorem qM7 {a b:qBE} (h:a.wn≠b.wn):false=qFb a b:=(decide_eq_false fun e=>h e.1).symm
theorem qNA {a b:qBE} {i:Nat} (hi:i<a.wn) (h:(!elS a b i)=true):false=qFb a b:=(decide_eq_false fun e=>by have:=e.2 i hi;rw[this] at h;cases h).symm
theorem qTW {a b:qBE} {i:Nat} (hn:a.wn=b.wn) (hi:i=a.wn) (h:∀k,k<i→elS a b k=true):true=qFb a b:=(decide_eq_true ⟨hn,fun k hk=>h k (by omega)⟩).symm
theorem qRn {a b:qBE} {i:Nat} (h:∀k,k<i→elS a b k=true) (he:(!elS a b i)=false):∀k,k<i+1→elS a b k=true:=fun k hk=>by
 by_cases hki:k<i
 ·exact h k hki
 ·have:k=i:=by omega
  subst this;simpa using he
end Go.Eng
end
section
namespace Go.Eng
def qLE (p:Nat→Bool) (n:Nat):Bool:=(List.range n).any p
def qO8 (p:Nat→Bool) (n:Nat):Int:=match(List.range n).find? p with
 |some k=>(k:Int)
 |none=>-1
theorem qFN {p:Nat→Bool} {n:Nat}:qLE p n=true↔∃k,k<n∧p k=true:=by
 unfold qLE;rw[List.any_eq_true]
 exact⟨fun⟨k,h1,h2⟩=>⟨k,List.mem_range.1 h1,h2⟩,fun⟨k,h1,h2⟩=>⟨k,List.mem_range.2 h1,h2⟩⟩
theorem qFs {p:Nat→Bool} {n:Nat} (h:∀k,k<n→p k=false):qLE p n=false:=by
 cases e:qLE p n with
 |false=>rfl
 |true=>obtain⟨k,h1,h2⟩:=qFN.1 e;rw[h k h1] at h2;cases h2
theorem qVD {p:Nat→Bool} {n:Nat} (h:qLE p n=false):∀k,k<n→p k=false:=fun k hk=>by
 cases e:p k with
 |false=>rfl
 |true=>rw[qFN.2 ⟨k,hk,e⟩] at h;cases h
theorem qGM {p q:Nat→Bool} {n:Nat} (h:∀k,k<n→p k=q k):qLE p n=qLE q n:=by
 rw[Bool.eq_iff_iff,qFN,qFN]
 exact⟨fun⟨k,h1,h2⟩=>⟨k,h1,by rw[←h k h1];exact h2⟩,fun⟨k,h1,h2⟩=>⟨k,h1,by rw[h k h1];exact h2⟩⟩
theorem qLC {p:Nat→Bool} {n k:Nat} (hk:k<n) (h:p k=true) (hj:∀j,j<k→p j=false):(List.range n).find? p=some k:=by
 rw[List.find?_eq_some_iff_append]
 refine⟨h,List.range k,(List.range' (k+1) (n-(k+1))),?_,fun a ha=>by rw[hj a (List.mem_range.1 ha)];rfl⟩
 rw[List.range_eq_range',List.range_eq_range',show k::List.range' (k+1) (n-(k+1))=List.range' k (n-k) from by rw[show n-k=(n-(k+1))+1 by omega,List.range'_succ]]
 have h2:=List.range'_append (s:=0) (m:=k) (n:=n-k) (step:=1)
 simp only[Nat.zero_add,Nat.one_mul] at h2
 rw[h2,show k+(n-k)=n by omega]
theorem qNh {p:Nat→Bool} {n k:Nat} (hk:k<n) (h:p k=true) (hj:∀j,j<k→p j=false):qO8 p n=(k:Int):=by
 unfold qO8;rw[qLC hk h hj]
theorem qNv {p:Nat→Bool} {n:Nat} (h:∀k,k<n→p k=false):qO8 p n=-1:=by
 unfold qO8
 rw[List.find?_eq_none.2 fun k hk=>by rw[h k (List.mem_range.1 hk)];simp]
theorem qWs (p:Nat→Bool) (n:Nat):(∀k,k<n→p k=false)∨∃k,k<n∧p k=true∧∀j,j<k→p j=false:=by
 cases e:(List.range n).find? p with
 |none=>exact .inl fun k hk=>by simpa using List.find?_eq_none.1 e k (List.mem_range.2 hk)
 |some k=>
  by_cases h:∃k,k<n∧p k=true
  ·right
   obtain⟨k,hk,hp⟩:=h
   induction k using Nat.strongRecOn with
   | _ k ih=>
    by_cases h2:∃j,j<k∧p j=true
    ·obtain⟨j,hj,hpj⟩:=h2;exact ih j hj (by omega) hpj
    ·exact⟨k,hk,hp,fun j hj=>by cases e:p j with
      |false=>rfl
      |true=>exact absurd ⟨j,hj,e⟩ h2⟩
  ·exact .inl fun k hk=>by cases e:p k with
    |false=>rfl
    |true=>exact absurd ⟨k,hk,e⟩ h
theorem qZc (p:Nat→Bool) (n:Nat):decide (qO8 p n≥0)=qLE p n:=by
 rcases qWs p n with h|⟨k,h1,h2,h3⟩
 ·rw[qNv h,qFs h];rfl
 ·rw[qNh h1 h2 h3,qFN.2 ⟨k,h1,h2⟩];exact decide_eq_true (by omega)
def elE (e:Nat→BytL) (x:BytL) (k:Nat):Bool:=qCH (e k).wf (e k).wn x.wf x.wn
def inB (e:Nat→BytL) (n:Nat) (x:BytL):Bool:=qLE (elE e x) n
def twB (e:Nat→BytL) (n:Nat):Bool:=qLE (fun i=>inB e i (e i)) n
def szB (n:Nat):Bool:=decide (1≤n)&&decide (n≤1000)
def qID (l:qBE) (y:BytL) (z:Blk):Prop:=qFv l z∨qA2 y z
theorem jBZ {l:qBE} {y:BytL} {i:Nat} (hi:i<l.wn):∀z,qGc (l.wf i) y z→qID l y z:=fun z hz=>hz.elim (fun h=>.inl (.inr ⟨i,hi,h⟩)) .inr
theorem jDE {l:qBE} {i:Nat} (hi:i<l.wn):∀z,qA2 (l.wf i) z→qFv l z:=fun z hz=>.inr ⟨i,hi,hz⟩
theorem qSt {p:Nat→Bool} {n k:Nat} (hk:k<n) (h:p k=true) (hj:∀j,j<k→p j=false):nat k=int (qO8 p n):=by rw[qNh hk h hj];rfl
theorem qT3 {p:Nat→Bool} {n k:Nat} (hk:k=n) (hj:∀j,j<k→p j=false):int (-1)=int (qO8 p n):=by subst hk;rw[qNv hj]
theorem qJO {p:Nat→Bool} {i:Nat} (h:∀k,k<i→p k=false) (he:p i=false):∀k,k<i+1→p k=false:=fun k hk=>by
 by_cases e:k=i
 ·rw[e];exact he
 ·exact h k (by omega)
theorem qIX {p:Nat→Bool} {n k:Nat} (hk:k<n) (h:p k=true):true=qLE p n:=(qFN.2 ⟨k,hk,h⟩).symm
theorem qLB {p:Nat→Bool} {n k:Nat} (hk:k=n) (hj:∀j,j<k→p j=false):false=qLE p n:=by subst hk;exact(qFs hj).symm
end Go.Eng
end
section
namespace Go.Eng
open Go.RowKit Go.WideShapes Go.ChangeShapes Go.ChangeAt Go.Deep
theorem qCO {bs l:List (Option Blk)} {p:Nat} {b:Blk} (h:lM (bs.map (fun _=>(none:Option Blk))++l) p=some b):∃p',p=bs.length+p'∧lM l p'=some b:=by
 rcases qDo h with⟨h1,h2⟩|⟨h1,h2⟩
 ·exfalso
  unfold lM at h2
  rw[List.getElem?_map] at h2
  cases h3:bs[p]?<;>rw[h3] at h2<;>cases h2
 ·rw[List.length_map] at h1 h2
  exact⟨p-bs.length,by omega,h2⟩
theorem qAb.lendL {F G:Blk→Prop} {P:Program} {f:FuncId} {args:List Value} {bs:List (Option Blk)} {k:Nat} {v:List Nat→Value} {out:List Nat→List (Option Blk)} (h:qAb G P f args [] k v out)
  (hG:∀w:World,qCJ F w→(∀p b,lM bs p=some b→qAl b w)→qCJ G w):qAb F P f args bs k v (fun ns=>bs.map (fun _=>none)++out ns):=by
 intro w hm ha hF
 have hno:∀k,¬qDc (lM ([]:List (Option Blk))) k:=fun k ⟨p,b,h1,_⟩=>by simp[lM] at h1
 have hw:=hG w (fun b hb=>⟨(hF b hb).1,(hF b hb).2.1⟩) hm
 refine Calls.mono (h w (fun p b hb=>by simp[lM] at hb) (fun p q b c _ hb=>by simp[lM] at hb) fun b hb=>⟨(hw b hb).1,(hw b hb).2,fun k _=>hno k⟩) ?_
 rintro e w' ⟨ns,hns,he,hp⟩
 refine⟨ns,hns,he,⟨fun p b hpb=>?_,fun p q b c hpq hpb hqc ho=>?_,⟨hp.adv.os,hp.adv.output,hp.adv.tape,hp.adv.size,fun k hk _=>hp.adv.heap k hk (hno k),fun k ⟨p,b,h1,h2,h3⟩=>?_,fun p b hpb ho=>?_⟩⟩⟩
 ·obtain⟨p',_,h2⟩:=qCO hpb
  exact hp.holds p' b h2
 ·obtain⟨p',h1,h2⟩:=qCO hpb
  obtain⟨q',h3,h4⟩:=qCO hqc
  exact hp.apart p' q' b c (by omega) h2 h4 ho
 ·obtain⟨p',_,h4⟩:=qCO h1
  rcases hp.adv.names k ⟨p',b,h4,h2,h3⟩ with h5|h5
  ·exact absurd h5 (hno k)
  ·exact .inr h5
 ·obtain⟨p',_,h4⟩:=qCO hpb
  have:=hp.adv.ro p' b h4 ho
  simp[lM] at this
section
variable {D:Grw UInt8}
def qON (D:Grw UInt8):BytL:=⟨gsA D,D.n,gsC D,D.nm,0,D.f⟩
theorem jAS:qAJ (qON D)=gsV D:=rfl
theorem qOE (h:D.ok) (hl:D.n≤9223372036854775807):OkB (qON D):=⟨qYN h,fun h0=>qHN (h.pos h0),hl⟩
theorem qQf (h:D.ok) {F:Blk→Prop} {w:World} (hb:∀b,roO (gsE u8C [u8 0] 1 D)=some b→qAl b w):qCJ (qA2 (qON D)) w:=fun b hb'=>by
 obtain⟨h0,rfl⟩:=hb'
 have hz:=h.pos h0
 have h1:=hb ⟨D.nm,false,0,spr (D.n+D.r) D.n (fun k=>u8 (D.f k)) (u8 0)⟩ (by rw[qJl,qMK hz];rfl)
 exact⟨qBu h1,rfl⟩
end
def qSv (A:Grw BytL):qBE:=⟨gsA A,A.n,gsC A,A.nm,0,A.f⟩
theorem qSL {A:Grw BytL} (h:A.ok) (hl:A.n≤9223372036854775807) (he:∀k,k<A.n→OkB (A.f k)):OkS (qSv A):=⟨qYN h,fun h0=>qHN (h.pos h0),hl,he⟩
theorem qUC {A:Grw BytL} (h:A.ok) {w:World} (hb:∀b,roO (gsE qBb [Value.slice none 0 0] 1 A)=some b→qAl b w) (h0:0<A.n):qAl (qJI (qSv A)) w:=by
 have hz:=h.pos h0
 have h1:=hb ⟨A.nm,false,0,qF8 1 (A.n+A.r) A.n (fun k=>qBb (A.f k)) [Value.slice none 0 0]⟩ (by rw[qDJ hz];rfl)
 refine h1.recont (c:=qAd A.n fun k=>qAJ (A.f k)) rfl fun o v hv=>?_
 by_cases ho:o<A.n
 ·rw[qAL ho] at hv
  show(qAI.tab (A.n+A.r) 1 fun k=>if k<A.n then qBb (A.f k) else[Value.slice none 0 0]).get o=some v
  rw[qAI.get_tab (by omega),Nat.div_one,Nat.mod_one,if_pos ho]
  exact hv
 ·rw[qA3 ho] at hv;cases hv
theorem qPJ {A:Grw BytL} (h:A.ok) {w:World} (hb:∀b,roO (gsE qBb [Value.slice none 0 0] 1 A)=some b→qAl b w) (he:∀k,k<A.n→qCJ (qA2 (A.f k)) w):qCJ (qFv (qSv A)) w:=fun b hb'=>by
 rcases hb' with⟨h0,rfl⟩|⟨k,hk,h2⟩
 ·exact⟨qUC h hb h0,rfl⟩
 ·exact he k hk b h2
theorem qZw {n c d:Nat} {L:Nat→Nat} {f:Nat→Nat→UInt8} {w:World} (hb:∀b,roO (plO n c d L f)=some b→qAl b w):∀k,k<n→qCJ (qA2 (elF c d L f k)) w:=fun k hk b hb'=>by
 obtain⟨h0,rfl⟩:=hb'
 cases n with
 |zero=>omega
 |succ m=>
  have h1:=(hb _ (by rw[qMI];rfl)).obj
  have h2:qEr (qC7 c k) false (qXn (L k) (qC7 d k) (f k)) w:=h1.1 k _ _ hk rfl
  have h3:qAl ⟨qC7 c k,false,0,spr (L k+qC7 d k) (L k) (fun j=>u8 (f k j)) (u8 0)⟩ w:=⟨h2.lt,h2.cell,(fun h=>by cases h),trivial⟩
  exact⟨qBu h3,rfl⟩
theorem jAU {c d:Nat} {L:Nat→Nat} {f:Nat→Nat→UInt8} {k:Nat} (h:L k≤9223372036854775807):OkB (elF c d L f k):=qFB (by omega) h
theorem qRv {a b:qBE} (hn:a.wn=b.wn) (h:∀k,k<a.wn→(a.wf k).wn=(b.wf k).wn∧∀i,i<(a.wf k).wn→(a.wf k).wf i=(b.wf k).wf i):qFb a b=true:=decide_eq_true ⟨hn,fun k hk=>decide_eq_true ⟨(h k hk).1,(h k hk).2⟩⟩
theorem qTB {nm n c:Nat} {l:List Value} {f:Nat→BytL} {w:World} (hl:l=(List.range n).map fun k=>qAJ (f k)) (hb:qAl ⟨nm,false,0,.lit l⟩ w) (he:∀k,k<n→qCJ (qA2 (f k)) w):qCJ (qFv (qXb nm n c f)) w:=fun x hx=>by
 rcases hx with⟨h0,rfl⟩|⟨k,hk,hx⟩
 ·subst hl
  refine⟨hb.recont rfl fun j v hj=>?_,rfl⟩
  have hj':(qAd n fun k=>qAJ (f k)).get j=some v:=hj
  show((List.range n).map fun k=>qAJ (f k))[j]?=some v
  by_cases hl:j<n
  ·rw[qAL hl] at hj'
   rw[qHe qAJ f n j hl];exact hj'
  ·rw[qA3 hl] at hj';cases hj'
 ·exact he k hk x hx
end Go.Eng
end
section
namespace Go.Eng
open Go.RowKit
theorem qNO {f g:Nat→UInt8} {n m:Nat} (hn:n=m) (hf:f=g):qCH f n g m=true:=by
 subst hn hf
 exact decide_eq_true ⟨rfl,fun k hk=>rfl⟩
def qZk (x:qBE) (k:Nat):qBE:=⟨x.wa,k,x.wc,x.wb,x.wo,x.wf⟩
theorem qXl {x:qBE} {k:Nat} (h:OkS x) (hk:k≤x.wn):OkS (qZk x k):=⟨Nat.le_trans hk h.cap,fun h0=>h.ad (Nat.lt_of_lt_of_le h0 hk),Nat.le_trans hk h.len,fun j hj=>h.el j (Nat.lt_of_lt_of_le hj hk)⟩
end Go.Eng
end
section
namespace Go.Eng
def jD7 (q:qBE):Value:=.slice q.wa q.wn q.wc
theorem qZW {l:qBE} {k:Nat} (hk:k≤l.wn):jAf (qFv (qZk l k)) (qFv l):=fun w hF z hz=>by
 rcases hz with⟨h0,rfl⟩|⟨i,hi,h⟩
 ·have h1:0<k:=h0
  obtain⟨h2,_⟩:=hF (qJI l) (.inl ⟨by omega,rfl⟩)
  refine⟨h2.recont (c:=qAd k fun k=>qAJ (l.wf k)) rfl fun o v hv=>?_,rfl⟩
  by_cases ho:o<k
  ·rw[qAL ho] at hv
   show(qAd l.wn fun k=>qAJ (l.wf k)).get o=some v
   rw[qAL (by omega)];exact hv
  ·rw[qA3 (by omega)] at hv;cases hv
 ·exact hF z (.inr ⟨i,Nat.lt_of_lt_of_le hi hk,h⟩)
theorem qX6 {l:qBE} {k:Nat} (hk:k≤l.wn):NmF (qFv (qZk l k)) (qFv l):=fun z hz=>by
 rcases hz with⟨h0,rfl⟩|⟨i,hi,h⟩
 ·have h1:0<k:=h0
  exact⟨qJI l,.inl ⟨by omega,rfl⟩,fun j hj=>hj⟩
 ·exact⟨z,.inr ⟨i,Nat.lt_of_lt_of_le hi hk,h⟩,fun j hj=>hj⟩
theorem jB2 {l:qBE} {i:Nat} (hi:i<l.wn):jAf (qID (qZk l i) (l.wf i)) (qFv l):=jBl (qZW (by omega)) (qTq (jDE hi))
theorem jBv {l:qBE} {i:Nat} (hi:i<l.wn):NmF (qID (qZk l i) (l.wf i)) (qFv l):=jBF (qX6 (by omega)) (qTN (jDE hi))
theorem qTw {n:Nat}:szB n=true↔1≤n∧n≤1000:=by unfold szB;rw[Bool.and_eq_true,decide_eq_true_iff,decide_eq_true_iff]
def unB (e:Nat→BytL) (k:Nat):Bool:=!szB (e k).wn
def pkL (h:UInt64) (n:Nat) (e:Nat→BytL):Nat→Nat
 |0=>smN h+smN (UInt64.ofNat n)
 |k+1=>pkL h n e k+byN (e k).wn
def pkF (h:UInt64) (n:Nat) (e:Nat→BytL):Nat→Nat→UInt8
 |0=>qAs (smB h) (smN h) (smB (UInt64.ofNat n))
 |k+1=>qAs (pkF h n e k) (pkL h n e k) (byB (e k).wf (e k).wn)
def pkG (h:UInt64) (n:Nat) (e:Nat→BytL) (k a r:Nat):Grw UInt8:=qAE (pkL h n e k) (pkF h n e k) a r
section
variable {h:UInt64} {n:Nat} {e:Nat→BytL} {k a r a' r':Nat}
theorem qS0:2≤pkL h n e k:=by
 induction k with
 |zero=>have h1:=qFY h;have h2:=qFY (UInt64.ofNat n);show 2≤smN h+smN _;omega
 |succ k ih=>show 2≤pkL h n e k+_;omega
theorem qXL (hs:∀i,i<k→(e i).wn≤1000):pkL h n e k≤18+1009*k:=by
 induction k with
 |zero=>have h1:=qFY h;have h2:=qFY (UInt64.ofNat n);show smN h+smN _≤_;omega
 |succ k ih=>
  have h1:=ih fun i hi=>hs i (by omega)
  have h2:=qS8 (e k).wn
  have h3:=hs k (by omega)
  show pkL h n e k+byN (e k).wn≤_
  omega
end
theorem qMN {l:qBE} (h:(qA1 (decide (10<l.wn)) true (qLE (unB l.wf) l.wn))=false):l.wn≤10∧∀i,i<l.wn→1≤(l.wf i).wn∧(l.wf i).wn≤1000:=by
 rw[qCX,Bool.or_eq_false_iff,decide_eq_false_iff_not] at h
 refine⟨by omega,fun i hi=>?_⟩
 have h2:=qVD h.2 i hi
 unfold unB at h2
 exact qTw.1 (by simpa using h2)
def qJx (l:qBE):Int:=if(qA1 (decide (10<l.wn)) true (qLE (unB l.wf) l.wn))=true then 2 else if twB l.wf l.wn=true then 13 else 0
def qT4 (h:UInt64) (l:qBE) (a r:Nat):Grw UInt8:=if qJx l=0 then pkG h l.wn l.wf l.wn a r else⟨true,0,0,0,fun _=>0⟩
theorem jDl {l:qBE} (h:(qA1 (decide (10<l.wn)) true (qLE (unB l.wf) l.wn))=true):qJx l=2:=by unfold qJx;rw[if_pos h]
theorem jCT {l:qBE} (h:(qA1 (decide (10<l.wn)) true (qLE (unB l.wf) l.wn))=false) (h2:twB l.wf l.wn=true):qJx l=13:=by unfold qJx;rw[if_neg (by rw[h];simp),if_pos h2]
theorem jAR {l:qBE} (h:(qA1 (decide (10<l.wn)) true (qLE (unB l.wf) l.wn))=false) (h2:twB l.wf l.wn=false):qJx l=0:=by unfold qJx;rw[if_neg (by rw[h];simp),if_neg (by rw[h2];simp)]
theorem qTb {l:qBE} (h:qJx l≠0) (x:UInt64) (a r:Nat):qT4 x l a r=⟨true,0,0,0,fun _=>0⟩:=by unfold qT4;rw[if_neg h]
theorem qMB {l:qBE} (h:qJx l=0) (x:UInt64) (a r:Nat):qT4 x l a r=pkG x l.wn l.wf l.wn a r:=by unfold qT4;rw[if_pos h]
def usS (Q:BytL) (E:Int):Nat→BytL×Int
 |0=>(Q,E)
 |k+1=>(rbQ (usS Q E k).1 (usS Q E k).2 1000,rbE (usS Q E k).1 (usS Q E k).2 1000)
def usN (Q:BytL) (E:Int) (k:Nat):Nat:=rbN (usS Q E k).1 (usS Q E k).2 1000
def usW (Q:BytL) (E:Int) (k:Nat):Nat→UInt8:=(ctQ (usS Q E k).1 (usS Q E k).2 1000).wf
def usV (Q:BytL) (E:Int) (c d k:Nat):BytL:=rbV (usS Q E k).1 (usS Q E k).2 1000 (qC7 c k) (qC7 d k)
def gU (Q:BytL) (E:Int) (c d k:Nat):Nat→Option (Nat×qAU):=fun i=>if i<k∧0<usN Q E i then some (qC7 c i,qXn (usN Q E i) (qC7 d i) (usW Q E i)) else none
def lastU (Q:BytL) (E:Int):Nat→Option Nat
 |0=>none
 |k+1=>if 0<usN Q E k then some k else lastU Q E k
def plU (Q:BytL) (E:Int) (c d k:Nat):Option Blk:=match lastU Q E k with
 |none=>none
 |some m=>some ⟨qC7 c m,true,0,.pile 10 (gU Q E c d k)⟩
section
variable {Q:BytL} {E:Int} {c d k n1 n2:Nat}
theorem qQK:∀{k m:Nat},lastU Q E k=some m→m<k∧0<usN Q E m
 |0,m,h=>by cases h
 |k+1,m,h=>by
  unfold lastU at h
  split at h
  ·rename_i h0
   injection h with h;subst h
   exact⟨Nat.lt_succ_self _,h0⟩
  ·obtain⟨h1,h2⟩:=qQK (k:=k) h
   exact⟨by omega,h2⟩
theorem qIA:∀{k i:Nat},i<k→0<usN Q E i→∃m,lastU Q E k=some m
 |0,i,h,_=>absurd h (Nat.not_lt_zero i)
 |k+1,i,h,h0=>by
  unfold lastU
  split
  ·exact⟨k,rfl⟩
  ·rename_i hk
   by_cases e:i=k
   ·subst e;exact absurd h0 hk
   ·exact qIA (k:=k) (by omega) h0
theorem qOQ (h0:0<usN Q E k):plU Q E (qAy c k n1) (qAy d k n2) (k+1)=some ⟨n1,true,0,.pile 10 (gU Q E (qAy c k n1) (qAy d k n2) (k+1))⟩:=by
 unfold plU
 rw[show lastU Q E (k+1)=some k from if_pos h0]
 show some (⟨qC7 (qAy c k n1) k,true,0,_⟩:Blk)=_
 rw[qCo]
theorem qXQ {i:Nat} (hi:i<k):gU Q E (qAy c k n1) (qAy d k n2) (k+1) i=gU Q E c d k i:=by
 unfold gU
 rw[qCa hi,qCa hi]
 by_cases h:0<usN Q E i
 ·rw[if_pos ⟨by omega,h⟩,if_pos ⟨hi,h⟩]
 ·rw[if_neg (fun e=>h e.2),if_neg (fun e=>h e.2)]
theorem qSl (h0:¬0<usN Q E k):plU Q E (qAy c k n1) (qAy d k n2) (k+1)=plU Q E c d k:=by
 have hg:gU Q E (qAy c k n1) (qAy d k n2) (k+1)=gU Q E c d k:=funext fun i=>by
  by_cases hi:i<k
  ·exact qXQ hi
  ·unfold gU
   have h1:¬(i<k+1∧0<usN Q E i):=fun e=>by
    by_cases hk:i=k
    ·subst hk;exact h0 e.2
    ·have:=e.1;omega
   rw[if_neg h1,if_neg (fun e=>hi e.1)]
 unfold plU
 rw[show lastU Q E (k+1)=lastU Q E k from if_neg h0,hg]
 cases e:lastU Q E k with
 |none=>rfl
 |some m=>show some (⟨qC7 (qAy c k n1) m,true,0,_⟩:Blk)=some ⟨qC7 c m,true,0,_⟩;rw[qCa (qQK e).1]
theorem qSh (h0:0<usN Q E k):qKG (plU Q E c d k) ⟨n1,true,0,spr (usN Q E k+n2) (usN Q E k) (fun j=>u8 (usW Q E k j)) (u8 0)⟩ 10 (gU Q E (qAy c k n1) (qAy d k n2) (k+1)):=by
 refine⟨k,fun i j pc hi hg=>?_⟩
 by_cases hik:i<k
 ·left
  rw[qXQ hik] at hg
  have hp:0<usN Q E i:=by
   unfold gU at hg
   by_cases h:0<usN Q E i
   ·exact h
   ·rw[if_neg (fun e=>h e.2)] at hg;cases hg
  obtain⟨m,hm⟩:=qIA hik hp
  exact⟨_,_,_,by unfold plU;rw[hm],rfl,rfl,hi,hg⟩
 ·right
  unfold gU at hg
  split at hg
  ·rename_i h
   have:i=k:=by omega
   subst this
   injection hg with hg
   injection hg with h1 h2
   rw[qCo] at h1 h2
   refine⟨rfl,h1.symm,.inl ?_⟩
   rw[←h2];rfl
  ·cases hg
theorem jBc (hl:∀k,usN Q E k≤9223372036854775807):OkB (usV Q E c d k):=jAY (hl k)
theorem qZ7 {i:Nat} (hi:i<k):usV Q E (qAy c k n1) (qAy d k n2) i=usV Q E c d i:=by unfold usV;rw[qCa hi,qCa hi]
theorem qYw:usV Q E (qAy c k n1) (qAy d k n2) k=rbV (usS Q E k).1 (usS Q E k).2 1000 n1 n2:=by unfold usV;rw[qCo,qCo]
theorem qF7 {A:Grw BytL} (hz:A.z=false) (hn:A.n=k+1) (hA:A.f=qAs (usV Q E c d) k fun _ =>qOf (qAJ (rbV (usS Q E k).1 (usS Q E k).2 1000 n1 n2))):
  gsV A=gsV (qAE (k+1) (usV Q E (qAy c k n1) (qAy d k n2)) A.nm A.r)∧gsE qBb [Value.slice none 0 0] 1 A=gsE qBb [Value.slice none 0 0] 1 (qAE (k+1) (usV Q E (qAy c k n1) (qAy d k n2)) A.nm A.r):=
 qML hn (by rw[hz,decide_eq_false (by omega)]) fun j hj=>by
  rw[hA]
  unfold qAs
  by_cases h:j<k
  ·rw[if_pos h,qZ7 h]
  ·have:j=k:=by omega
   subst this
   rw[if_neg h,qYw];rfl
end
structure RdR (C:Grw UInt8) (Q:BytL):Prop where
 ok:OkB Q
 le:Q.wn≤100000
 hold:∀w:World,(∀b,roO (gsE u8C [u8 0] 1 C)=some b→qAl b w)→qCJ (qA2 Q) w
 nm:0<Q.wn→C.z=false∧Q.wb=C.nm
theorem RdR.small {C:Grw UInt8} {Q:BytL} (h:RdR C Q) (E:Int) (x:UInt64):RdR C (rsQ Q E x):=
 ⟨qXN h.ok E x,Nat.le_trans (qNT _ _ _) h.le,fun w hw=>qQF (h.hold w hw),fun h0=>by
  have h1:=qNT Q E x
  rw[jBB];exact h.nm (by omega)⟩
theorem RdR.byts {C:Grw UInt8} {Q:BytL} (h:RdR C Q) (E m:Int):RdR C (rbQ Q E m):=
 ⟨jBb h.ok E m,Nat.le_trans (jCj _ _ _) h.le,fun w hw=>qWt (h.hold w hw),fun h0=>by
  have h1:=jCj Q E m
  rw[jDt];exact h.nm (by omega)⟩
theorem RdR.us {C:Grw UInt8} {Q:BytL} (h:RdR C Q) (E:Int):∀k,RdR C (usS Q E k).1
 |0=>h
 |k+1=>(RdR.us h E k).byts _ _
theorem qAG {q:BytL} (hq:OkB q) (hl:q.wn≤100000) (a r:Nat):RdR (cpG q a r) (qDG (cpG q a r)):=
 ⟨qZP (qTk hq a r) (by show q.wn≤_;omega),hl,fun w hw=>qVs (qTk hq a r) hw,fun h0=>⟨(qTk hq a r).pos h0,rfl⟩⟩
theorem RdR.lend {F:Blk→Prop} {P:Program} {fn:FuncId} {args:List Value} {B:Blk} {n:Nat} {v:List Nat→Value} {o:List Nat→Option Blk} {nw:List Nat→List (Option Blk)} {C:Grw UInt8} {Q:BytL} (h:RdR C Q)
  (hr:qAt (qA2 Q) P fn args [B] n v (fun ns=>o ns::nw ns)) (how:∀ns,qR1 (o ns::none::nw ns)):qAb F P fn args [some B,roO (gsE u8C [u8 0] 1 C)] n v (fun ns=>o ns::none::nw ns):=
 qZ6 hr (fun w _ hb=>h.hold w hb) (qV2 h.nm) jBC how
theorem qII {C:Grw UInt8} {Q:BytL} (h:RdR C Q) (E:Int) (k:Nat):usN Q E k≤100000:=
  Nat.le_trans (rbN_le' (usS Q E k).1 (usS Q E k).2) (h.us E k).le
where rbN_le' (q:BytL) (e:Int):rbN q e 1000≤q.wn:=by
        unfold rbN;split
        · unfold ctN;split
          · exact Nat.zero_le _
          · rename_i h1;rw[Nat.div_one] at h1;exact Nat.le_trans (by omega) (qJk q e 1000)
        · exact Nat.zero_le _
theorem qGZ {i n:UInt64} {k:Nat} (e:i.toNat=k) (h:decide (i<n)=true):(i+1).toNat=k+1∧k<n.toNat:=by
 have h1:=UInt64.lt_iff_toNat_lt.1 (of_decide_eq_true h)
 have h2:=n.toNat_lt
 refine⟨?_,by omega⟩
 rw[UInt64.toNat_add,show(1:UInt64).toNat=1 from rfl,Nat.mod_eq_of_lt (by omega),e]
theorem qJa {i n:UInt64} {k:Nat} (e:i.toNat=k) (hk:k≤n.toNat) (h:decide (i<n)=false):k=n.toNat:=by
 have h1:¬i.toNat<n.toNat:=fun h2=>of_decide_eq_false h (UInt64.lt_iff_toNat_lt.2 h2)
 omega
structure qAS (Q R:BytL):Prop where
 n:Q.wn=R.wn
 f:Q.wf=R.wf
 z:Q.wa.isNone=R.wa.isNone
theorem qLI (A:Option Addr) (c k:Nat):(qBo A c k 1).isNone=A.isNone:=by
 unfold qBo
 by_cases h:c=k
 ·rw[if_pos h]
 ·rw[if_neg h];cases A<;>rfl
section
variable {Q R:BytL}
theorem qAS.from(h:qAS Q R) (k:Nat):qAS (qM3 Q k) (qM3 R k):=
 ⟨by show Q.wn-k=R.wn-k;rw[h.n],by show(fun i=>Q.wf (i+k))=fun i=>R.wf (i+k);rw[h.f],by
  show(qBo Q.wa Q.wc k 1).isNone=(qBo R.wa R.wc k 1).isNone
  rw[qLI,qLI,h.z]⟩
theorem qAS.rsE (h:qAS Q R) (e:Int) (l:UInt64):rsE Q e l=Go.Eng.rsE R e l:=by unfold Go.Eng.rsE;rw[h.n,h.f]
theorem qAS.rsV (h:qAS Q R) (e:Int) (l:UInt64):rsV Q e l=Go.Eng.rsV R e l:=by unfold Go.Eng.rsV;rw[h.rsE,h.f]
theorem qAS.rsQ (h:qAS Q R) (e:Int) (l:UInt64):qAS (rsQ Q e l) (Go.Eng.rsQ R e l):=by
 unfold Go.Eng.rsQ
 rw[h.rsE]
 split
 ·rw[h.f];exact h.from _
 ·exact h
theorem qAS.tkE (h:qAS Q R) (e:Int) (n:Nat):tkE Q e n=Go.Eng.tkE R e n:=by unfold Go.Eng.tkE;rw[h.n]
theorem qAS.tkQ (h:qAS Q R) (e:Int) (n:Nat):qAS (tkQ Q e n) (Go.Eng.tkQ R e n):=by
 unfold Go.Eng.tkQ
 rw[h.tkE]
 split
 ·exact h.from _
 ·exact h
theorem qAS.ctQ (h:qAS Q R) (e m:Int):qAS (ctQ Q e m) (Go.Eng.ctQ R e m):=h.rsQ _ _
theorem qAS.ctV (h:qAS Q R) (e m:Int):ctV Q e m=Go.Eng.ctV R e m:=by unfold Go.Eng.ctV;rw[h.rsV]
theorem qAS.ctE (h:qAS Q R) (e m:Int) (z:Nat):ctE Q e m z=Go.Eng.ctE R e m z:=by unfold Go.Eng.ctE;rw[(h.ctQ e m).n,h.ctV,h.rsE]
theorem qAS.ctN (h:qAS Q R) (e m:Int) (z:Nat):ctN Q e m z=Go.Eng.ctN R e m z:=by unfold Go.Eng.ctN;rw[(h.ctQ e m).n,h.ctV]
theorem qAS.rbE (h:qAS Q R) (e m:Int):rbE Q e m=Go.Eng.rbE R e m:=by unfold Go.Eng.rbE;rw[(h.ctQ e m).tkE,h.ctE,h.ctN]
theorem qAS.rbN (h:qAS Q R) (e m:Int):rbN Q e m=Go.Eng.rbN R e m:=by unfold Go.Eng.rbN;rw[(h.ctQ e m).tkE,h.ctE,h.ctN]
theorem qAS.rbQ (h:qAS Q R) (e m:Int):qAS (rbQ Q e m) (Go.Eng.rbQ R e m):=by unfold Go.Eng.rbQ;rw[h.ctE,h.ctN];exact(h.ctQ e m).tkQ _ _
theorem qAS.rbZ (h:qAS Q R) (e m:Int):rbZ Q e m=Go.Eng.rbZ R e m:=by unfold Go.Eng.rbZ;rw[h.rbE,(h.ctQ e m).z]
theorem qAS.rbV (h:qAS Q R) (e m:Int) (a r:Nat):rbV Q e m a r=Go.Eng.rbV R e m a r:=by unfold Go.Eng.rbV;rw[h.rbN,(h.ctQ e m).f,h.rbZ]
theorem qAS.us (h:qAS Q R) (E:Int):∀k,qAS (usS Q E k).1 (usS R E k).1∧(usS Q E k).2=(usS R E k).2
 |0=>⟨h,rfl⟩
 |k+1=>by
  obtain⟨h1,h2⟩:=qAS.us h E k
  refine⟨?_,?_⟩
  ·show qAS (Go.Eng.rbQ (usS Q E k).1 (usS Q E k).2 1000) (Go.Eng.rbQ (usS R E k).1 (usS R E k).2 1000)
   rw[h2];exact h1.rbQ _ _
  ·show Go.Eng.rbE (usS Q E k).1 (usS Q E k).2 1000=Go.Eng.rbE (usS R E k).1 (usS R E k).2 1000
   rw[h2];exact h1.rbE _ _
theorem qAS.usN (h:qAS Q R) (E:Int):usN Q E=Go.Eng.usN R E:=funext fun k=>by
 obtain⟨h1,h2⟩:=h.us E k
 unfold Go.Eng.usN;rw[h2];exact h1.rbN _ _
theorem qAS.usW (h:qAS Q R) (E:Int):usW Q E=Go.Eng.usW R E:=funext fun k=>by
 obtain⟨h1,h2⟩:=h.us E k
 unfold Go.Eng.usW;rw[h2];exact(h1.ctQ _ _).f
theorem qAS.usV (h:qAS Q R) (E:Int) (c d:Nat):usV Q E c d=Go.Eng.usV R E c d:=funext fun k=>by
 obtain⟨h1,h2⟩:=h.us E k
 unfold Go.Eng.usV;rw[h2];exact h1.rbV _ _ _ _
theorem qAS.gU (h:qAS Q R) (E:Int) (c d k:Nat):gU Q E c d k=Go.Eng.gU R E c d k:=by unfold Go.Eng.gU;rw[h.usN,h.usW]
theorem qAS.lastU (h:qAS Q R) (E:Int):∀k,lastU Q E k=Go.Eng.lastU R E k
 |0=>rfl
 |k+1=>by unfold Go.Eng.lastU;rw[h.usN,qAS.lastU h E k]
theorem qAS.plU (h:qAS Q R) (E:Int) (c d k:Nat):plU Q E c d k=Go.Eng.plU R E c d k:=by unfold Go.Eng.plU;rw[h.lastU,h.gU]
theorem qOh {E:Int} {k a r:Nat} (h0:0<Go.Eng.usN Q E k):rbK (usS Q E k).1 (usS Q E k).2 1000 a r=some ⟨a,true,0,spr (Go.Eng.usN Q E k+r) (Go.Eng.usN Q E k) (fun j=>u8 (Go.Eng.usW Q E k j)) (u8 0)⟩:=if_pos h0
theorem qSm {E:Int} {k a r:Nat} (h0:¬0<Go.Eng.usN Q E k):rbK (usS Q E k).1 (usS Q E k).2 1000 a r=none:=if_neg h0
theorem qFV {q:BytL} (hq:OkB q) (a r:Nat):qAS (qDG (cpG q a r)) q:=⟨rfl,rfl,by
 show(gsA (cpG q a r)).isNone=q.wa.isNone
 cases hz:q.wa.isNone with
 |true=>rw[qTC (show(cpG q a r).z=true from hz)];rfl
 |false=>rw[qHN (show(cpG q a r).z=false from hz)];rfl⟩
end
section
variable {Q:BytL} {E:Int} {c d k nm r:Nat}
def usL (Q:BytL) (E:Int) (c d k nm r:Nat):Grw BytL:=qAE k (usV Q E c d) nm r
theorem qNC {i:Nat}:(usV Q E c d i).wn=usN Q E i:=by
 show(rbV (usS Q E i).1 (usS Q E i).2 1000 (qC7 c i) (qC7 d i)).wn=rbN (usS Q E i).1 (usS Q E i).2 1000
 unfold rbV;split
 ·rfl
 ·rename_i h;show 0=_;omega
theorem qXZ (hk:k≤1000) (hl:∀i,usN Q E i≤9223372036854775807):OkS (qSv (usL Q E c d k nm r)):=
 qSL (qBt _ _ _ _) (Nat.le_trans (show k≤1000 from hk) (by decide)) fun i _=>jBc hl
theorem qNI {i:Nat} (hi:i<k) (h0:0<usN Q E i):∃m,plU Q E c d k=some ⟨qC7 c m,true,0,.pile 10 (gU Q E c d k)⟩∧gU Q E c d k i=some (qC7 c i,qXn (usN Q E i) (qC7 d i) (usW Q E i)):=by
 obtain⟨m,hm⟩:=qIA (k:=k) hi h0
 exact⟨m,by unfold plU;rw[hm],if_pos ⟨hi,h0⟩⟩
theorem qPj {i:Nat} (h0:0<usN Q E i):usV Q E c d i=qBB (qC7 c i) (usN Q E i) (usN Q E i+qC7 d i) (usW Q E i):=if_pos h0
theorem jC7 (hk:k≤10) {w:World} (hb:∀b,roO (plU Q E c d k)=some b→qAl b w) {i:Nat} (hi:i<k):qCJ (qA2 (usV Q E c d i)) w:=fun b hb'=>by
 have h0:0<usN Q E i:=by rw[←qNC (c:=c) (d:=d)];exact hb'.1
 obtain⟨m,e1,e2⟩:=qNI (c:=c) (d:=d) hi h0
 rw[qPj h0] at hb'
 obtain⟨_,rfl⟩:=hb'
 have h1:=(hb _ (by rw[e1];rfl)).obj
 have h2:qEr (qC7 c i) false (qXn (usN Q E i) (qC7 d i) (usW Q E i)) w:=h1.1 i _ _ (by omega) e2
 have h3:qAl ⟨qC7 c i,false,0,spr (usN Q E i+qC7 d i) (usN Q E i) (fun j=>u8 (usW Q E i j)) (u8 0)⟩ w:=⟨h2.lt,h2.cell,(fun h=>by cases h),trivial⟩
 exact⟨qBu h3,rfl⟩
def usC (Q:BytL) (E:Int) (c d k nm r:Nat):List (Option Blk):=[roO (gsE qBb [Value.slice none 0 0] 1 (usL Q E c d k nm r)),roO (plU Q E c d k)]
theorem jAN (hk:k≤10) {w:World} (hb:∀b,some b∈usC Q E c d k nm r→qAl b w):qCJ (qFv (qSv (usL Q E c d k nm r))) w:=
 qPJ (qBt _ _ _ _) (fun b hb'=>hb b (hb'▸List.Mem.head _)) fun i hi=>jC7 hk (fun b hb'=>hb b (hb'▸List.Mem.tail _ (List.Mem.head _))) hi
theorem qVw (hk:k≤10) {z:Blk} (hz:qFv (qSv (usL Q E c d k nm r)) z) (j:Nat) (hj:z.has j):∃b,some b∈usC Q E c d k nm r∧b.has j:=by
 rcases hz with⟨h0,rfl⟩|⟨i,hi,hz⟩
 ·have hA:(usL Q E c d k nm r).z=false:=(qBt k (usV Q E c d) nm r:Grw.ok _).pos h0
  refine⟨⟨nm,false,0,qF8 1 (k+r) k (fun i=>qBb (usV Q E c d i)) [Value.slice none 0 0]⟩,?_,hj⟩
  have e:roO (gsE qBb [Value.slice none 0 0] 1 (usL Q E c d k nm r))=some ⟨nm,false,0,qF8 1 (k+r) k (fun i=>qBb (usV Q E c d i)) [Value.slice none 0 0]⟩:=by rw[qDJ hA];rfl
  exact e▸List.Mem.head _
 ·have hi':i<k:=hi
  have hz':qA2 (usV Q E c d i) z:=hz
  have h0:0<usN Q E i:=by rw[←qNC (c:=c) (d:=d)];exact hz'.1
  obtain⟨m,e1,e2⟩:=qNI (c:=c) (d:=d) hi' h0
  rw[qPj h0] at hz'
  obtain⟨_,rfl⟩:=hz'
  have e:roO (plU Q E c d k)=some ⟨qC7 c m,false,0,.pile 10 (gU Q E c d k)⟩:=by rw[e1];rfl
  have hj':qC7 c i=j:=hj
  exact⟨⟨qC7 c m,false,0,.pile 10 (gU Q E c d k)⟩,e▸List.Mem.tail _ (List.Mem.head _),i,qXn (usN Q E i) (qC7 d i) (usW Q E i),by omega,by rw[e2,hj']⟩
theorem qUm {F:Blk→Prop} {P:Program} {f:FuncId} {args:List Value} {v:Value} (hk:k≤10) (hr:qAb (qFv (qSv (usL Q E c d k nm r))) P f args [] 0 (fun _=>v) (fun _=>[])):qAb F P f args (usC Q E c d k nm r) 0 (fun _=>v) (fun _=>[none,none]):=
 hr.lendQ (bs:=[]) (cs:=usC Q E c d k nm r) (o:=fun _=>[]) (nw:=fun _=>[]) (fun _=>rfl) (fun w _ hb=>jAN hk hb) fun z hz j hj=>.inr (qVw hk hz j hj)
end
theorem qOb {f f' g g':Nat→UInt8} {n m:Nat} (h1:∀k,k<n→f k=f' k) (h2:∀k,k<m→g k=g' k):qCH f n g m=qCH f' n g' m:=by
 unfold qCH
 rw[Bool.eq_iff_iff,decide_eq_true_iff,decide_eq_true_iff]
 constructor
 ·rintro⟨rfl,h⟩
  exact⟨rfl,fun k hk=>by rw[←h1 k hk,←h2 k hk];exact h k hk⟩
 ·rintro⟨rfl,h⟩
  exact⟨rfl,fun k hk=>by rw[h1 k hk,h2 k hk];exact h k hk⟩
def usB (Q:BytL) (E:Int) (i:Nat):BytL:=qBB 0 (usN Q E i) 0 (usW Q E i)
section
variable {Q:BytL} {E:Int} {c d k:Nat}
theorem qXz {i j:Nat} (hj:j<usN Q E i):(usV Q E c d i).wf j=usW Q E i j:=by rw[qPj (by omega)];rfl
theorem jA2 {x y:BytL} {i:Nat} (hn:x.wn=y.wn) (hf:∀j,j<x.wn→x.wf j=y.wf j):elE (usV Q E c d) x i=elE (usB Q E) y i:=by
 unfold elE
 rw[qNC,hn]
 exact qOb (fun j hj=>qXz hj) (fun j hj=>hf j (by omega))
theorem qXe {x y:BytL} (hn:x.wn=y.wn) (hf:∀j,j<x.wn→x.wf j=y.wf j):inB (usV Q E c d) k x=inB (usB Q E) k y:=qGM fun i _=>jA2 hn hf
theorem jB8:twB (usV Q E c d) k=twB (usB Q E) k:=qGM fun i _=>qXe qNC fun j hj=>qXz (by rw[qNC] at hj;exact hj)
end
def uQ (q:BytL):BytL:=rsQ (rsQ q 0 18446744073709551615) (rsE q 0 18446744073709551615) 10
def uE (q:BytL):Int:=rsE (rsQ q 0 18446744073709551615) (rsE q 0 18446744073709551615) 10
def uNn (q:BytL):UInt64:=rsV (rsQ q 0 18446744073709551615) (rsE q 0 18446744073709551615) 10
def uN (q:BytL):Nat:=(uNn q).toNat
def uH (q:BytL):UInt64:=rsV q 0 18446744073709551615
def uD (q:BytL):Int:=qSk (usS (uQ q) (uE q) (uN q)).1.wn (usS (uQ q) (uE q) (uN q)).2
def uB (q:BytL):Bool:=qA1 (inB (usB (uQ q) (uE q)) (uN q) (qAc none 0)) true (twB (usB (uQ q) (uE q)) (uN q))
section
variable {Q R:BytL}
theorem qAS.uQ (h:qAS Q R):qAS (uQ Q) (Go.Eng.uQ R):=by
 unfold Go.Eng.uQ;rw[h.rsE];exact(h.rsQ _ _).rsQ _ _
theorem qAS.uE (h:qAS Q R):uE Q=Go.Eng.uE R:=by
 unfold Go.Eng.uE;rw[h.rsE];exact(h.rsQ _ _).rsE _ _
theorem qAS.uNn (h:qAS Q R):uNn Q=Go.Eng.uNn R:=by
 unfold Go.Eng.uNn;rw[h.rsE];exact(h.rsQ _ _).rsV _ _
theorem qAS.uN (h:qAS Q R):uN Q=Go.Eng.uN R:=by unfold Go.Eng.uN;rw[h.uNn]
theorem qAS.uH (h:qAS Q R):uH Q=Go.Eng.uH R:=h.rsV _ _
theorem qAS.uD (h:qAS Q R):uD Q=Go.Eng.uD R:=by
 unfold Go.Eng.uD
 rw[h.uE,h.uN]
 obtain⟨h1,h2⟩:=h.uQ.us (Go.Eng.uE R) (Go.Eng.uN R)
 rw[h1.n,h2]
theorem qAS.usB (h:qAS Q R) (E:Int):usB Q E=Go.Eng.usB R E:=funext fun i=>by unfold Go.Eng.usB;rw[h.usN,h.usW]
theorem qAS.uB (h:qAS Q R):uB Q=Go.Eng.uB R:=by
 unfold Go.Eng.uB
 rw[h.uE,h.uN,h.uQ.usB]
end
theorem qYq {q:BytL} (hq:OkB q) (a r c d:Nat):usV (uQ (qDG (cpG q a r))) (uE (qDG (cpG q a r))) c d=usV (uQ q) (uE q) c d:=by
 have h:=qFV hq a r
 rw[h.uE];exact h.uQ.usV _ _ _
theorem qZN {q:BytL} (hq:OkB q) (a r c d k:Nat):plU (uQ (qDG (cpG q a r))) (uE (qDG (cpG q a r))) c d k=plU (uQ q) (uE q) c d k:=by
 have h:=qFV hq a r
 rw[h.uE];exact h.uQ.plU _ _ _ _
def unX (q:BytL):Int:=if uD q=0 then(if uB q=true then 31 else 0) else uD q
def unH (q:BytL):UInt64:=if unX q=0 then uH q else 0
def unL (q:BytL) (c d nm r:Nat):Grw BytL:=if unX q=0 then qAE (uN q) (usV (uQ q) (uE q) c d) nm r else⟨true,0,0,0,fun _=>qAc none 0⟩
def unP (q:BytL) (c d:Nat):Option Blk:=if unX q=0 then plU (uQ q) (uE q) c d (uN q) else none
theorem jDc {q:BytL} (h:uD q≠0):unX q=uD q:=by unfold unX;rw[if_neg h]
theorem jC5 {q:BytL} (h:uD q=0) (hb:uB q=true):unX q=31:=by unfold unX;rw[if_pos h,if_pos hb]
theorem jBn {q:BytL} (h:uD q=0) (hb:uB q=false):unX q=0:=by unfold unX;rw[if_pos h,hb];rfl
theorem jB1 {q:BytL} (h:unX q≠0):unH q=0∧(∀c d nm r,unL q c d nm r=⟨true,0,0,0,fun _=>qAc none 0⟩)∧∀c d,unP q c d=none:=⟨if_neg h,fun _ _ _ _=>if_neg h,fun _ _=>if_neg h⟩
theorem qXC {q:BytL} (h:unX q=0):unH q=uH q∧(∀c d nm r,unL q c d nm r=qAE (uN q) (usV (uQ q) (uE q) c d) nm r)∧∀c d,unP q c d=plU (uQ q) (uE q) c d (uN q):=⟨if_pos h,fun _ _ _ _=>if_pos h,fun _ _=>if_pos h⟩
end Go.Eng
end
section
namespace Go.Proofs.YtmdpendnbkajdaaDoor
open Go Go.Eng
abbrev qPx (a:BytL):=Value.slice a.wa a.wn a.wc
abbrev qSQ:=List (Option Blk)
theorem qSu (x y:BytL) (hx:OkB x) (hy:OkB y):qAt (qGc x y) TP 56 [(Value.slice x.wa x.wn x.wc),(Value.slice y.wa y.wn y.wc)] [] 0 (fun _=>Value.bool (qCH x.wf x.wn y.wf y.wn)) (fun _=>[]):=
 qAm (F:=(qGc x y)) mix Tryd.func56 rfl rfl 400 (.reg (rg [.g]) (.reg (rg [.g,(.othF [] 0 0 (fun _=>(Value.string (qGr x.wf x.wn))) (fun _=>[])),.g,(.othF [] 0 0 (fun _=>(Value.string (qGr y.wf y.wn))) (fun _=>[])),(.as (vB (jAx (qGr x.wf x.wn) (qGr y.wf y.wn)))),.g]) .done)) [] [] rfl
  (Eq.mp (by kernel_rfl) (aI kV1 (aI (sk (aI (aT (qJj.mono (fun z hz=>(Or.inl hz:qGc x y z)) (qKA (P:=TP) (src:=23) (dst:=9) (e:=5) (by kernel_rfl) (by kernel_rfl) (by kernel_rfl) x hx))) (sk (aI (aT (qJj.mono (fun z hz=>(Or.inr hz:qGc x y z)) (qKA (P:=TP) (src:=23) (dst:=9) (e:=5) (by kernel_rfl) (by kernel_rfl) (by kernel_rfl) y hy))) (aI (aT (@qST TP 9 9 (.tmp 6) (.tmp 8) (qGr x.wf x.wn) (qGr y.wf y.wn))) kV1))))) (aT (eX (fun(ns:List Nat)=>ns.length=0∧((vB (jAx (qGr x.wf x.wn) (qGr y.wf y.wn))):Value)=(fun _=>vB (qCH x.wf x.wn y.wf y.wn)) ns∧([]:List (Option Blk))=(fun _=>[]) ns) [] (aI (@rfl Nat 0) (aI ((show(vB (jAx (qGr x.wf x.wn) (qGr y.wf y.wn)))=vB (qCH x.wf x.wn y.wf y.wn) from congrArg vB (qZU _ _ _ _))) (@rfl (qSQ) []))))))))
def qGk (x:qBE) (y:qBE) (x1:Nat):St:=⟨[(0,.v (vS x.wa x.wn x.wc)),(1,.v (vS y.wa y.wn y.wc)),(5,.v (nat x1))],[],0⟩
def qDC (x:qBE) (y:qBE) (x1:Nat):Prop:=(x1≤x.wn)∧(∀k,k<x1→elS x y k=true)
def qDO (x:qBE) (y:qBE) (x1:Nat):Nat:=x.wn-x1
theorem qUt (x y:qBE) (hx:OkS x) (hy:OkS y):qAt (qRw x y) TP 11 [(Value.slice x.wa x.wn x.wc),(Value.slice y.wa y.wn y.wc)] [] 0 (fun _=>Value.bool (qFb x y)) (fun _=>[]):=
 qAm (F:=(qRw x y)) mix Tryd.func11 rfl rfl 400 (.reg (rg [.g]) (.reg (rg [.g,(.as (nat x.wn)),.g,(.as (nat y.wn)),(.as (vB (!(decide (x.wn=y.wn)))))]) (.br (.reg (rg [.g]) .done) (.reg (rg [.g]) (.inv [0,1,5] [] 0 (qDC x y) (qGk x y) (qDO x y) (0:Nat) (fun(x1:Nat)=>(.reg (rg [.g,.g,(.as (nat x.wn)),(.as (vB (decide (x1<x.wn))))]) (.br (.openr (qJI x) (.openr (qJI y) (.reg (rg [.g,.g,(.as (ptr x.wb (x.wo+x1*1))),(.ld 0 (.tab x1 0)),.g,.g,(.as (ptr y.wb (y.wo+x1*1))),(.ld 1 (.tab x1 0)),(.callF [] 0 0 (fun _=>(vB (elS x y x1))) (fun _=>[])),.g]) (.br (.reg (rg [.g]) .done) (.reg (rg [.g,(.as (nat (x1+1))),.g]) .done))))) (.reg (rg [.g]) .done))))))))) [] [] rfl
  (have f0:=hx.len;have f1:=hy.len;Eq.mp (by kernel_rfl) (aI kV1 (aI (sk (aI (aT (@qAw TP 35 23 (.tmp 6) (by kernel_rfl) x.wa x.wn x.wc)) (sk (aI (aT (@qAw TP 35 23 (.tmp 8) (by kernel_rfl) y.wa y.wn y.wc)) (aI (aT (@qO1 TP 3 3 (.tmp 7) (.tmp 9)  x.wn y.wn)) tV))))) (aT (aI (fun(h1:(!(decide (x.wn=y.wn)))=true)=>have f2:¬(x.wn=y.wn):=(oF (qBh h1));aI kV1 (aT (eX (fun(ns:List Nat)=>ns.length=0∧((vB false):Value)=(fun _=>vB (qFb x y)) ns∧([]:List (Option Blk))=(fun _=>[]) ns) [] (aI (@rfl Nat 0) (aI ((show(vB false)=vB (qFb x y) from congrArg vB (by first|exact qM7 (by omega)|exact qNA (by omega) (by assumption)))) (@rfl (qSQ) [])))))) (fun(h1:(!(decide (x.wn=y.wn)))=false)=>have f2:(x.wn=y.wn):=(oT (qAY h1));aI kV1 (aI (show(qDC x y) (0:Nat) from(show(0≤x.wn)∧(∀k,k<0→elS x y k=true) from by exact⟨by omega,fun k hk=>absurd hk (by omega)⟩)) (aI (@rfl St ((qGk x y) (0:Nat))) (fun(x1:Nat) (hx1:(qDC x y) x1)=>have B0:x1≤x.wn:=hx1.1;have B1:∀k,k<x1→elS x y k=true:=hx1.2;aI (sK2 (aI (aT (@qAw TP 35 23 (.tmp 12) (by kernel_rfl) x.wa x.wn x.wc)) (aI (aT (@qAN TP 3 3 (.tmp 11) (.tmp 13)  x1 x.wn)) tV))) (aT (aI (fun(h2:(decide (x1<x.wn))=true)=>have f5:=(oT h2);aI (Or.inl (Or.inl ⟨(show 0<x.wn from by omega),rfl⟩):qRw x y (qJI x)) (aI (Or.inr (Or.inl ⟨(show 0<y.wn from by omega),rfl⟩):qRw x y (qJI y)) (aI (sK2 (aI (aT (@qBd TP 35 23 (.tmp 17) (.tmp 18) 1 (by kernel_rfl) (by kernel_rfl) x.wb x.wo x.wn x.wc x1 x.wa (hx.ad (show 0<x.wn from by omega)) (show x1<x.wn from by omega))) (aI (aT (aI (show x1<x.wn from by omega) (@rfl Value (ptr x.wb (x.wo+x1*1))))) (sK2 (aI (aT (@qBd TP 35 23 (.tmp 21) (.tmp 22) 1 (by kernel_rfl) (by kernel_rfl) y.wb y.wo y.wn y.wc x1 y.wa (hy.ad (show 0<y.wn from by omega)) (show x1<y.wn from by omega))) (aI (aT (aI (show x1<y.wn from by omega) (@rfl Value (ptr y.wb (y.wo+x1*1))))) (aI (aT (qAt.mono (jDw (show x1<x.wn from by omega) (show x1<y.wn from by omega)) (qMJ (x.wf x1) (y.wf x1) (hx.el _ (show x1<x.wn from by omega)) (hy.el _ (show x1<y.wn from by omega))))) kV1))))))) (aT (aI (fun(h3:(!(elS x y x1))=true)=>have f6:(elS x y x1)=false:=(qBh h3);aI kV1 (aT (eX (fun(ns:List Nat)=>ns.length=0∧((vB false):Value)=(fun _=>vB (qFb x y)) ns∧([]:List (Option Blk))=(fun _=>[]) ns) [] (aI (@rfl Nat 0) (aI ((show(vB false)=vB (qFb x y) from congrArg vB (by first|exact qM7 (by omega)|exact qNA (by omega) (by assumption)))) (@rfl (qSQ) [])))))) (fun(h3:(!(elS x y x1))=false)=>have f6:(elS x y x1)=true:=(qAY h3);aI (sk (aI (aT (@qAg TP 3 3 (.tmp 15) (.const (.int .i64 1))  x1 1 (show x1+1≤9223372036854775807 from by omega))) kV1)) ((rnd (qDC x y) (qGk x y) (qDO x y) x1 (x1+1:Nat) (show(qDC x y) (x1+1:Nat)∧(qDO x y) (x1+1:Nat)<(qDO x y) x1 from(show(((x1+1)≤x.wn)∧(∀k,k<(x1+1)→elS x y k=true))∧(x.wn-(x1+1))<(x.wn-x1) from by exact⟨⟨by omega,qRn B1 (by assumption)⟩,by omega⟩)))))))))) (fun(h2:(decide (x1<x.wn))=false)=>have f5:=(oF h2);aI kV1 (aT (eX (fun(ns:List Nat)=>ns.length=0∧((vB true):Value)=(fun _=>vB (qFb x y)) ns∧([]:List (Option Blk))=(fun _=>[]) ns) [] (aI (@rfl Nat 0) (aI ((show(vB true)=vB (qFb x y) from congrArg vB (by exact qTW (by omega) (by omega) B1))) (@rfl (qSQ) [])))))))))))))))))
theorem qWx (b:Nat) (x y:BytL) (hx:OkB x) (hy:OkB y):qAt (qGc x y) TP 55 [(Value.slice x.wa x.wn x.wc),(ptr b 0)] [⟨b,false,0,(.lit [(Value.slice y.wa y.wn y.wc)])⟩] 0 (fun _=>Value.bool (qCH x.wf x.wn y.wf y.wn)) (fun _=>[some ⟨b,false,0,(.lit [(Value.slice y.wa y.wn y.wc)])⟩]):=
 qAm (F:=(qGc x y)) mix Tryd.func55 rfl rfl 400 (.reg (rg [.g]) (.reg (rg [.g,(.ld 0 (.lit 0)),(.callF [] 0 0 (fun _=>(vB (qCH x.wf x.wn y.wf y.wn))) (fun _=>[])),.g]) .done)) [] [] rfl
  (have f0:=hx.len;have f1:=hy.len;Eq.mp (by kernel_rfl) (aI kV1 (aI (sk (aI (aT (ad b 0)) (aI (aT (qAt.lendP (F':=(qGc x y)) (jBl (qTq (fun z hz=>(Or.inl hz:qGc x y z))) (qTq (fun z hz=>(Or.inr hz:qGc x y z)))) (jBF (qTN (fun z hz=>(Or.inl hz:qGc x y z))) (qTN (fun z hz=>(Or.inr hz:qGc x y z)))) (qSu x y hx hy))) kV1))) (aT (eX (fun(ns:List Nat)=>ns.length=0∧((vB (qCH x.wf x.wn y.wf y.wn)):Value)=(fun _=>vB (qCH x.wf x.wn y.wf y.wn)) ns∧([some ⟨b,false,0,(.lit [(qPx y)])⟩]:List (Option Blk))=(fun _=>[some ⟨b,false,0,(.lit [(qPx y)])⟩]) ns) [] (aI (@rfl Nat 0) (aI (@rfl Value (vB (qCH x.wf x.wn y.wf y.wn))) (@rfl (qSQ) [some ⟨b,false,0,(.lit [(qPx y)])⟩]))))))))
def qIJ (l:qBE) (y:BytL) (x1:Nat):St:=⟨[(0,.v (vS l.wa l.wn l.wc)),(1,.v (qPx y)),(5,.v (nat x1))],[],0⟩
def qE9 (l:qBE) (y:BytL) (x1:Nat):Prop:=(x1≤l.wn)∧(∀k,k<x1→elE l.wf y k=false)
def qFA (l:qBE) (y:BytL) (x1:Nat):Nat:=l.wn-x1
theorem qYO (l:qBE) (y:BytL) (hl:OkS l) (hy:OkB y):qAt (qID l y) TP 48 [(Value.slice l.wa l.wn l.wc),(Value.slice y.wa y.wn y.wc)] [] 0 (fun _=>Value.bool (inB l.wf l.wn y)) (fun _=>[]):=
 qAm (F:=(qID l y)) mix Tryd.func48 rfl rfl 400 (.reg (rg [.g]) (.reg (rg [.g]) (.inv [0,1,5] [] 0 (qE9 l y) (qIJ l y) (qFA l y) (0:Nat) (fun(x1:Nat)=>(.reg (rg [.g,.g,(.as (nat l.wn)),(.as (vB (decide (x1<l.wn))))]) (.br (.openr (qJI l) (.reg (rg [.g,.g,(.as (ptr l.wb (l.wo+x1*1))),(.ld 0 (.tab x1 0)),.g,(.callF [] 0 0 (fun _=>(vB (elE l.wf y x1))) (fun _=>[]))]) (.br (.reg (rg [.g]) .done) (.reg (rg [.g,(.as (nat (x1+1))),.g]) .done)))) (.reg (rg [.g]) .done))))))) [] [] rfl
  (have f0:=hl.len;have f1:=hy.len;Eq.mp (by kernel_rfl) (aI kV1 (aI kV1 (aI (show(qE9 l y) (0:Nat) from(show(0≤l.wn)∧(∀k,k<0→elE l.wf y k=false) from by exact⟨by omega,fun k hk=>absurd hk (by omega)⟩)) (aI (@rfl St ((qIJ l y) (0:Nat))) (fun(x1:Nat) (hx1:(qE9 l y) x1)=>have B0:x1≤l.wn:=hx1.1;have B1:∀k,k<x1→elE l.wf y k=false:=hx1.2;aI (sK2 (aI (aT (@qAw TP 35 23 (.tmp 7) (by kernel_rfl) l.wa l.wn l.wc)) (aI (aT (@qAN TP 3 3 (.tmp 6) (.tmp 8)  x1 l.wn)) tV))) (aT (aI (fun(h1:(decide (x1<l.wn))=true)=>have f4:=(oT h1);aI (Or.inl (Or.inl ⟨(show 0<l.wn from by omega),rfl⟩):qID l y (qJI l)) (aI (sK2 (aI (aT (@qBd TP 35 23 (.tmp 12) (.tmp 13) 1 (by kernel_rfl) (by kernel_rfl) l.wb l.wo l.wn l.wc x1 l.wa (hl.ad (show 0<l.wn from by omega)) (show x1<l.wn from by omega))) (aI (aT (aI (show x1<l.wn from by omega) (@rfl Value (ptr l.wb (l.wo+x1*1))))) (sk (aI (aT (qAt.mono (jBZ (show x1<l.wn from by omega)) (qMJ (l.wf x1) y (hl.el _ (show x1<l.wn from by omega)) hy))) tV))))) (aT (aI (fun(h2:(elE l.wf y x1)=true)=>aI kV1 (aT (eX (fun(ns:List Nat)=>ns.length=0∧((vB true):Value)=(fun _=>vB (inB l.wf l.wn y)) ns∧([]:List (Option Blk))=(fun _=>[]) ns) [] (aI (@rfl Nat 0) (aI ((show(vB true)=vB (inB l.wf l.wn y) from congrArg vB (by first|exact qIX (by omega) (by assumption)|exact qLB (by omega) B1))) (@rfl (qSQ) [])))))) (fun(h2:(elE l.wf y x1)=false)=>aI (sk (aI (aT (@qAg TP 3 3 (.tmp 10) (.const (.int .i64 1))  x1 1 (show x1+1≤9223372036854775807 from by omega))) kV1)) ((rnd (qE9 l y) (qIJ l y) (qFA l y) x1 (x1+1:Nat) (show(qE9 l y) (x1+1:Nat)∧(qFA l y) (x1+1:Nat)<(qFA l y) x1 from(show(((x1+1)≤l.wn)∧(∀k,k<(x1+1)→elE l.wf y k=false))∧(l.wn-(x1+1))<(l.wn-x1) from by exact⟨⟨by omega,qJO B1 (by assumption)⟩,by omega⟩))))))))) (fun(h1:(decide (x1<l.wn))=false)=>have f4:=(oF h1);aI kV1 (aT (eX (fun(ns:List Nat)=>ns.length=0∧((vB false):Value)=(fun _=>vB (inB l.wf l.wn y)) ns∧([]:List (Option Blk))=(fun _=>[]) ns) [] (aI (@rfl Nat 0) (aI ((show(vB false)=vB (inB l.wf l.wn y) from congrArg vB (by first|exact qIX (by omega) (by assumption)|exact qLB (by omega) B1))) (@rfl (qSQ) []))))))))))))))
def qI8 (b:Nat) (l:qBE) (y:BytL) (x1:Nat):St:=⟨[(0,.v (vS l.wa l.wn l.wc)),(1,.v (Value.func (.func 55) #[] #[(ptr b 0)])),(7,.v (nat l.wn)),(8,.v (nat x1))],[(0,some ⟨b,false,0,(.lit [(qPx y)])⟩)],1⟩
def qFc (b:Nat) (l:qBE) (y:BytL) (x1:Nat):Prop:=(x1≤l.wn)∧(∀k,k<x1→elE l.wf y k=false)
def qFS (b:Nat) (l:qBE) (y:BytL) (x1:Nat):Nat:=l.wn-x1
theorem qZX (b:Nat) (l:qBE) (y:BytL) (hl:OkS l) (hy:OkB y):qAt (qID l y) TP 70 [(Value.slice l.wa l.wn l.wc),(Value.func (.func 55) #[] #[(ptr b 0)])] [⟨b,false,0,(.lit [(Value.slice y.wa y.wn y.wc)])⟩] 0 (fun _=>int (qO8 (elE l.wf y) l.wn)) (fun _=>[some ⟨b,false,0,(.lit [(Value.slice y.wa y.wn y.wc)])⟩]):=
 qAm (F:=(qID l y)) mix Tryd.func70 rfl rfl 400 (.reg (rg [.g]) (.reg (rg [.g,(.as (nat l.wn)),.g]) (.inv [0,1,7,8] [0] 1 (qFc b l y) (qI8 b l y) (qFS b l y) (0:Nat) (fun(x1:Nat)=>(.reg (rg [(.as (vB (decide (x1<l.wn))))]) (.br (.reg (rg [.g,.g]) (.openr (qJI l) (.reg (rg [.g,.g,.g,(.as (ptr l.wb (l.wo+x1*1))),(.ld 1 (.tab x1 0)),(.callF [(0,true)] 0 0 (fun _=>(vB (elE l.wf y x1))) (fun _=>[none]))]) (.br (.reg (rg [.g,.g]) .done) (.reg (rg [(.as (nat (x1+1))),.g]) .done))))) (.reg (rg [.g]) .done))))))) [] [] rfl
  (have f0:=hl.len;have f1:=hy.len;Eq.mp (by kernel_rfl) (aI kV1 (aI (sk (aI (aT (@qAw TP 35 23 (.tmp 6) (by kernel_rfl) l.wa l.wn l.wc)) kV1)) (aI (show(qFc b l y) (0:Nat) from(show(0≤l.wn)∧(∀k,k<0→elE l.wf y k=false) from by exact⟨by omega,fun k hk=>absurd hk (by omega)⟩)) (aI (@rfl St ((qI8 b l y) (0:Nat))) (fun(x1:Nat) (hx1:(qFc b l y) x1)=>have B0:x1≤l.wn:=hx1.1;have B1:∀k,k<x1→elE l.wf y k=false:=hx1.2;aI (aI (aT (@qAN TP 3 3 (.tmp 8) (.tmp 7)  x1 l.wn)) tV) (aT (aI (fun(h1:(decide (x1<l.wn))=true)=>have f4:=(oT h1);aI kV2 (aI (Or.inl (Or.inl ⟨(show 0<l.wn from by omega),rfl⟩):qID l y (qJI l)) (aI (sK3 (aI (aT (@qBd TP 35 23 (.tmp 12) (.tmp 13) 1 (by kernel_rfl) (by kernel_rfl) l.wb l.wo l.wn l.wc x1 l.wa (hl.ad (show 0<l.wn from by omega)) (show x1<l.wn from by omega))) (aI (aT (aI (show x1<l.wn from by omega) (@rfl Value (ptr l.wb (l.wo+x1*1))))) (aI (aT (qAt.mono (jBZ (show x1<l.wn from by omega)) (qAt.darkF [true] (qWx b (l.wf x1) y (hl.el _ (show x1<l.wn from by omega)) hy)))) tV)))) (aT (aI (fun(h2:(elE l.wf y x1)=true)=>aI kV2 (aT (eX (fun(ns:List Nat)=>ns.length=0∧((nat x1):Value)=(fun _=>int (qO8 (elE l.wf y) l.wn)) ns∧([some ⟨b,false,0,(.lit [(qPx y)])⟩]:List (Option Blk))=(fun _=>[some ⟨b,false,0,(.lit [(qPx y)])⟩]) ns) [] (aI (@rfl Nat 0) (aI ((show(nat x1)=int (qO8 (elE l.wf y) l.wn) from by first|exact qSt (by omega) (by assumption) B1|exact qT3 (by omega) B1)) (@rfl (qSQ) [some ⟨b,false,0,(.lit [(qPx y)])⟩])))))) (fun(h2:(elE l.wf y x1)=false)=>aI (aI (aT (@qAg TP 3 3 (.tmp 8) (.const (.int .i64 1))  x1 1 (show x1+1≤9223372036854775807 from by omega))) kV1) ((rnd (qFc b l y) (qI8 b l y) (qFS b l y) x1 (x1+1:Nat) (show(qFc b l y) (x1+1:Nat)∧(qFS b l y) (x1+1:Nat)<(qFS b l y) x1 from(show(((x1+1)≤l.wn)∧(∀k,k<(x1+1)→elE l.wf y k=false))∧(l.wn-(x1+1))<(l.wn-x1) from by exact⟨⟨by omega,qJO B1 (by assumption)⟩,by omega⟩)))))))))) (fun(h1:(decide (x1<l.wn))=false)=>have f4:=(oF h1);aI kV1 (aT (eX (fun(ns:List Nat)=>ns.length=0∧((int (-1)):Value)=(fun _=>int (qO8 (elE l.wf y) l.wn)) ns∧([some ⟨b,false,0,(.lit [(qPx y)])⟩]:List (Option Blk))=(fun _=>[some ⟨b,false,0,(.lit [(qPx y)])⟩]) ns) [] (aI (@rfl Nat 0) (aI ((show(int (-1))=int (qO8 (elE l.wf y) l.wn) from by first|exact qSt (by omega) (by assumption) B1|exact qT3 (by omega) B1)) (@rfl (qSQ) [some ⟨b,false,0,(.lit [(qPx y)])⟩]))))))))))))))
theorem qX5 (b:Nat) (l:qBE) (y:BytL) (hl:OkS l) (hy:OkB y):qAt (qID l y) TP 54 [(Value.slice l.wa l.wn l.wc),(Value.func (.func 55) #[] #[(ptr b 0)])] [⟨b,false,0,(.lit [(Value.slice y.wa y.wn y.wc)])⟩] 0 (fun _=>Value.bool (inB l.wf l.wn y)) (fun _=>[some ⟨b,false,0,(.lit [(Value.slice y.wa y.wn y.wc)])⟩]):=
 qAm (F:=(qID l y)) mix Tryd.func54 rfl rfl 400 (.reg (rg [.g]) (.reg (rg [.g,.g,(.callF [(0,true)] 0 0 (fun _=>(int (qO8 (elE l.wf y) l.wn))) (fun _=>[none])),.g,.g]) .done)) [] [] rfl
  (have f0:=hl.len;have f1:=hy.len;Eq.mp (by kernel_rfl) (aI kV1 (aI (sK2 (aI (aT (qAt.darkF [true] (qZX b l y hl hy))) kV2)) (aT (eX (fun(ns:List Nat)=>ns.length=0∧((vB (decide (((qO8 (elE l.wf y) l.wn):Int)≥0))):Value)=(fun _=>vB (inB l.wf l.wn y)) ns∧([some ⟨b,false,0,(.lit [(qPx y)])⟩]:List (Option Blk))=(fun _=>[some ⟨b,false,0,(.lit [(qPx y)])⟩]) ns) [] (aI (@rfl Nat 0) (aI ((show(vB (decide (((qO8 (elE l.wf y) l.wn):Int)≥0)))=vB (inB l.wf l.wn y) from congrArg vB (qZc _ _))) (@rfl (qSQ) [some ⟨b,false,0,(.lit [(qPx y)])⟩]))))))))
theorem qSW (l:qBE) (y:BytL) (hl:OkS l) (hy:OkB y):qAt (qID l y) TP 35 [(Value.slice l.wa l.wn l.wc),(Value.slice y.wa y.wn y.wc)] [] 0 (fun _=>Value.bool (inB l.wf l.wn y)) (fun _=>[]):=
 qAm (F:=(qID l y)) mix Tryd.func35 rfl rfl 400 (.regn (rg [.new,.g]) (more (fun n1=>fun _=>(.reg (rg [.g,.g,(.callF [(0,true)] 0 0 (fun _=>(vB (inB l.wf l.wn y))) (fun _=>[none])),.g]) .done)))) [] [] rfl
  (have f0:=hl.len;have f1:=hy.len;Eq.mp (by kernel_rfl) (fun(n1:Nat)=>aI kV2 (aI (sK2 (aI (aT (qAt.darkF [true] (qX5 n1 l y hl hy))) kV1)) (aT (eX (fun(ns:List Nat)=>ns.length=0∧((vB (inB l.wf l.wn y)):Value)=(fun _=>vB (inB l.wf l.wn y)) ns∧([]:List (Option Blk))=(fun _=>[]) ns) [] (aI (@rfl Nat 0) (aI (@rfl Value (vB (inB l.wf l.wn y))) (@rfl (qSQ) []))))))))
def qGH (l:qBE) (x1:Nat):St:=⟨[(0,.v (vS l.wa l.wn l.wc)),(5,.v (vS l.wa l.wn l.wc)),(6,.v (nat l.wn)),(7,.v (nat x1))],[],0⟩
def qDD (l:qBE) (x1:Nat):Prop:=(x1≤l.wn)∧(∀k,k<x1→(fun i=>inB l.wf i (l.wf i)) k=false)
def qDV (l:qBE) (x1:Nat):Nat:=l.wn-x1
theorem qSO (l:qBE) (hl:OkS l):qAt (qFv l) TP 36 [(Value.slice l.wa l.wn l.wc)] [] 0 (fun _=>Value.bool (twB l.wf l.wn)) (fun _=>[]):=
 qAm (F:=(qFv l)) mix Tryd.func36 rfl rfl 400 (.reg (rg [.g]) (.reg (rg [.g,(.as (nat l.wn)),.g]) (.inv [0,5,6,7] [] 0 (qDD l) (qGH l) (qDV l) (0:Nat) (fun(x1:Nat)=>(.reg (rg [(.as (vB (decide (x1<l.wn))))]) (.br (.openr (qJI l) (.reg (rg [.g,(.as (ptr l.wb (l.wo+x1*1))),(.ld 0 (.tab x1 0)),.g,.g]) (.reg (rg [.g,.g,(.as (vS l.wa x1 l.wc)),.g,(.callF [] 0 0 (fun _=>(vB (inB l.wf x1 (l.wf x1)))) (fun _=>[]))]) (.br (.reg (rg [.g]) .done) (.reg (rg [(.as (nat (x1+1))),.g]) .done))))) (.reg (rg [.g]) .done))))))) [] [] rfl
  (have f0:l.wn≤l.wc∧l.wn≤9223372036854775807:=⟨hl.cap,hl.len⟩;Eq.mp (by kernel_rfl) (aI kV1 (aI (sk (aI (aT (@qAw TP 35 23 (.tmp 5) (by kernel_rfl) l.wa l.wn l.wc)) kV1)) (aI (show(qDD l) (0:Nat) from(show(0≤l.wn)∧(∀k,k<0→(fun i=>inB l.wf i (l.wf i)) k=false) from by exact⟨by omega,fun k hk=>absurd hk (by omega)⟩)) (aI (@rfl St ((qGH l) (0:Nat))) (fun(x1:Nat) (hx1:(qDD l) x1)=>have B0:x1≤l.wn:=hx1.1;have B1:∀k,k<x1→(fun i=>inB l.wf i (l.wf i)) k=false:=hx1.2;aI (aI (aT (@qAN TP 3 3 (.tmp 7) (.tmp 6)  x1 l.wn)) tV) (aT (aI (fun(h1:(decide (x1<l.wn))=true)=>have f3:=(oT h1);aI (Or.inl ⟨(show 0<l.wn from by omega),rfl⟩:qFv l (qJI l)) (aI (sk (aI (aT (@qBd TP 35 23 (.tmp 5) (.tmp 7) 1 (by kernel_rfl) (by kernel_rfl) l.wb l.wo l.wn l.wc x1 l.wa (hl.ad (show 0<l.wn from by omega)) (show x1<l.wn from by omega))) (aI (aT (aI (show x1<l.wn from by omega) (@rfl Value (ptr l.wb (l.wo+x1*1))))) kV2))) (aI (sK2 (aI (aT (@qH4 TP 35 23 (.tmp 12) (.tmp 13) (by kernel_rfl) 1 (by kernel_rfl) l.wa l.wn l.wc x1 (show x1≤l.wc from by omega))) (sk (aI (aT (qAt.lendP (F':=qFv l) (jB2 (show x1<l.wn from by omega)) (jBv (show x1<l.wn from by omega)) (qSW (qZk l x1) (l.wf x1) (qXl hl (Nat.le_of_lt (show x1<l.wn from by omega))) (hl.el _ (show x1<l.wn from by omega))))) tV)))) (aT (aI (fun(h2:(inB l.wf x1 (l.wf x1))=true)=>aI kV1 (aT (eX (fun(ns:List Nat)=>ns.length=0∧((vB true):Value)=(fun _=>vB (twB l.wf l.wn)) ns∧([]:List (Option Blk))=(fun _=>[]) ns) [] (aI (@rfl Nat 0) (aI ((show(vB true)=vB (twB l.wf l.wn) from congrArg vB (by first|exact qIX (by omega) (by assumption)|exact qLB (by omega) B1))) (@rfl (List (Option Blk)) [])))))) (fun(h2:(inB l.wf x1 (l.wf x1))=false)=>aI (aI (aT (@qAg TP 3 3 (.tmp 7) (.const (.int .i64 1))  x1 1 (show x1+1≤9223372036854775807 from by omega))) kV1) ((rnd (qDD l) (qGH l) (qDV l) x1 (x1+1:Nat) (show(qDD l) (x1+1:Nat)∧(qDV l) (x1+1:Nat)<(qDV l) x1 from(show(((x1+1)≤l.wn)∧(∀k,k<(x1+1)→(fun i=>inB l.wf i (l.wf i)) k=false))∧(l.wn-(x1+1))<(l.wn-x1) from by exact⟨⟨by omega,qJO (p:=fun i=>inB l.wf i (l.wf i)) B1 (by assumption)⟩,by omega⟩)))))))))) (fun(h1:(decide (x1<l.wn))=false)=>have f3:=(oF h1);aI kV1 (aT (eX (fun(ns:List Nat)=>ns.length=0∧((vB false):Value)=(fun _=>vB (twB l.wf l.wn)) ns∧([]:List (Option Blk))=(fun _=>[]) ns) [] (aI (@rfl Nat 0) (aI ((show(vB false)=vB (twB l.wf l.wn) from congrArg vB (by first|exact qIX (by omega) (by assumption)|exact qLB (by omega) B1))) (@rfl (List (Option Blk)) []))))))))))))))
theorem qK1:qRZ TP 23 (.slice none 0 0) 24:=qOq (by kernel_rfl) rfl
theorem qRl:qV4 TP 23 [Value.slice none 0 0] 1 24:=qPb (z:=.slice none 0 0) (by kernel_rfl) rfl rfl (by decide)
theorem qMg (r:Nat) (q:BytL) (e m:Int) (hq:OkB q) (hl:q.wn≤100000) (hm:m≤9223372036854775807):qAt (qA2 q) TP 33 [ptr r 0,int m] [⟨r,true,0,.lit [qAJ q,int e]⟩] 2 (fun ns=>qAJ (rbV q e m (ns.getD 0 0) (ns.getD 1 0))) (fun ns=>[some ⟨r,true,0,.lit [qAJ (rbQ q e m),int (rbE q e m)]⟩,rbK q e m (ns.getD 0 0) (ns.getD 1 0)]):=by
 by_cases h0:0<rbN q e m
 ·simp only[rbV,rbK,if_pos h0]
  exact qW1 r q e m hq hl hm h0
 ·simp only[rbV,rbK,if_neg h0]
  exact qAb.toF (bs:=[⟨r,true,0,.lit [qAJ q,int e]⟩]) ((qVi r q e m hq hl hm h0).toO.as (.refl _) (fun ns=>[ns.getD 0 0,0]) fun ns hns=>⟨rfl,rfl,.cons _ (.dn (.zz _)),⟨rfl,tV⟩⟩)
theorem qZa (q:BytL) (hq:OkB q) (hl:q.wn≤140737488355328):qAb (qA2 q) TP 31 [qAJ q] [] 3 (fun ns=>ptr (ns.getD 0 0) 0) (fun ns=>[some ⟨ns.getD 0 0,true,0,.lit [gsV (cpG q (ns.getD 1 0) (ns.getD 2 0)),int 0]⟩,gsE u8C [u8 0] 1 (cpG q (ns.getD 1 0) (ns.getD 2 0))]):=by
 rcases Nat.eq_zero_or_pos q.wn with h0|h0
 ·cases hA:q.wa with
  |none=>
   have e1:qAJ q=.slice none 0 q.wc:=by unfold qAJ;rw[hA,h0]
   have e2:∀a r,cpG q a r=⟨true,a,0,r,q.wf⟩:=fun a r=>by unfold cpG;rw[hA,h0];rfl
   rw[e1]
   simp only[e2]
   exact(jAO q.wc).toF.toO.as (.zz _) (fun ns=>[ns.getD 0 0,0,0]) fun ns hns=>⟨rfl,rfl,.cons _ (.dn (.zz _)),⟨rfl,tV⟩⟩
  |some A=>
   have e1:qAJ q=.slice (some A) 0 q.wc:=by unfold qAJ;rw[hA,h0]
   have e2:∀a r,cpG q a r=⟨false,a,0,r,q.wf⟩:=fun a r=>by unfold cpG;rw[hA,h0];rfl
   rw[e1]
   simp only[e2,qJE]
   refine(jBz A q.wc).toF.toO.as (.zz _) (fun ns=>[ns.getD 0 0,ns.getD 1 0,0]) fun ns hns=>⟨rfl,rfl,?_,⟨rfl,rfl,tV⟩⟩
   refine .cons _ ?_
   show Sub [some ⟨ns.getD 1 0,true,0,spr (0+0) 0 (fun k=>u8 (q.wf k)) (u8 0)⟩] _
   rw[qUl (n:=0) (f:=fun k=>u8 (q.wf k)) (g:=fun k=>u8 ((fun _=>0:Nat→UInt8) k)) (fun k hk=>absurd hk (Nat.not_lt_zero k))]
   exact .refl _
 ·have e2:∀a r,cpG q a r=⟨false,a,q.wn,r,q.wf⟩:=fun a r=>by unfold cpG;rw[hq.ad h0];rfl
  simp only[e2,qJE]
  exact(qYP q hq h0 hl).toO
theorem qOi {F:Blk→Prop} (r:Nat) (q:BytL) (e v:Int) (he:qSk q.wn e=v):qAb F TP 34 [ptr r 0] [some ⟨r,false,0,.lit [qAJ q,int e]⟩] 0 (fun _=>int v) (fun _=>[none]):=by
 subst he
 exact(qS1 r q e).toF.toO.as (.refl _) id fun ns hns=>⟨hns,rfl,.dr _ (.zz _),tV⟩
def yz (q:BytL) (a b:Nat):BytL:=uQ (qDG (cpG q a b))
def ez (q:BytL) (a b:Nat):Int:=uE (qDG (cpG q a b))
def uz (q:BytL) (a b:Nat):Nat→BytL×Int:=usS (yz q a b) (ez q a b)
def nz (q:BytL) (a b:Nat):UInt64:=rsV (rsQ (qDG (cpG q a b)) 0 18446744073709551615) (rsE (qDG (cpG q a b)) 0 18446744073709551615) 10
def rz (q:BytL) (a b k c d:Nat):BytL:=rbV (uz q a b k).1 (uz q a b k).2 1000 c d
abbrev gz (q:BytL) (x:Nat×UInt64×Nat×Nat×Nat×Nat) (a b:Nat):Grw BytL:=qAE x.1 (usV (yz q a b) (ez q a b) x.2.2.1 x.2.2.2.1) x.2.2.2.2.1 x.2.2.2.2.2
abbrev kz (q:BytL) (x:Nat×UInt64×Nat×Nat×Nat×Nat) (a b c d:Nat):Nat→BytL:=qAs ((gz q x a b).f) x.1 (fun _=>qOf (qAJ (rz q a b x.1 c d)))
theorem jCZ {F:Blk→Prop} {Q:BytL} {E:Int} {c d k nm r:Nat} (hk:k≤10) (hl:∀i,usN Q E i≤9223372036854775807):qAb F TP 35 [gsV (usL Q E c d k nm r),.slice none 0 0] (usC Q E c d k nm r) 0 (fun _=>.bool (inB (usB Q E) k (qAc none 0))) (fun _=>[none,none]):=by
 rw[←qXe (c:=c) (d:=d) (x:=qAc none 0) rfl fun _ _=>rfl]
 exact qUm hk ((qSW (qSv (usL Q E c d k nm r)) (qAc none 0) (qXZ (by omega) hl) qGJ).toO.mono fun z hz=>hz.elim id fun h=>absurd h.1 (Nat.lt_irrefl 0))
theorem twU {F:Blk→Prop} {Q:BytL} {E:Int} {c d k nm r:Nat} (hk:k≤10) (hl:∀i,usN Q E i≤9223372036854775807):qAb F TP 36 [gsV (usL Q E c d k nm r)] (usC Q E c d k nm r) 0 (fun _=>.bool (twB (usB Q E) k)) (fun _=>[none,none]):=by
 rw[←jB8 (c:=c) (d:=d)]
 exact qUm hk (qSO (qSv (usL Q E c d k nm r)) (qXZ (by omega) hl)).toO
abbrev qRS (a:BytL) (b c d:Nat):=Value.slice (((uz a b c (d+1)).1).wa) (((uz a b c (d+1)).1).wn) (((uz a b c (d+1)).1).wc)
abbrev qLF (a:BytL) (b c:Nat) (d:Nat×UInt64×Nat×Nat×Nat×Nat):=inB (usB (yz a b c) (ez a b c)) d.1 (qAc none 0)
abbrev qRO (a:Nat×UInt64×Nat×Nat×Nat×Nat) (b:BytL) (c d e f g h:Nat):=qAE (a.1+1) (usV (yz b c d) (ez b c d) (qAy a.2.2.1 a.1 e) (qAy a.2.2.2.1 a.1 f)) g h
abbrev qLp (a:BytL) (b c:Nat):=rsE (qDG (cpG a b c)) 0 18446744073709551615
abbrev qMY (a:BytL) (b c:Nat):=rsV (qDG (cpG a b c)) 0 18446744073709551615
abbrev jAG (a:BytL) (b:Nat×UInt64×Nat×Nat×Nat×Nat):=qAE (uN a) (usV (uQ a) (uE a) b.2.2.1 b.2.2.2.1) b.2.2.2.2.1 b.2.2.2.2.2
abbrev jAA (a:BytL) (b c:Nat) (d:Nat×UInt64×Nat×Nat×Nat×Nat) (e f:Nat):=plU (yz a b c) (ez a b c) (qAy d.2.2.1 d.1 e) (qAy d.2.2.2.1 d.1 f) (d.1+1)
abbrev qWk (a:BytL) (b c:Nat) (d:Nat×UInt64×Nat×Nat×Nat×Nat):=plU (yz a b c) (ez a b c) d.2.2.1 d.2.2.2.1 d.1
abbrev qOJ (a:BytL) (b c:Nat):=gsE u8C [u8 0] 1 (cpG a b c)
abbrev qWK (a:BytL) (b c d:Nat):=decide (0<usN (yz a b c) (ez a b c) d)
abbrev qRL (a:Nat) (b:Nat×UInt64×Nat×Nat×Nat×Nat) (c:Nat) (d:BytL) (e f g h:Nat):=gsE qBb [Value.slice none 0 0] 1 (Grw.mk false a (b.1+1) c (kz d b e f g h))
abbrev qRj (a:BytL) (b c:Nat):=rsQ (qDG (cpG a b c)) 0 18446744073709551615
abbrev qZE (a:BytL) (b c:Nat) (d:Nat×UInt64×Nat×Nat×Nat×Nat):=qA1 (qLF a b c d) true (twB (usB (yz a b c) (ez a b c)) d.1)
abbrev qX1 (a:BytL) (b c d:Nat):=Value.slice (((uz a b c d).1).wa) (((uz a b c d).1).wn) (((uz a b c d).1).wc)
def qMU (q:BytL) (n1:Nat) (n2:Nat) (n3:Nat) (x1:Nat×UInt64×Nat×Nat×Nat×Nat):St:=⟨[(2,.v (u64 (qMY q n2 n3))),(3,.v (gsV (gz q x1 n2 n3))),(5,.v (ptr n1 0)),(11,.v (u64 (nz q n2 n3))),(12,.v (u64 x1.2.1))],[(0,some ⟨n1,true,0,(.lit [(qX1 q n2 n3 x1.1),(int ((uz q n2 n3 x1.1).2))])⟩),(1,(qOJ q n2 n3)),(2,(gsE qBb [vS none 0 0] 1 (gz q x1 n2 n3))),(3,(qWk q n2 n3 x1))],4⟩
def qHJ (q:BytL) (n1:Nat) (n2:Nat) (n3:Nat) (x1:Nat×UInt64×Nat×Nat×Nat×Nat):Prop:=((x1.2.1:UInt64).toNat=x1.1)∧(x1.1≤10)∧(x1.1≤(nz q n2 n3).toNat)
def qFL (q:BytL) (n1:Nat) (n2:Nat) (n3:Nat) (x1:Nat×UInt64×Nat×Nat×Nat×Nat):Nat:=10-x1.1
theorem jEl (q:BytL) (hq:OkB q) (hl:q.wn≤100000) (hd:uD q≠0):qAb (qA2 q) TP 18 [(Value.slice q.wa q.wn q.wc)] [] 0 (fun _=>Value.tuple #[u64 0,Value.slice none 0 0,int (uD q)]) (fun _=>[]):=
 qAn mix Tryd.func18 rfl rfl 400 (.reg (rg [.g,.g,.g]) (.regn (rg [.g,(.callO [] 3 2 (fun ns=>ptr (g0 ns) 0) (fun ns=>[some ⟨(g0 ns),true,0,.lit [gsV (cpG q (g1 ns) (g2 ns)),int 0]⟩,(gsE u8C [u8 0] 1 (cpG q (g1 ns) (g2 ns)))])),.g]) (more (fun n1=>more (fun n2=>more (fun n3=>fun _=>(.reg (rg [.g,(.callO [(0,false),(1,true)] 0 0 (fun _=>(u64 (qMY q n2 n3))) (fun _=>[some ⟨n1,true,0,.lit [qAJ (qRj q n2 n3),int (qLp q n2 n3)]⟩,none])),.g]) (.keep [0,2,3,4,6,7,5,8,9] [0,1] 4 (.reg (rg [.g,(.callO [(0,false),(1,true)] 0 0 (fun _=>(u64 (nz q n2 n3))) (fun _=>[some ⟨n1,true,0,.lit [qAJ (yz q n2 n3),int (ez q n2 n3)]⟩,none])),.g]) (.inv [2,3,5,11,12] [0,1,2,3] 4 (qHJ q n1 n2 n3) (qMU q n1 n2 n3) (qFL q n1 n2 n3) ((0,0,0,0,0,0):Nat×UInt64×Nat×Nat×Nat×Nat) (fun(x1:Nat×UInt64×Nat×Nat×Nat×Nat)=>(.reg (rg [(.as (vB (decide (x1.2.1<(nz q n2 n3)))))]) (.br (.regn (rg [.g,.g,(.callO [(0,false),(1,true)] 2 1 (fun ns=>qAJ (rbV (uz q n2 n3 x1.1).1 (uz q n2 n3 x1.1).2 1000 (g0 ns) (g1 ns))) (fun ns=>[some ⟨n1,true,0,.lit [qAJ (uz q n2 n3 (x1.1+1)).1,int (uz q n2 n3 (x1.1+1)).2]⟩,none,(rbK (uz q n2 n3 x1.1).1 (uz q n2 n3 x1.1).2 1000 (g0 ns) (g1 ns))])),.bsl,(.othOB [(2,false),(5,true)] 2 0 (fun ns=>gsV (Grw.mk false (g0 ns) (x1.1+1) (g1 ns) (qAs (gz q x1 n2 n3).f x1.1 (gz q x1 n2 n3).f))) (fun bs ns=>[(gsE qBb [vS none 0 0] 1 (Grw.mk false (g0 ns) (x1.1+1) (g1 ns) (qAs (gz q x1 n2 n3).f x1.1 (fun _=>qOf (qQ4 bs 1))))),none])),.g]) (more (fun n4=>more (fun n5=>more (fun n6=>more (fun n7=>more (fun n8=>fun _=>(.both (qWK q n2 n3 x1.1) (.keep [2,3,5,11,12] [0,1,2,3,4] 5 (.told ⟨[(2,.v (u64 (qMY q n2 n3))),(3,.v (gsV (Grw.mk false n7 (x1.1+1) n8 (kz q x1 n2 n3 n4 n5)))),(5,.v (ptr n1 0)),(11,.v (u64 (nz q n2 n3))),(12,.v (u64 x1.2.1))],[(0,some ⟨n1,true,0,(.lit [(qRS q n2 n3 x1.1),(int (uz q n2 n3 (x1.1+1)).2)])⟩),(1,(qOJ q n2 n3)),(2,(qRL n7 x1 n8 q n2 n3 n4 n5)),(3,(qWk q n2 n3 x1)),(4,some ⟨n4,true,0,(spr (usN (yz q n2 n3) (ez q n2 n3) x1.1+n5) (usN (yz q n2 n3) (ez q n2 n3) x1.1) (fun k=>u8 (usW (yz q n2 n3) (ez q n2 n3) x1.1 k)) (u8 0))⟩)],5⟩ (.pack 4 3 10 (gU (yz q n2 n3) (ez q n2 n3) (qAy x1.2.2.1 x1.1 n4) (qAy x1.2.2.2.1 x1.1 n5) (x1.1+1)) (.keep [2,3,5,11,12] [0,1,2,3] 4 (.told ⟨[(2,.v (u64 (qMY q n2 n3))),(3,.v (gsV (qRO x1 q n2 n3 n4 n5 n7 n8))),(5,.v (ptr n1 0)),(11,.v (u64 (nz q n2 n3))),(12,.v (u64 x1.2.1))],[(0,some ⟨n1,true,0,(.lit [(qRS q n2 n3 x1.1),(int (uz q n2 n3 (x1.1+1)).2)])⟩),(1,(qOJ q n2 n3)),(2,(gsE qBb [vS none 0 0] 1 (qRO x1 q n2 n3 n4 n5 n7 n8))),(3,(jAA q n2 n3 x1 n4 n5))],4⟩ (.reg (rg [(.as (u64 (x1.2.1+1))),.g]) .done)))))) (.keep [2,3,5,11,12] [0,1,2,3,4] 5 (.told ⟨[(2,.v (u64 (qMY q n2 n3))),(3,.v (gsV (Grw.mk false n7 (x1.1+1) n8 (kz q x1 n2 n3 n4 n5)))),(5,.v (ptr n1 0)),(11,.v (u64 (nz q n2 n3))),(12,.v (u64 x1.2.1))],[(0,some ⟨n1,true,0,(.lit [(qRS q n2 n3 x1.1),(int (uz q n2 n3 (x1.1+1)).2)])⟩),(1,(qOJ q n2 n3)),(2,(qRL n7 x1 n8 q n2 n3 n4 n5)),(3,(qWk q n2 n3 x1)),(4,none)],5⟩ (.keep [2,3,5,11,12] [0,1,2,3] 4 (.told ⟨[(2,.v (u64 (qMY q n2 n3))),(3,.v (gsV (qRO x1 q n2 n3 n4 n5 n7 n8))),(5,.v (ptr n1 0)),(11,.v (u64 (nz q n2 n3))),(12,.v (u64 x1.2.1))],[(0,some ⟨n1,true,0,(.lit [(qRS q n2 n3 x1.1),(int (uz q n2 n3 (x1.1+1)).2)])⟩),(1,(qOJ q n2 n3)),(2,(gsE qBb [vS none 0 0] 1 (qRO x1 q n2 n3 n4 n5 n7 n8))),(3,(jAA q n2 n3 x1 n4 n5))],4⟩ (.reg (rg [(.as (u64 (x1.2.1+1))),.g]) .done))))))))))))) (.reg (rg [.g,(.callO [(0,true)] 0 0 (fun _=>(int (uD q))) (fun _=>[none])),.g]) (.reg (rg [.g,.g,.g,(.opt .g),(.opt (.callO [(2,true),(3,true)] 0 0 (fun _=>(vB (qLF q n2 n3 x1))) (fun _=>[none,none]))),(.opt .g),(.opt .g),(.opt (.callO [(2,true),(3,true)] 0 0 (fun _=>(vB (twB (usB (yz q n2 n3) (ez q n2 n3)) x1.1))) (fun _=>[none,none]))),(.opt .pk),.pk]) (.no (.reg (rg [.g,.g]) (.yes (.reg (rg [.g,.g,.g,.g]) .done))))))))))))))))))) [] [] rfl
  (Eq.mp (by kernel_rfl) (aI kV3 (fun(n1 n2 n3:Nat)=>aI (sk (aI (aT (qZa q hq (Nat.le_trans hl (by decide)))) kV1)) (aI (sk (aI (aT (RdR.lend (F:=qA2 q) (qAG hq hl n2 n3) (qCF n1 (qDG (cpG q n2 n3)) 0 18446744073709551615 (qAG hq hl n2 n3).ok (qAG hq hl n2 n3).le) (fun _=>⟨rfl,tV⟩))) kV1)) ((aI (sk (aI (aT (RdR.lend (F:=qA2 q) (RdR.small (qAG hq hl n2 n3) 0 18446744073709551615) (qCF n1 (qRj q n2 n3) (qLp q n2 n3) 10 (RdR.small (qAG hq hl n2 n3) 0 18446744073709551615).ok (RdR.small (qAG hq hl n2 n3) 0 18446744073709551615).le) (fun _=>⟨rfl,tV⟩))) kV1)) (aI (show(qHJ q n1 n2 n3) ((0,0,0,0,0,0):Nat×UInt64×Nat×Nat×Nat×Nat) from(show((0:UInt64).toNat=0)∧(0≤10)∧(0≤(nz q n2 n3).toNat) from by exact⟨rfl,by decide,Nat.zero_le _⟩)) (aI (@rfl St ((qMU q n1 n2 n3) ((0,0,0,0,0,0):Nat×UInt64×Nat×Nat×Nat×Nat))) (fun(x1:Nat×UInt64×Nat×Nat×Nat×Nat) (hx1:(qHJ q n1 n2 n3) x1)=>have B0:(x1.2.1:UInt64).toNat=x1.1:=hx1.1;have B1:x1.1≤10:=hx1.2.1;have B2:x1.1≤(nz q n2 n3).toNat:=hx1.2.2;aI (aI (aT (@qF3 TP 30 30 (.tmp 12) (.tmp 11) x1.2.1 (nz q n2 n3))) tV) (aT (aI (fun(h1:(decide (x1.2.1<(nz q n2 n3)))=true)=>have f4:=(oT h1);fun(n4 n5 n6 n7 n8:Nat)=>aI (sK2 (aI (aT (RdR.lend (F:=qA2 q) (RdR.us (RdR.small (RdR.small (qAG hq hl n2 n3) 0 18446744073709551615) (qLp q n2 n3) 10) (ez q n2 n3) x1.1) (qMg n1 (uz q n2 n3 x1.1).1 (uz q n2 n3 x1.1).2 1000 (RdR.us (RdR.small (RdR.small (qAG hq hl n2 n3) 0 18446744073709551615) (qLp q n2 n3) 10) (ez q n2 n3) x1.1).ok (RdR.us (RdR.small (RdR.small (qAG hq hl n2 n3) 0 18446744073709551615) (qLp q n2 n3) 10) (ez q n2 n3) x1.1).le (by decide)) (fun _=>⟨rfl,qPs⟩))) (aI (aT (qA6 (P:=TP) (t:=35) (e:=23) qK1 1 #[(0,(qAJ (rz q n2 n3 x1.1 n4 n5)))] #[(qAJ (rz q n2 n3 x1.1 n4 n5))] (by kernel_rfl) (by decide) (by kernel_rfl))) (aI (aT (qEO (P:=TP) (t:=35) (ty:=35) (e:=23) (by kernel_rfl) qRl (gz q x1 n2 n3) (qBt _ _ _ _) qI7 (fun _=>(qOf (qAJ (rz q n2 n3 x1.1 n4 n5)))) 1 (some ⟨n6,0,none⟩) 1 (some ⟨n6,false,0,(.lit [(qAJ (rz q n2 n3 x1.1 n4 n5))])⟩) (fun _=>⟨_,_,_,_,rfl,rfl,(qHH (sz:=1) (l:=qBb (qOf (qAJ (rz q n2 n3 x1.1 n4 n5)))) rfl)⟩) (show(x1.1+1)*24≤140737488355328∧x1.1+1≤9223372036854775807 from by omega))) kV1)))) (aI (fun(h2:(qWK q n2 n3 x1.1)=true)=>have f5:=(oT h2);aI (show(⟨[(2,.v (u64 (rsV (qDG (cpG q n2 n3)) 0 18446744073709551615))),(3,.v (gsV (Grw.mk false n7 (x1.1+1) n8 (kz q x1 n2 n3 n4 n5)))),(5,.v (ptr n1 0)),(11,.v (u64 (nz q n2 n3))),(12,.v (u64 x1.2.1))],[(0,some ⟨n1,true,0,(.lit [(vS ((uz q n2 n3 (x1.1+1)).1).wa ((uz q n2 n3 (x1.1+1)).1).wn ((uz q n2 n3 (x1.1+1)).1).wc),(int (uz q n2 n3 (x1.1+1)).2)])⟩),(1,(gsE u8C [u8 0] 1 (cpG q n2 n3))),(2,(gsE qBb [vS none 0 0] 1 (Grw.mk false n7 (x1.1+1) n8 (kz q x1 n2 n3 n4 n5)))),(3,(plU (yz q n2 n3) (ez q n2 n3) x1.2.2.1 x1.2.2.2.1 x1.1)),(4,(rbK (uz q n2 n3 x1.1).1 (uz q n2 n3 x1.1).2 1000 n4 n5))],5⟩:St)=⟨[(2,.v (u64 (rsV (qDG (cpG q n2 n3)) 0 18446744073709551615))),(3,.v (gsV (Grw.mk false n7 (x1.1+1) n8 (kz q x1 n2 n3 n4 n5)))),(5,.v (ptr n1 0)),(11,.v (u64 (nz q n2 n3))),(12,.v (u64 x1.2.1))],[(0,some ⟨n1,true,0,(.lit [(vS ((uz q n2 n3 (x1.1+1)).1).wa ((uz q n2 n3 (x1.1+1)).1).wn ((uz q n2 n3 (x1.1+1)).1).wc),(int (uz q n2 n3 (x1.1+1)).2)])⟩),(1,(gsE u8C [u8 0] 1 (cpG q n2 n3))),(2,(gsE qBb [vS none 0 0] 1 (Grw.mk false n7 (x1.1+1) n8 (kz q x1 n2 n3 n4 n5)))),(3,(plU (yz q n2 n3) (ez q n2 n3) x1.2.2.1 x1.2.2.2.1 x1.1)),(4,some ⟨n4,true,0,(spr (usN (yz q n2 n3) (ez q n2 n3) x1.1+n5) (usN (yz q n2 n3) (ez q n2 n3) x1.1) (fun k=>u8 (usW (yz q n2 n3) (ez q n2 n3) x1.1 k)) (u8 0))⟩)],5⟩ from by(try unfold kz);(try unfold qAJ);unfold rz uz;rw[qOh (Q:=(yz q n2 n3)) (E:=(ez q n2 n3)) (k:=x1.1) (oT h2)]) (aI (qSh (Q:=(yz q n2 n3)) (E:=(ez q n2 n3)) (c:=x1.2.2.1) (d:=x1.2.2.2.1) (k:=x1.1) (n1:=n4) (n2:=n5) (oT h2)) (aI (show(⟨[(2,.v (u64 (rsV (qDG (cpG q n2 n3)) 0 18446744073709551615))),(3,.v (gsV (Grw.mk false n7 (x1.1+1) n8 (kz q x1 n2 n3 n4 n5)))),(5,.v (ptr n1 0)),(11,.v (u64 (nz q n2 n3))),(12,.v (u64 x1.2.1))],[(0,some ⟨n1,true,0,(.lit [(vS ((uz q n2 n3 (x1.1+1)).1).wa ((uz q n2 n3 (x1.1+1)).1).wn ((uz q n2 n3 (x1.1+1)).1).wc),(int (uz q n2 n3 (x1.1+1)).2)])⟩),(1,(gsE u8C [u8 0] 1 (cpG q n2 n3))),(2,(gsE qBb [vS none 0 0] 1 (Grw.mk false n7 (x1.1+1) n8 (kz q x1 n2 n3 n4 n5)))),(3,some ⟨n4,true,0,.pile 10 (gU (yz q n2 n3) (ez q n2 n3) (qAy x1.2.2.1 x1.1 n4) (qAy x1.2.2.2.1 x1.1 n5) (x1.1+1))⟩)],4⟩:St)=⟨[(2,.v (u64 (rsV (qDG (cpG q n2 n3)) 0 18446744073709551615))),(3,.v (gsV (qAE (x1.1+1) (usV (yz q n2 n3) (ez q n2 n3) (qAy x1.2.2.1 x1.1 n4) (qAy x1.2.2.2.1 x1.1 n5)) n7 n8))),(5,.v (ptr n1 0)),(11,.v (u64 (nz q n2 n3))),(12,.v (u64 x1.2.1))],[(0,some ⟨n1,true,0,(.lit [(vS ((uz q n2 n3 (x1.1+1)).1).wa ((uz q n2 n3 (x1.1+1)).1).wn ((uz q n2 n3 (x1.1+1)).1).wc),(int (uz q n2 n3 (x1.1+1)).2)])⟩),(1,(gsE u8C [u8 0] 1 (cpG q n2 n3))),(2,(gsE qBb [vS none 0 0] 1 (qAE (x1.1+1) (usV (yz q n2 n3) (ez q n2 n3) (qAy x1.2.2.1 x1.1 n4) (qAy x1.2.2.2.1 x1.1 n5)) n7 n8))),(3,(plU (yz q n2 n3) (ez q n2 n3) (qAy x1.2.2.1 x1.1 n4) (qAy x1.2.2.2.1 x1.1 n5) (x1.1+1)))],4⟩ from by rw[qOQ (Q:=(yz q n2 n3)) (E:=(ez q n2 n3)) (c:=x1.2.2.1) (d:=x1.2.2.2.1) (k:=x1.1) (n1:=n4) (n2:=n5) (oT h2),(qF7 (Q:=(yz q n2 n3)) (E:=(ez q n2 n3)) (c:=x1.2.2.1) (d:=x1.2.2.2.1) (k:=x1.1) (n1:=n4) (n2:=n5) (A:=Grw.mk false n7 (x1.1+1) n8 (kz q x1 n2 n3 n4 n5)) rfl rfl rfl).1,(qF7 (Q:=(yz q n2 n3)) (E:=(ez q n2 n3)) (c:=x1.2.2.1) (d:=x1.2.2.2.1) (k:=x1.1) (n1:=n4) (n2:=n5) (A:=Grw.mk false n7 (x1.1+1) n8 (kz q x1 n2 n3 n4 n5)) rfl rfl rfl).2]) (aI (aI (aT (@qBv TP 30 30 (.tmp 12) (.const (.int .u64 1)) x1.2.1 1)) kV1) ((rnd (qHJ q n1 n2 n3) (qMU q n1 n2 n3) (qFL q n1 n2 n3) x1 ((x1.1+1,(x1.2.1+1),(qAy x1.2.2.1 x1.1 n4),(qAy x1.2.2.2.1 x1.1 n5),n7,n8):Nat×UInt64×Nat×Nat×Nat×Nat) (show(qHJ q n1 n2 n3) ((x1.1+1,(x1.2.1+1),(qAy x1.2.2.1 x1.1 n4),(qAy x1.2.2.2.1 x1.1 n5),n7,n8):Nat×UInt64×Nat×Nat×Nat×Nat)∧(qFL q n1 n2 n3) ((x1.1+1,(x1.2.1+1),(qAy x1.2.2.1 x1.1 n4),(qAy x1.2.2.2.1 x1.1 n5),n7,n8):Nat×UInt64×Nat×Nat×Nat×Nat)<(qFL q n1 n2 n3) x1 from(show((((x1.2.1+1):UInt64).toNat=(x1.1+1))∧((x1.1+1)≤10)∧((x1.1+1)≤(nz q n2 n3).toNat))∧(10-(x1.1+1))<(10-x1.1) from by have h1:=qGZ B0 h1;have h2:(nz q n2 n3).toNat≤10:=qKn _ _ 10;exact⟨⟨h1.1,by omega,by omega⟩,by omega⟩)))))))) (fun(h2:(qWK q n2 n3 x1.1)=false)=>have f5:=(oF h2);aI (show(⟨[(2,.v (u64 (rsV (qDG (cpG q n2 n3)) 0 18446744073709551615))),(3,.v (gsV (Grw.mk false n7 (x1.1+1) n8 (kz q x1 n2 n3 n4 n5)))),(5,.v (ptr n1 0)),(11,.v (u64 (nz q n2 n3))),(12,.v (u64 x1.2.1))],[(0,some ⟨n1,true,0,(.lit [(vS ((uz q n2 n3 (x1.1+1)).1).wa ((uz q n2 n3 (x1.1+1)).1).wn ((uz q n2 n3 (x1.1+1)).1).wc),(int (uz q n2 n3 (x1.1+1)).2)])⟩),(1,(gsE u8C [u8 0] 1 (cpG q n2 n3))),(2,(gsE qBb [vS none 0 0] 1 (Grw.mk false n7 (x1.1+1) n8 (kz q x1 n2 n3 n4 n5)))),(3,(plU (yz q n2 n3) (ez q n2 n3) x1.2.2.1 x1.2.2.2.1 x1.1)),(4,(rbK (uz q n2 n3 x1.1).1 (uz q n2 n3 x1.1).2 1000 n4 n5))],5⟩:St)=⟨[(2,.v (u64 (rsV (qDG (cpG q n2 n3)) 0 18446744073709551615))),(3,.v (gsV (Grw.mk false n7 (x1.1+1) n8 (kz q x1 n2 n3 n4 n5)))),(5,.v (ptr n1 0)),(11,.v (u64 (nz q n2 n3))),(12,.v (u64 x1.2.1))],[(0,some ⟨n1,true,0,(.lit [(vS ((uz q n2 n3 (x1.1+1)).1).wa ((uz q n2 n3 (x1.1+1)).1).wn ((uz q n2 n3 (x1.1+1)).1).wc),(int (uz q n2 n3 (x1.1+1)).2)])⟩),(1,(gsE u8C [u8 0] 1 (cpG q n2 n3))),(2,(gsE qBb [vS none 0 0] 1 (Grw.mk false n7 (x1.1+1) n8 (kz q x1 n2 n3 n4 n5)))),(3,(plU (yz q n2 n3) (ez q n2 n3) x1.2.2.1 x1.2.2.2.1 x1.1)),(4,none)],5⟩ from by(try unfold kz);(try unfold qAJ);unfold rz uz;rw[qSm (Q:=(yz q n2 n3)) (E:=(ez q n2 n3)) (k:=x1.1) (oF h2)]) (aI (show(⟨[(2,.v (u64 (rsV (qDG (cpG q n2 n3)) 0 18446744073709551615))),(3,.v (gsV (Grw.mk false n7 (x1.1+1) n8 (kz q x1 n2 n3 n4 n5)))),(5,.v (ptr n1 0)),(11,.v (u64 (nz q n2 n3))),(12,.v (u64 x1.2.1))],[(0,some ⟨n1,true,0,(.lit [(vS ((uz q n2 n3 (x1.1+1)).1).wa ((uz q n2 n3 (x1.1+1)).1).wn ((uz q n2 n3 (x1.1+1)).1).wc),(int (uz q n2 n3 (x1.1+1)).2)])⟩),(1,(gsE u8C [u8 0] 1 (cpG q n2 n3))),(2,(gsE qBb [vS none 0 0] 1 (Grw.mk false n7 (x1.1+1) n8 (kz q x1 n2 n3 n4 n5)))),(3,(plU (yz q n2 n3) (ez q n2 n3) x1.2.2.1 x1.2.2.2.1 x1.1))],4⟩:St)=⟨[(2,.v (u64 (rsV (qDG (cpG q n2 n3)) 0 18446744073709551615))),(3,.v (gsV (qAE (x1.1+1) (usV (yz q n2 n3) (ez q n2 n3) (qAy x1.2.2.1 x1.1 n4) (qAy x1.2.2.2.1 x1.1 n5)) n7 n8))),(5,.v (ptr n1 0)),(11,.v (u64 (nz q n2 n3))),(12,.v (u64 x1.2.1))],[(0,some ⟨n1,true,0,(.lit [(vS ((uz q n2 n3 (x1.1+1)).1).wa ((uz q n2 n3 (x1.1+1)).1).wn ((uz q n2 n3 (x1.1+1)).1).wc),(int (uz q n2 n3 (x1.1+1)).2)])⟩),(1,(gsE u8C [u8 0] 1 (cpG q n2 n3))),(2,(gsE qBb [vS none 0 0] 1 (qAE (x1.1+1) (usV (yz q n2 n3) (ez q n2 n3) (qAy x1.2.2.1 x1.1 n4) (qAy x1.2.2.2.1 x1.1 n5)) n7 n8))),(3,(plU (yz q n2 n3) (ez q n2 n3) (qAy x1.2.2.1 x1.1 n4) (qAy x1.2.2.2.1 x1.1 n5) (x1.1+1)))],4⟩ from by rw[qSl (Q:=(yz q n2 n3)) (E:=(ez q n2 n3)) (c:=x1.2.2.1) (d:=x1.2.2.2.1) (k:=x1.1) (n1:=n4) (n2:=n5) (oF h2),(qF7 (Q:=(yz q n2 n3)) (E:=(ez q n2 n3)) (c:=x1.2.2.1) (d:=x1.2.2.2.1) (k:=x1.1) (n1:=n4) (n2:=n5) (A:=Grw.mk false n7 (x1.1+1) n8 (kz q x1 n2 n3 n4 n5)) rfl rfl rfl).1,(qF7 (Q:=(yz q n2 n3)) (E:=(ez q n2 n3)) (c:=x1.2.2.1) (d:=x1.2.2.2.1) (k:=x1.1) (n1:=n4) (n2:=n5) (A:=Grw.mk false n7 (x1.1+1) n8 (kz q x1 n2 n3 n4 n5)) rfl rfl rfl).2]) (aI (aI (aT (@qBv TP 30 30 (.tmp 12) (.const (.int .u64 1)) x1.2.1 1)) kV1) ((rnd (qHJ q n1 n2 n3) (qMU q n1 n2 n3) (qFL q n1 n2 n3) x1 ((x1.1+1,(x1.2.1+1),(qAy x1.2.2.1 x1.1 n4),(qAy x1.2.2.2.1 x1.1 n5),n7,n8):Nat×UInt64×Nat×Nat×Nat×Nat) (show(qHJ q n1 n2 n3) ((x1.1+1,(x1.2.1+1),(qAy x1.2.2.1 x1.1 n4),(qAy x1.2.2.2.1 x1.1 n5),n7,n8):Nat×UInt64×Nat×Nat×Nat×Nat)∧(qFL q n1 n2 n3) ((x1.1+1,(x1.2.1+1),(qAy x1.2.2.1 x1.1 n4),(qAy x1.2.2.2.1 x1.1 n5),n7,n8):Nat×UInt64×Nat×Nat×Nat×Nat)<(qFL q n1 n2 n3) x1 from(show((((x1.2.1+1):UInt64).toNat=(x1.1+1))∧((x1.1+1)≤10)∧((x1.1+1)≤(nz q n2 n3).toNat))∧(10-(x1.1+1))<(10-x1.1) from by have h1:=qGZ B0 h1;have h2:(nz q n2 n3).toNat≤10:=qKn _ _ 10;exact⟨⟨h1.1,by omega,by omega⟩,by omega⟩))))))))) (fun(h1:(decide (x1.2.1<(nz q n2 n3)))=false)=>have f4:=(oF h1);aI (sk (aI (aT (qOi (F:=qA2 q) n1 (uz q n2 n3 x1.1).1 (uz q n2 n3 x1.1).2 (uD q) (by have e:x1.1=uN (qDG (cpG q n2 n3)):=qJa B0 B2 h1;rw[e];exact(qFV hq n2 n3).uD))) kV1)) (aI (sK3 (aI (fun(hg:(sB (((uD q):Int)==0) true)=true)=>t2) (aI (fun(hg:(sB (((uD q):Int)==0) true)=true)=>have f5:(((uD q):Int)==0)=true:=(qAo hg);(aI (aI hg tV) (jCZ (F:=qA2 q) (Q:=(yz q n2 n3)) (E:=(ez q n2 n3)) (c:=x1.2.2.1) (d:=x1.2.2.2.1) (k:=x1.1) (nm:=x1.2.2.2.2.1) (r:=x1.2.2.2.2.2) B1 (fun i=>Nat.le_trans (qII (RdR.small (RdR.small (qAG hq hl n2 n3) 0 18446744073709551615) (qLp q n2 n3) 10) (ez q n2 n3) i) (by decide))))) (aI (fun(hg:(sB (((uD q):Int)==0) true)=true)=>(aI (aI hg tV) tV)) (aI (fun(hg:(qA1 (sB (((uD q):Int)==0) true) (sB (qLF q n2 n3 x1) false) false)=true)=>t2) (aI (fun(hg:(qA1 (sB (((uD q):Int)==0) true) (sB (qLF q n2 n3 x1) false) false)=true)=>have f5:(((uD q):Int)==0)=true:=(qAo (qWj hg));have f6:(qLF q n2 n3 x1)=false:=(qBF (qVC hg));(aI (aI hg tV) (twU (F:=qA2 q) (Q:=(yz q n2 n3)) (E:=(ez q n2 n3)) (c:=x1.2.2.1) (d:=x1.2.2.2.1) (k:=x1.1) (nm:=x1.2.2.2.2.1) (r:=x1.2.2.2.2.2) B1 (fun i=>Nat.le_trans (qII (RdR.small (RdR.small (qAG hq hl n2 n3) 0 18446744073709551615) (qLp q n2 n3) 10) (ez q n2 n3) i) (by decide))))) (aI (fun(hg:(sB (((uD q):Int)==0) true)=true)=>(aI hg (aI (fun(_:(qLF q n2 n3 x1)=true)=>tV) (fun(hp:(qLF q n2 n3 x1)=false)=>(qZ0 hg (qBf hp)))))) (aI (aT (aI (fun(hp:(((uD q):Int)==0)=true)=>(qBr hp)) (fun(_:(((uD q):Int)==0)=false)=>tV))) tV)))))))) ((fun(hp3:(qA1 (((uD q):Int)==0) (qZE q n2 n3 x1) false)=false)=>aT (aI hp3 (aI kV2 ((fun(hp4:(((uD q):Int)!=0)=true)=>aT (aI hp4 (aI kV4 (aT (eX (fun(ns:List Nat)=>ns.length=0∧((vT #[(u64 0),(vS none 0 0),(int (uD q))]):Value)=(fun _=>vT #[u64 0,vS none 0 0,int (uD q)]) ns∧([]:List (Option Blk))=(fun _=>[]) ns) [] (aI (@rfl Nat 0) (aI (@rfl Value (vT #[u64 0,vS none 0 0,int (uD q)])) (@rfl (List (Option Blk)) [])))))))) (show(((uD q):Int)!=0)=true from by simpa using hd))))) (show(qA1 (((uD q):Int)==0) (qA1 (inB (usB (yz q n2 n3) (ez q n2 n3)) x1.1 (qAc none 0)) true (twB (usB (yz q n2 n3) (ez q n2 n3)) x1.1)) false)=false from by rw[show(uD q==0)=false from by simpa using hd]<;>rfl)))))))))))))))
def qMw (q:BytL) (n1:Nat) (n2:Nat) (n3:Nat) (x1:Nat×UInt64×Nat×Nat×Nat×Nat):St:=⟨[(2,.v (u64 (qMY q n2 n3))),(3,.v (gsV (gz q x1 n2 n3))),(5,.v (ptr n1 0)),(11,.v (u64 (nz q n2 n3))),(12,.v (u64 x1.2.1))],[(0,some ⟨n1,true,0,(.lit [(qX1 q n2 n3 x1.1),(int ((uz q n2 n3 x1.1).2))])⟩),(1,(qOJ q n2 n3)),(2,(gsE qBb [vS none 0 0] 1 (gz q x1 n2 n3))),(3,(qWk q n2 n3 x1))],4⟩
def qHC (q:BytL) (n1:Nat) (n2:Nat) (n3:Nat) (x1:Nat×UInt64×Nat×Nat×Nat×Nat):Prop:=((x1.2.1:UInt64).toNat=x1.1)∧(x1.1≤10)∧(x1.1≤(nz q n2 n3).toNat)
def qFG (q:BytL) (n1:Nat) (n2:Nat) (n3:Nat) (x1:Nat×UInt64×Nat×Nat×Nat×Nat):Nat:=10-x1.1
theorem jEj (q:BytL) (hq:OkB q) (hl:q.wn≤100000) (hd:uD q=0) (hb:uB q=true):qAb (qA2 q) TP 18 [(Value.slice q.wa q.wn q.wc)] [] 0 (fun _=>Value.tuple #[u64 0,Value.slice none 0 0,int 31]) (fun _=>[]):=
 qAn mix Tryd.func18 rfl rfl 400 (.reg (rg [.g,.g,.g]) (.regn (rg [.g,(.callO [] 3 2 (fun ns=>ptr (g0 ns) 0) (fun ns=>[some ⟨(g0 ns),true,0,.lit [gsV (cpG q (g1 ns) (g2 ns)),int 0]⟩,(gsE u8C [u8 0] 1 (cpG q (g1 ns) (g2 ns)))])),.g]) (more (fun n1=>more (fun n2=>more (fun n3=>fun _=>(.reg (rg [.g,(.callO [(0,false),(1,true)] 0 0 (fun _=>(u64 (qMY q n2 n3))) (fun _=>[some ⟨n1,true,0,.lit [qAJ (qRj q n2 n3),int (qLp q n2 n3)]⟩,none])),.g]) (.keep [0,2,3,4,6,7,5,8,9] [0,1] 4 (.reg (rg [.g,(.callO [(0,false),(1,true)] 0 0 (fun _=>(u64 (nz q n2 n3))) (fun _=>[some ⟨n1,true,0,.lit [qAJ (yz q n2 n3),int (ez q n2 n3)]⟩,none])),.g]) (.inv [2,3,5,11,12] [0,1,2,3] 4 (qHC q n1 n2 n3) (qMw q n1 n2 n3) (qFG q n1 n2 n3) ((0,0,0,0,0,0):Nat×UInt64×Nat×Nat×Nat×Nat) (fun(x1:Nat×UInt64×Nat×Nat×Nat×Nat)=>(.reg (rg [(.as (vB (decide (x1.2.1<(nz q n2 n3)))))]) (.br (.regn (rg [.g,.g,(.callO [(0,false),(1,true)] 2 1 (fun ns=>qAJ (rbV (uz q n2 n3 x1.1).1 (uz q n2 n3 x1.1).2 1000 (g0 ns) (g1 ns))) (fun ns=>[some ⟨n1,true,0,.lit [qAJ (uz q n2 n3 (x1.1+1)).1,int (uz q n2 n3 (x1.1+1)).2]⟩,none,(rbK (uz q n2 n3 x1.1).1 (uz q n2 n3 x1.1).2 1000 (g0 ns) (g1 ns))])),.bsl,(.othOB [(2,false),(5,true)] 2 0 (fun ns=>gsV (Grw.mk false (g0 ns) (x1.1+1) (g1 ns) (qAs (gz q x1 n2 n3).f x1.1 (gz q x1 n2 n3).f))) (fun bs ns=>[(gsE qBb [vS none 0 0] 1 (Grw.mk false (g0 ns) (x1.1+1) (g1 ns) (qAs (gz q x1 n2 n3).f x1.1 (fun _=>qOf (qQ4 bs 1))))),none])),.g]) (more (fun n4=>more (fun n5=>more (fun n6=>more (fun n7=>more (fun n8=>fun _=>(.both (qWK q n2 n3 x1.1) (.keep [2,3,5,11,12] [0,1,2,3,4] 5 (.told ⟨[(2,.v (u64 (qMY q n2 n3))),(3,.v (gsV (Grw.mk false n7 (x1.1+1) n8 (kz q x1 n2 n3 n4 n5)))),(5,.v (ptr n1 0)),(11,.v (u64 (nz q n2 n3))),(12,.v (u64 x1.2.1))],[(0,some ⟨n1,true,0,(.lit [(qRS q n2 n3 x1.1),(int (uz q n2 n3 (x1.1+1)).2)])⟩),(1,(qOJ q n2 n3)),(2,(qRL n7 x1 n8 q n2 n3 n4 n5)),(3,(qWk q n2 n3 x1)),(4,some ⟨n4,true,0,(spr (usN (yz q n2 n3) (ez q n2 n3) x1.1+n5) (usN (yz q n2 n3) (ez q n2 n3) x1.1) (fun k=>u8 (usW (yz q n2 n3) (ez q n2 n3) x1.1 k)) (u8 0))⟩)],5⟩ (.pack 4 3 10 (gU (yz q n2 n3) (ez q n2 n3) (qAy x1.2.2.1 x1.1 n4) (qAy x1.2.2.2.1 x1.1 n5) (x1.1+1)) (.keep [2,3,5,11,12] [0,1,2,3] 4 (.told ⟨[(2,.v (u64 (qMY q n2 n3))),(3,.v (gsV (qRO x1 q n2 n3 n4 n5 n7 n8))),(5,.v (ptr n1 0)),(11,.v (u64 (nz q n2 n3))),(12,.v (u64 x1.2.1))],[(0,some ⟨n1,true,0,(.lit [(qRS q n2 n3 x1.1),(int (uz q n2 n3 (x1.1+1)).2)])⟩),(1,(qOJ q n2 n3)),(2,(gsE qBb [vS none 0 0] 1 (qRO x1 q n2 n3 n4 n5 n7 n8))),(3,(jAA q n2 n3 x1 n4 n5))],4⟩ (.reg (rg [(.as (u64 (x1.2.1+1))),.g]) .done)))))) (.keep [2,3,5,11,12] [0,1,2,3,4] 5 (.told ⟨[(2,.v (u64 (qMY q n2 n3))),(3,.v (gsV (Grw.mk false n7 (x1.1+1) n8 (kz q x1 n2 n3 n4 n5)))),(5,.v (ptr n1 0)),(11,.v (u64 (nz q n2 n3))),(12,.v (u64 x1.2.1))],[(0,some ⟨n1,true,0,(.lit [(qRS q n2 n3 x1.1),(int (uz q n2 n3 (x1.1+1)).2)])⟩),(1,(qOJ q n2 n3)),(2,(qRL n7 x1 n8 q n2 n3 n4 n5)),(3,(qWk q n2 n3 x1)),(4,none)],5⟩ (.keep [2,3,5,11,12] [0,1,2,3] 4 (.told ⟨[(2,.v (u64 (qMY q n2 n3))),(3,.v (gsV (qRO x1 q n2 n3 n4 n5 n7 n8))),(5,.v (ptr n1 0)),(11,.v (u64 (nz q n2 n3))),(12,.v (u64 x1.2.1))],[(0,some ⟨n1,true,0,(.lit [(qRS q n2 n3 x1.1),(int (uz q n2 n3 (x1.1+1)).2)])⟩),(1,(qOJ q n2 n3)),(2,(gsE qBb [vS none 0 0] 1 (qRO x1 q n2 n3 n4 n5 n7 n8))),(3,(jAA q n2 n3 x1 n4 n5))],4⟩ (.reg (rg [(.as (u64 (x1.2.1+1))),.g]) .done))))))))))))) (.reg (rg [.g,(.callO [(0,true)] 0 0 (fun _=>(int 0)) (fun _=>[none])),.g]) (.reg (rg [.g,.g,.g,(.run .g),(.run (.callO [(2,true),(3,true)] 0 0 (fun _=>(vB (qLF q n2 n3 x1))) (fun _=>[none,none]))),(.run .g),(.opt .g),(.opt (.callO [(2,true),(3,true)] 0 0 (fun _=>(vB (twB (usB (yz q n2 n3) (ez q n2 n3)) x1.1))) (fun _=>[none,none]))),(.run .pk),.pk]) (.yes (.reg (rg [.g]) (.reg (rg [.g,.g]) (.yes (.reg (rg [.g,.g,.g,.g]) .done)))))))))))))))))))) [] [] rfl
  (Eq.mp (by kernel_rfl) (aI kV3 (fun(n1 n2 n3:Nat)=>aI (sk (aI (aT (qZa q hq (Nat.le_trans hl (by decide)))) kV1)) (aI (sk (aI (aT (RdR.lend (F:=qA2 q) (qAG hq hl n2 n3) (qCF n1 (qDG (cpG q n2 n3)) 0 18446744073709551615 (qAG hq hl n2 n3).ok (qAG hq hl n2 n3).le) (fun _=>⟨rfl,tV⟩))) kV1)) ((aI (sk (aI (aT (RdR.lend (F:=qA2 q) (RdR.small (qAG hq hl n2 n3) 0 18446744073709551615) (qCF n1 (qRj q n2 n3) (qLp q n2 n3) 10 (RdR.small (qAG hq hl n2 n3) 0 18446744073709551615).ok (RdR.small (qAG hq hl n2 n3) 0 18446744073709551615).le) (fun _=>⟨rfl,tV⟩))) kV1)) (aI (show(qHC q n1 n2 n3) ((0,0,0,0,0,0):Nat×UInt64×Nat×Nat×Nat×Nat) from(show((0:UInt64).toNat=0)∧(0≤10)∧(0≤(nz q n2 n3).toNat) from by exact⟨rfl,by decide,Nat.zero_le _⟩)) (aI (@rfl St ((qMw q n1 n2 n3) ((0,0,0,0,0,0):Nat×UInt64×Nat×Nat×Nat×Nat))) (fun(x1:Nat×UInt64×Nat×Nat×Nat×Nat) (hx1:(qHC q n1 n2 n3) x1)=>have B0:(x1.2.1:UInt64).toNat=x1.1:=hx1.1;have B1:x1.1≤10:=hx1.2.1;have B2:x1.1≤(nz q n2 n3).toNat:=hx1.2.2;aI (aI (aT (@qF3 TP 30 30 (.tmp 12) (.tmp 11) x1.2.1 (nz q n2 n3))) tV) (aT (aI (fun(h1:(decide (x1.2.1<(nz q n2 n3)))=true)=>have f4:=(oT h1);fun(n4 n5 n6 n7 n8:Nat)=>aI (sK2 (aI (aT (RdR.lend (F:=qA2 q) (RdR.us (RdR.small (RdR.small (qAG hq hl n2 n3) 0 18446744073709551615) (qLp q n2 n3) 10) (ez q n2 n3) x1.1) (qMg n1 (uz q n2 n3 x1.1).1 (uz q n2 n3 x1.1).2 1000 (RdR.us (RdR.small (RdR.small (qAG hq hl n2 n3) 0 18446744073709551615) (qLp q n2 n3) 10) (ez q n2 n3) x1.1).ok (RdR.us (RdR.small (RdR.small (qAG hq hl n2 n3) 0 18446744073709551615) (qLp q n2 n3) 10) (ez q n2 n3) x1.1).le (by decide)) (fun _=>⟨rfl,qPs⟩))) (aI (aT (qA6 (P:=TP) (t:=35) (e:=23) qK1 1 #[(0,(qAJ (rz q n2 n3 x1.1 n4 n5)))] #[(qAJ (rz q n2 n3 x1.1 n4 n5))] (by kernel_rfl) (by decide) (by kernel_rfl))) (aI (aT (qEO (P:=TP) (t:=35) (ty:=35) (e:=23) (by kernel_rfl) qRl (gz q x1 n2 n3) (qBt _ _ _ _) qI7 (fun _=>(qOf (qAJ (rz q n2 n3 x1.1 n4 n5)))) 1 (some ⟨n6,0,none⟩) 1 (some ⟨n6,false,0,(.lit [(qAJ (rz q n2 n3 x1.1 n4 n5))])⟩) (fun _=>⟨_,_,_,_,rfl,rfl,(qHH (sz:=1) (l:=qBb (qOf (qAJ (rz q n2 n3 x1.1 n4 n5)))) rfl)⟩) (show(x1.1+1)*24≤140737488355328∧x1.1+1≤9223372036854775807 from by omega))) kV1)))) (aI (fun(h2:(qWK q n2 n3 x1.1)=true)=>have f5:=(oT h2);aI (show(⟨[(2,.v (u64 (rsV (qDG (cpG q n2 n3)) 0 18446744073709551615))),(3,.v (gsV (Grw.mk false n7 (x1.1+1) n8 (kz q x1 n2 n3 n4 n5)))),(5,.v (ptr n1 0)),(11,.v (u64 (nz q n2 n3))),(12,.v (u64 x1.2.1))],[(0,some ⟨n1,true,0,(.lit [(vS ((uz q n2 n3 (x1.1+1)).1).wa ((uz q n2 n3 (x1.1+1)).1).wn ((uz q n2 n3 (x1.1+1)).1).wc),(int (uz q n2 n3 (x1.1+1)).2)])⟩),(1,(gsE u8C [u8 0] 1 (cpG q n2 n3))),(2,(gsE qBb [vS none 0 0] 1 (Grw.mk false n7 (x1.1+1) n8 (kz q x1 n2 n3 n4 n5)))),(3,(plU (yz q n2 n3) (ez q n2 n3) x1.2.2.1 x1.2.2.2.1 x1.1)),(4,(rbK (uz q n2 n3 x1.1).1 (uz q n2 n3 x1.1).2 1000 n4 n5))],5⟩:St)=⟨[(2,.v (u64 (rsV (qDG (cpG q n2 n3)) 0 18446744073709551615))),(3,.v (gsV (Grw.mk false n7 (x1.1+1) n8 (kz q x1 n2 n3 n4 n5)))),(5,.v (ptr n1 0)),(11,.v (u64 (nz q n2 n3))),(12,.v (u64 x1.2.1))],[(0,some ⟨n1,true,0,(.lit [(vS ((uz q n2 n3 (x1.1+1)).1).wa ((uz q n2 n3 (x1.1+1)).1).wn ((uz q n2 n3 (x1.1+1)).1).wc),(int (uz q n2 n3 (x1.1+1)).2)])⟩),(1,(gsE u8C [u8 0] 1 (cpG q n2 n3))),(2,(gsE qBb [vS none 0 0] 1 (Grw.mk false n7 (x1.1+1) n8 (kz q x1 n2 n3 n4 n5)))),(3,(plU (yz q n2 n3) (ez q n2 n3) x1.2.2.1 x1.2.2.2.1 x1.1)),(4,some ⟨n4,true,0,(spr (usN (yz q n2 n3) (ez q n2 n3) x1.1+n5) (usN (yz q n2 n3) (ez q n2 n3) x1.1) (fun k=>u8 (usW (yz q n2 n3) (ez q n2 n3) x1.1 k)) (u8 0))⟩)],5⟩ from by(try unfold kz);(try unfold qAJ);unfold rz uz;rw[qOh (Q:=(yz q n2 n3)) (E:=(ez q n2 n3)) (k:=x1.1) (oT h2)]) (aI (qSh (Q:=(yz q n2 n3)) (E:=(ez q n2 n3)) (c:=x1.2.2.1) (d:=x1.2.2.2.1) (k:=x1.1) (n1:=n4) (n2:=n5) (oT h2)) (aI (show(⟨[(2,.v (u64 (rsV (qDG (cpG q n2 n3)) 0 18446744073709551615))),(3,.v (gsV (Grw.mk false n7 (x1.1+1) n8 (kz q x1 n2 n3 n4 n5)))),(5,.v (ptr n1 0)),(11,.v (u64 (nz q n2 n3))),(12,.v (u64 x1.2.1))],[(0,some ⟨n1,true,0,(.lit [(vS ((uz q n2 n3 (x1.1+1)).1).wa ((uz q n2 n3 (x1.1+1)).1).wn ((uz q n2 n3 (x1.1+1)).1).wc),(int (uz q n2 n3 (x1.1+1)).2)])⟩),(1,(gsE u8C [u8 0] 1 (cpG q n2 n3))),(2,(gsE qBb [vS none 0 0] 1 (Grw.mk false n7 (x1.1+1) n8 (kz q x1 n2 n3 n4 n5)))),(3,some ⟨n4,true,0,.pile 10 (gU (yz q n2 n3) (ez q n2 n3) (qAy x1.2.2.1 x1.1 n4) (qAy x1.2.2.2.1 x1.1 n5) (x1.1+1))⟩)],4⟩:St)=⟨[(2,.v (u64 (rsV (qDG (cpG q n2 n3)) 0 18446744073709551615))),(3,.v (gsV (qAE (x1.1+1) (usV (yz q n2 n3) (ez q n2 n3) (qAy x1.2.2.1 x1.1 n4) (qAy x1.2.2.2.1 x1.1 n5)) n7 n8))),(5,.v (ptr n1 0)),(11,.v (u64 (nz q n2 n3))),(12,.v (u64 x1.2.1))],[(0,some ⟨n1,true,0,(.lit [(vS ((uz q n2 n3 (x1.1+1)).1).wa ((uz q n2 n3 (x1.1+1)).1).wn ((uz q n2 n3 (x1.1+1)).1).wc),(int (uz q n2 n3 (x1.1+1)).2)])⟩),(1,(gsE u8C [u8 0] 1 (cpG q n2 n3))),(2,(gsE qBb [vS none 0 0] 1 (qAE (x1.1+1) (usV (yz q n2 n3) (ez q n2 n3) (qAy x1.2.2.1 x1.1 n4) (qAy x1.2.2.2.1 x1.1 n5)) n7 n8))),(3,(plU (yz q n2 n3) (ez q n2 n3) (qAy x1.2.2.1 x1.1 n4) (qAy x1.2.2.2.1 x1.1 n5) (x1.1+1)))],4⟩ from by rw[qOQ (Q:=(yz q n2 n3)) (E:=(ez q n2 n3)) (c:=x1.2.2.1) (d:=x1.2.2.2.1) (k:=x1.1) (n1:=n4) (n2:=n5) (oT h2),(qF7 (Q:=(yz q n2 n3)) (E:=(ez q n2 n3)) (c:=x1.2.2.1) (d:=x1.2.2.2.1) (k:=x1.1) (n1:=n4) (n2:=n5) (A:=Grw.mk false n7 (x1.1+1) n8 (kz q x1 n2 n3 n4 n5)) rfl rfl rfl).1,(qF7 (Q:=(yz q n2 n3)) (E:=(ez q n2 n3)) (c:=x1.2.2.1) (d:=x1.2.2.2.1) (k:=x1.1) (n1:=n4) (n2:=n5) (A:=Grw.mk false n7 (x1.1+1) n8 (kz q x1 n2 n3 n4 n5)) rfl rfl rfl).2]) (aI (aI (aT (@qBv TP 30 30 (.tmp 12) (.const (.int .u64 1)) x1.2.1 1)) kV1) ((rnd (qHC q n1 n2 n3) (qMw q n1 n2 n3) (qFG q n1 n2 n3) x1 ((x1.1+1,(x1.2.1+1),(qAy x1.2.2.1 x1.1 n4),(qAy x1.2.2.2.1 x1.1 n5),n7,n8):Nat×UInt64×Nat×Nat×Nat×Nat) (show(qHC q n1 n2 n3) ((x1.1+1,(x1.2.1+1),(qAy x1.2.2.1 x1.1 n4),(qAy x1.2.2.2.1 x1.1 n5),n7,n8):Nat×UInt64×Nat×Nat×Nat×Nat)∧(qFG q n1 n2 n3) ((x1.1+1,(x1.2.1+1),(qAy x1.2.2.1 x1.1 n4),(qAy x1.2.2.2.1 x1.1 n5),n7,n8):Nat×UInt64×Nat×Nat×Nat×Nat)<(qFG q n1 n2 n3) x1 from(show((((x1.2.1+1):UInt64).toNat=(x1.1+1))∧((x1.1+1)≤10)∧((x1.1+1)≤(nz q n2 n3).toNat))∧(10-(x1.1+1))<(10-x1.1) from by have h1:=qGZ B0 h1;have h2:(nz q n2 n3).toNat≤10:=qKn _ _ 10;exact⟨⟨h1.1,by omega,by omega⟩,by omega⟩)))))))) (fun(h2:(qWK q n2 n3 x1.1)=false)=>have f5:=(oF h2);aI (show(⟨[(2,.v (u64 (rsV (qDG (cpG q n2 n3)) 0 18446744073709551615))),(3,.v (gsV (Grw.mk false n7 (x1.1+1) n8 (kz q x1 n2 n3 n4 n5)))),(5,.v (ptr n1 0)),(11,.v (u64 (nz q n2 n3))),(12,.v (u64 x1.2.1))],[(0,some ⟨n1,true,0,(.lit [(vS ((uz q n2 n3 (x1.1+1)).1).wa ((uz q n2 n3 (x1.1+1)).1).wn ((uz q n2 n3 (x1.1+1)).1).wc),(int (uz q n2 n3 (x1.1+1)).2)])⟩),(1,(gsE u8C [u8 0] 1 (cpG q n2 n3))),(2,(gsE qBb [vS none 0 0] 1 (Grw.mk false n7 (x1.1+1) n8 (kz q x1 n2 n3 n4 n5)))),(3,(plU (yz q n2 n3) (ez q n2 n3) x1.2.2.1 x1.2.2.2.1 x1.1)),(4,(rbK (uz q n2 n3 x1.1).1 (uz q n2 n3 x1.1).2 1000 n4 n5))],5⟩:St)=⟨[(2,.v (u64 (rsV (qDG (cpG q n2 n3)) 0 18446744073709551615))),(3,.v (gsV (Grw.mk false n7 (x1.1+1) n8 (kz q x1 n2 n3 n4 n5)))),(5,.v (ptr n1 0)),(11,.v (u64 (nz q n2 n3))),(12,.v (u64 x1.2.1))],[(0,some ⟨n1,true,0,(.lit [(vS ((uz q n2 n3 (x1.1+1)).1).wa ((uz q n2 n3 (x1.1+1)).1).wn ((uz q n2 n3 (x1.1+1)).1).wc),(int (uz q n2 n3 (x1.1+1)).2)])⟩),(1,(gsE u8C [u8 0] 1 (cpG q n2 n3))),(2,(gsE qBb [vS none 0 0] 1 (Grw.mk false n7 (x1.1+1) n8 (kz q x1 n2 n3 n4 n5)))),(3,(plU (yz q n2 n3) (ez q n2 n3) x1.2.2.1 x1.2.2.2.1 x1.1)),(4,none)],5⟩ from by(try unfold kz);(try unfold qAJ);unfold rz uz;rw[qSm (Q:=(yz q n2 n3)) (E:=(ez q n2 n3)) (k:=x1.1) (oF h2)]) (aI (show(⟨[(2,.v (u64 (rsV (qDG (cpG q n2 n3)) 0 18446744073709551615))),(3,.v (gsV (Grw.mk false n7 (x1.1+1) n8 (kz q x1 n2 n3 n4 n5)))),(5,.v (ptr n1 0)),(11,.v (u64 (nz q n2 n3))),(12,.v (u64 x1.2.1))],[(0,some ⟨n1,true,0,(.lit [(vS ((uz q n2 n3 (x1.1+1)).1).wa ((uz q n2 n3 (x1.1+1)).1).wn ((uz q n2 n3 (x1.1+1)).1).wc),(int (uz q n2 n3 (x1.1+1)).2)])⟩),(1,(gsE u8C [u8 0] 1 (cpG q n2 n3))),(2,(gsE qBb [vS none 0 0] 1 (Grw.mk false n7 (x1.1+1) n8 (kz q x1 n2 n3 n4 n5)))),(3,(plU (yz q n2 n3) (ez q n2 n3) x1.2.2.1 x1.2.2.2.1 x1.1))],4⟩:St)=⟨[(2,.v (u64 (rsV (qDG (cpG q n2 n3)) 0 18446744073709551615))),(3,.v (gsV (qAE (x1.1+1) (usV (yz q n2 n3) (ez q n2 n3) (qAy x1.2.2.1 x1.1 n4) (qAy x1.2.2.2.1 x1.1 n5)) n7 n8))),(5,.v (ptr n1 0)),(11,.v (u64 (nz q n2 n3))),(12,.v (u64 x1.2.1))],[(0,some ⟨n1,true,0,(.lit [(vS ((uz q n2 n3 (x1.1+1)).1).wa ((uz q n2 n3 (x1.1+1)).1).wn ((uz q n2 n3 (x1.1+1)).1).wc),(int (uz q n2 n3 (x1.1+1)).2)])⟩),(1,(gsE u8C [u8 0] 1 (cpG q n2 n3))),(2,(gsE qBb [vS none 0 0] 1 (qAE (x1.1+1) (usV (yz q n2 n3) (ez q n2 n3) (qAy x1.2.2.1 x1.1 n4) (qAy x1.2.2.2.1 x1.1 n5)) n7 n8))),(3,(plU (yz q n2 n3) (ez q n2 n3) (qAy x1.2.2.1 x1.1 n4) (qAy x1.2.2.2.1 x1.1 n5) (x1.1+1)))],4⟩ from by rw[qSl (Q:=(yz q n2 n3)) (E:=(ez q n2 n3)) (c:=x1.2.2.1) (d:=x1.2.2.2.1) (k:=x1.1) (n1:=n4) (n2:=n5) (oF h2),(qF7 (Q:=(yz q n2 n3)) (E:=(ez q n2 n3)) (c:=x1.2.2.1) (d:=x1.2.2.2.1) (k:=x1.1) (n1:=n4) (n2:=n5) (A:=Grw.mk false n7 (x1.1+1) n8 (kz q x1 n2 n3 n4 n5)) rfl rfl rfl).1,(qF7 (Q:=(yz q n2 n3)) (E:=(ez q n2 n3)) (c:=x1.2.2.1) (d:=x1.2.2.2.1) (k:=x1.1) (n1:=n4) (n2:=n5) (A:=Grw.mk false n7 (x1.1+1) n8 (kz q x1 n2 n3 n4 n5)) rfl rfl rfl).2]) (aI (aI (aT (@qBv TP 30 30 (.tmp 12) (.const (.int .u64 1)) x1.2.1 1)) kV1) ((rnd (qHC q n1 n2 n3) (qMw q n1 n2 n3) (qFG q n1 n2 n3) x1 ((x1.1+1,(x1.2.1+1),(qAy x1.2.2.1 x1.1 n4),(qAy x1.2.2.2.1 x1.1 n5),n7,n8):Nat×UInt64×Nat×Nat×Nat×Nat) (show(qHC q n1 n2 n3) ((x1.1+1,(x1.2.1+1),(qAy x1.2.2.1 x1.1 n4),(qAy x1.2.2.2.1 x1.1 n5),n7,n8):Nat×UInt64×Nat×Nat×Nat×Nat)∧(qFG q n1 n2 n3) ((x1.1+1,(x1.2.1+1),(qAy x1.2.2.1 x1.1 n4),(qAy x1.2.2.2.1 x1.1 n5),n7,n8):Nat×UInt64×Nat×Nat×Nat×Nat)<(qFG q n1 n2 n3) x1 from(show((((x1.2.1+1):UInt64).toNat=(x1.1+1))∧((x1.1+1)≤10)∧((x1.1+1)≤(nz q n2 n3).toNat))∧(10-(x1.1+1))<(10-x1.1) from by have h1:=qGZ B0 h1;have h2:(nz q n2 n3).toNat≤10:=qKn _ _ 10;exact⟨⟨h1.1,by omega,by omega⟩,by omega⟩))))))))) (fun(h1:(decide (x1.2.1<(nz q n2 n3)))=false)=>have f4:=(oF h1);aI (sk (aI (aT (qOi (F:=qA2 q) n1 (uz q n2 n3 x1.1).1 (uz q n2 n3 x1.1).2 0 (by have e:x1.1=uN (qDG (cpG q n2 n3)):=qJa B0 B2 h1;rw[e];exact(qFV hq n2 n3).uD.trans hd))) kV1)) (aI (sK3 (aI (aI (@rfl Bool true) t2) (aI (aI (@rfl Bool true) (aT (jCZ (F:=qA2 q) (Q:=(yz q n2 n3)) (E:=(ez q n2 n3)) (c:=x1.2.2.1) (d:=x1.2.2.2.1) (k:=x1.1) (nm:=x1.2.2.2.2.1) (r:=x1.2.2.2.2.2) B1 (fun i=>Nat.le_trans (qII (RdR.small (RdR.small (qAG hq hl n2 n3) 0 18446744073709551615) (qLp q n2 n3) 10) (ez q n2 n3) i) (by decide))))) (aI (aI (@rfl Bool true) t2) (aI (fun(hg:(sB (qLF q n2 n3 x1) false)=true)=>t2) (aI (fun(hg:(sB (qLF q n2 n3 x1) false)=true)=>have f5:(qLF q n2 n3 x1)=false:=(qBF hg);(aI (aI hg tV) (twU (F:=qA2 q) (Q:=(yz q n2 n3)) (E:=(ez q n2 n3)) (c:=x1.2.2.1) (d:=x1.2.2.2.1) (k:=x1.1) (nm:=x1.2.2.2.2.1) (r:=x1.2.2.2.2.2) B1 (fun i=>Nat.le_trans (qII (RdR.small (RdR.small (qAG hq hl n2 n3) 0 18446744073709551615) (qLp q n2 n3) 10) (ez q n2 n3) i) (by decide))))) (aI (aI (@rfl Bool true) (aT (aI (fun(_:(qLF q n2 n3 x1)=true)=>tV) (fun(hp:(qLF q n2 n3 x1)=false)=>(qBf hp))))) (aI (aT (aI (fun(_:true=true)=>tV) (fun(_:true=false)=>tV))) tV)))))))) ((fun(hp3:(qA1 true (qZE q n2 n3 x1) false)=true)=>have f5:(true)=true:=(qB9 hp3);have f6:((qLF q n2 n3 x1)=true)∨((twB (usB (yz q n2 n3) (ez q n2 n3)) x1.1)=true):=(Or.imp (fun h=>h) (fun h=>h) (qKV (qCg hp3)));aT (aI hp3 (aI kV1 (aI kV2 (aT (aI (@rfl Bool true) (aI kV4 (aT (eX (fun(ns:List Nat)=>ns.length=0∧((vT #[(u64 0),(vS none 0 0),(int 31)]):Value)=(fun _=>vT #[u64 0,vS none 0 0,int 31]) ns∧([]:List (Option Blk))=(fun _=>[]) ns) [] (aI (@rfl Nat 0) (aI (@rfl Value (vT #[u64 0,vS none 0 0,int 31])) (@rfl (List (Option Blk)) [])))))))))))) (show(qA1 true (qA1 (inB (usB (yz q n2 n3) (ez q n2 n3)) x1.1 (qAc none 0)) true (twB (usB (yz q n2 n3) (ez q n2 n3)) x1.1)) false)=true from by have e:x1.1=uN (qDG (cpG q n2 n3)):=qJa B0 B2 h1;rw[e];exact(qFV hq n2 n3).uB.trans hb)))))))))))))))
def qMo (q:BytL) (n1:Nat) (n2:Nat) (n3:Nat) (x1:Nat×UInt64×Nat×Nat×Nat×Nat):St:=⟨[(2,.v (u64 (qMY q n2 n3))),(3,.v (gsV (gz q x1 n2 n3))),(5,.v (ptr n1 0)),(11,.v (u64 (nz q n2 n3))),(12,.v (u64 x1.2.1))],[(0,some ⟨n1,true,0,(.lit [(qX1 q n2 n3 x1.1),(int ((uz q n2 n3 x1.1).2))])⟩),(1,(qOJ q n2 n3)),(2,(gsE qBb [vS none 0 0] 1 (gz q x1 n2 n3))),(3,(qWk q n2 n3 x1))],4⟩
def qHE (q:BytL) (n1:Nat) (n2:Nat) (n3:Nat) (x1:Nat×UInt64×Nat×Nat×Nat×Nat):Prop:=((x1.2.1:UInt64).toNat=x1.1)∧(x1.1≤10)∧(x1.1≤(nz q n2 n3).toNat)
def qF0 (q:BytL) (n1:Nat) (n2:Nat) (n3:Nat) (x1:Nat×UInt64×Nat×Nat×Nat×Nat):Nat:=10-x1.1
theorem jDN (q:BytL) (hq:OkB q) (hl:q.wn≤100000) (hd:uD q=0) (hb:uB q=false):qAb (qA2 q) TP 18 [(Value.slice q.wa q.wn q.wc)] [] 4 (fun(ns:List Nat)=>(Value.tuple #[(u64 (uH q)),(gsV (qAE (uN q) (usV (uQ q) (uE q) (ns.getD 0 0) (ns.getD 1 0)) (ns.getD 2 0) (ns.getD 3 0))),(int 0)])) (fun(ns:List Nat)=>[(gsE qBb [Value.slice none 0 0] 1 (qAE (uN q) (usV (uQ q) (uE q) (ns.getD 0 0) (ns.getD 1 0)) (ns.getD 2 0) (ns.getD 3 0))),(plU (uQ q) (uE q) (ns.getD 0 0) (ns.getD 1 0) (uN q))]):=
 qAn mix Tryd.func18 rfl rfl 400 (.reg (rg [.g,.g,.g]) (.regn (rg [.g,(.callO [] 3 2 (fun ns=>ptr (g0 ns) 0) (fun ns=>[some ⟨(g0 ns),true,0,.lit [gsV (cpG q (g1 ns) (g2 ns)),int 0]⟩,(gsE u8C [u8 0] 1 (cpG q (g1 ns) (g2 ns)))])),.g]) (more (fun n1=>more (fun n2=>more (fun n3=>fun _=>(.reg (rg [.g,(.callO [(0,false),(1,true)] 0 0 (fun _=>(u64 (qMY q n2 n3))) (fun _=>[some ⟨n1,true,0,.lit [qAJ (qRj q n2 n3),int (qLp q n2 n3)]⟩,none])),.g]) (.keep [0,2,3,4,6,7,5,8,9] [0,1] 4 (.reg (rg [.g,(.callO [(0,false),(1,true)] 0 0 (fun _=>(u64 (nz q n2 n3))) (fun _=>[some ⟨n1,true,0,.lit [qAJ (yz q n2 n3),int (ez q n2 n3)]⟩,none])),.g]) (.inv [2,3,5,11,12] [0,1,2,3] 4 (qHE q n1 n2 n3) (qMo q n1 n2 n3) (qF0 q n1 n2 n3) ((0,0,0,0,0,0):Nat×UInt64×Nat×Nat×Nat×Nat) (fun(x1:Nat×UInt64×Nat×Nat×Nat×Nat)=>(.reg (rg [(.as (vB (decide (x1.2.1<(nz q n2 n3)))))]) (.br (.regn (rg [.g,.g,(.callO [(0,false),(1,true)] 2 1 (fun ns=>qAJ (rbV (uz q n2 n3 x1.1).1 (uz q n2 n3 x1.1).2 1000 (g0 ns) (g1 ns))) (fun ns=>[some ⟨n1,true,0,.lit [qAJ (uz q n2 n3 (x1.1+1)).1,int (uz q n2 n3 (x1.1+1)).2]⟩,none,(rbK (uz q n2 n3 x1.1).1 (uz q n2 n3 x1.1).2 1000 (g0 ns) (g1 ns))])),.bsl,(.othOB [(2,false),(5,true)] 2 0 (fun ns=>gsV (Grw.mk false (g0 ns) (x1.1+1) (g1 ns) (qAs (gz q x1 n2 n3).f x1.1 (gz q x1 n2 n3).f))) (fun bs ns=>[(gsE qBb [vS none 0 0] 1 (Grw.mk false (g0 ns) (x1.1+1) (g1 ns) (qAs (gz q x1 n2 n3).f x1.1 (fun _=>qOf (qQ4 bs 1))))),none])),.g]) (more (fun n4=>more (fun n5=>more (fun n6=>more (fun n7=>more (fun n8=>fun _=>(.both (qWK q n2 n3 x1.1) (.keep [2,3,5,11,12] [0,1,2,3,4] 5 (.told ⟨[(2,.v (u64 (qMY q n2 n3))),(3,.v (gsV (Grw.mk false n7 (x1.1+1) n8 (kz q x1 n2 n3 n4 n5)))),(5,.v (ptr n1 0)),(11,.v (u64 (nz q n2 n3))),(12,.v (u64 x1.2.1))],[(0,some ⟨n1,true,0,(.lit [(qRS q n2 n3 x1.1),(int (uz q n2 n3 (x1.1+1)).2)])⟩),(1,(qOJ q n2 n3)),(2,(qRL n7 x1 n8 q n2 n3 n4 n5)),(3,(qWk q n2 n3 x1)),(4,some ⟨n4,true,0,(spr (usN (yz q n2 n3) (ez q n2 n3) x1.1+n5) (usN (yz q n2 n3) (ez q n2 n3) x1.1) (fun k=>u8 (usW (yz q n2 n3) (ez q n2 n3) x1.1 k)) (u8 0))⟩)],5⟩ (.pack 4 3 10 (gU (yz q n2 n3) (ez q n2 n3) (qAy x1.2.2.1 x1.1 n4) (qAy x1.2.2.2.1 x1.1 n5) (x1.1+1)) (.keep [2,3,5,11,12] [0,1,2,3] 4 (.told ⟨[(2,.v (u64 (qMY q n2 n3))),(3,.v (gsV (qRO x1 q n2 n3 n4 n5 n7 n8))),(5,.v (ptr n1 0)),(11,.v (u64 (nz q n2 n3))),(12,.v (u64 x1.2.1))],[(0,some ⟨n1,true,0,(.lit [(qRS q n2 n3 x1.1),(int (uz q n2 n3 (x1.1+1)).2)])⟩),(1,(qOJ q n2 n3)),(2,(gsE qBb [vS none 0 0] 1 (qRO x1 q n2 n3 n4 n5 n7 n8))),(3,(jAA q n2 n3 x1 n4 n5))],4⟩ (.reg (rg [(.as (u64 (x1.2.1+1))),.g]) .done)))))) (.keep [2,3,5,11,12] [0,1,2,3,4] 5 (.told ⟨[(2,.v (u64 (qMY q n2 n3))),(3,.v (gsV (Grw.mk false n7 (x1.1+1) n8 (kz q x1 n2 n3 n4 n5)))),(5,.v (ptr n1 0)),(11,.v (u64 (nz q n2 n3))),(12,.v (u64 x1.2.1))],[(0,some ⟨n1,true,0,(.lit [(qRS q n2 n3 x1.1),(int (uz q n2 n3 (x1.1+1)).2)])⟩),(1,(qOJ q n2 n3)),(2,(qRL n7 x1 n8 q n2 n3 n4 n5)),(3,(qWk q n2 n3 x1)),(4,none)],5⟩ (.keep [2,3,5,11,12] [0,1,2,3] 4 (.told ⟨[(2,.v (u64 (qMY q n2 n3))),(3,.v (gsV (qRO x1 q n2 n3 n4 n5 n7 n8))),(5,.v (ptr n1 0)),(11,.v (u64 (nz q n2 n3))),(12,.v (u64 x1.2.1))],[(0,some ⟨n1,true,0,(.lit [(qRS q n2 n3 x1.1),(int (uz q n2 n3 (x1.1+1)).2)])⟩),(1,(qOJ q n2 n3)),(2,(gsE qBb [vS none 0 0] 1 (qRO x1 q n2 n3 n4 n5 n7 n8))),(3,(jAA q n2 n3 x1 n4 n5))],4⟩ (.reg (rg [(.as (u64 (x1.2.1+1))),.g]) .done))))))))))))) (.reg (rg [.g,(.callO [(0,true)] 0 0 (fun _=>(int 0)) (fun _=>[none])),.g]) (.reg (rg [.g,.g,.g,(.run .g),(.run (.callO [(2,true),(3,true)] 0 0 (fun _=>(vB (qLF q n2 n3 x1))) (fun _=>[none,none]))),(.run .g),(.opt .g),(.opt (.callO [(2,true),(3,true)] 0 0 (fun _=>(vB (twB (usB (yz q n2 n3) (ez q n2 n3)) x1.1))) (fun _=>[none,none]))),(.run .pk),.pk]) (.no (.reg (rg [.g,.g]) (.no (.keep [2,3] [2,3] 4 (.told ⟨[(2,.v (u64 (uH q))),(3,.v (gsV (jAG q x1)))],[(2,(gsE qBb [vS none 0 0] 1 (jAG q x1))),(3,(plU (uQ q) (uE q) x1.2.2.1 x1.2.2.2.1 (uN q)))],4⟩ (.reg (rg [.g,.g,.g,.g,.g]) .done))))))))))))))))))))) [] [2,3] rfl
  (Eq.mp (by kernel_rfl) (aI kV3 (fun(n1 n2 n3:Nat)=>aI (sk (aI (aT (qZa q hq (Nat.le_trans hl (by decide)))) kV1)) (aI (sk (aI (aT (RdR.lend (F:=qA2 q) (qAG hq hl n2 n3) (qCF n1 (qDG (cpG q n2 n3)) 0 18446744073709551615 (qAG hq hl n2 n3).ok (qAG hq hl n2 n3).le) (fun _=>⟨rfl,tV⟩))) kV1)) ((aI (sk (aI (aT (RdR.lend (F:=qA2 q) (RdR.small (qAG hq hl n2 n3) 0 18446744073709551615) (qCF n1 (qRj q n2 n3) (qLp q n2 n3) 10 (RdR.small (qAG hq hl n2 n3) 0 18446744073709551615).ok (RdR.small (qAG hq hl n2 n3) 0 18446744073709551615).le) (fun _=>⟨rfl,tV⟩))) kV1)) (aI (show(qHE q n1 n2 n3) ((0,0,0,0,0,0):Nat×UInt64×Nat×Nat×Nat×Nat) from(show((0:UInt64).toNat=0)∧(0≤10)∧(0≤(nz q n2 n3).toNat) from by exact⟨rfl,by decide,Nat.zero_le _⟩)) (aI (@rfl St ((qMo q n1 n2 n3) ((0,0,0,0,0,0):Nat×UInt64×Nat×Nat×Nat×Nat))) (fun(x1:Nat×UInt64×Nat×Nat×Nat×Nat) (hx1:(qHE q n1 n2 n3) x1)=>have B0:(x1.2.1:UInt64).toNat=x1.1:=hx1.1;have B1:x1.1≤10:=hx1.2.1;have B2:x1.1≤(nz q n2 n3).toNat:=hx1.2.2;aI (aI (aT (@qF3 TP 30 30 (.tmp 12) (.tmp 11) x1.2.1 (nz q n2 n3))) tV) (aT (aI (fun(h1:(decide (x1.2.1<(nz q n2 n3)))=true)=>have f4:=(oT h1);fun(n4 n5 n6 n7 n8:Nat)=>aI (sK2 (aI (aT (RdR.lend (F:=qA2 q) (RdR.us (RdR.small (RdR.small (qAG hq hl n2 n3) 0 18446744073709551615) (qLp q n2 n3) 10) (ez q n2 n3) x1.1) (qMg n1 (uz q n2 n3 x1.1).1 (uz q n2 n3 x1.1).2 1000 (RdR.us (RdR.small (RdR.small (qAG hq hl n2 n3) 0 18446744073709551615) (qLp q n2 n3) 10) (ez q n2 n3) x1.1).ok (RdR.us (RdR.small (RdR.small (qAG hq hl n2 n3) 0 18446744073709551615) (qLp q n2 n3) 10) (ez q n2 n3) x1.1).le (by decide)) (fun _=>⟨rfl,qPs⟩))) (aI (aT (qA6 (P:=TP) (t:=35) (e:=23) qK1 1 #[(0,(qAJ (rz q n2 n3 x1.1 n4 n5)))] #[(qAJ (rz q n2 n3 x1.1 n4 n5))] (by kernel_rfl) (by decide) (by kernel_rfl))) (aI (aT (qEO (P:=TP) (t:=35) (ty:=35) (e:=23) (by kernel_rfl) qRl (gz q x1 n2 n3) (qBt _ _ _ _) qI7 (fun _=>(qOf (qAJ (rz q n2 n3 x1.1 n4 n5)))) 1 (some ⟨n6,0,none⟩) 1 (some ⟨n6,false,0,(.lit [(qAJ (rz q n2 n3 x1.1 n4 n5))])⟩) (fun _=>⟨_,_,_,_,rfl,rfl,(qHH (sz:=1) (l:=qBb (qOf (qAJ (rz q n2 n3 x1.1 n4 n5)))) rfl)⟩) (show(x1.1+1)*24≤140737488355328∧x1.1+1≤9223372036854775807 from by omega))) kV1)))) (aI (fun(h2:(qWK q n2 n3 x1.1)=true)=>have f5:=(oT h2);aI (show(⟨[(2,.v (u64 (rsV (qDG (cpG q n2 n3)) 0 18446744073709551615))),(3,.v (gsV (Grw.mk false n7 (x1.1+1) n8 (kz q x1 n2 n3 n4 n5)))),(5,.v (ptr n1 0)),(11,.v (u64 (nz q n2 n3))),(12,.v (u64 x1.2.1))],[(0,some ⟨n1,true,0,(.lit [(vS ((uz q n2 n3 (x1.1+1)).1).wa ((uz q n2 n3 (x1.1+1)).1).wn ((uz q n2 n3 (x1.1+1)).1).wc),(int (uz q n2 n3 (x1.1+1)).2)])⟩),(1,(gsE u8C [u8 0] 1 (cpG q n2 n3))),(2,(gsE qBb [vS none 0 0] 1 (Grw.mk false n7 (x1.1+1) n8 (kz q x1 n2 n3 n4 n5)))),(3,(plU (yz q n2 n3) (ez q n2 n3) x1.2.2.1 x1.2.2.2.1 x1.1)),(4,(rbK (uz q n2 n3 x1.1).1 (uz q n2 n3 x1.1).2 1000 n4 n5))],5⟩:St)=⟨[(2,.v (u64 (rsV (qDG (cpG q n2 n3)) 0 18446744073709551615))),(3,.v (gsV (Grw.mk false n7 (x1.1+1) n8 (kz q x1 n2 n3 n4 n5)))),(5,.v (ptr n1 0)),(11,.v (u64 (nz q n2 n3))),(12,.v (u64 x1.2.1))],[(0,some ⟨n1,true,0,(.lit [(vS ((uz q n2 n3 (x1.1+1)).1).wa ((uz q n2 n3 (x1.1+1)).1).wn ((uz q n2 n3 (x1.1+1)).1).wc),(int (uz q n2 n3 (x1.1+1)).2)])⟩),(1,(gsE u8C [u8 0] 1 (cpG q n2 n3))),(2,(gsE qBb [vS none 0 0] 1 (Grw.mk false n7 (x1.1+1) n8 (kz q x1 n2 n3 n4 n5)))),(3,(plU (yz q n2 n3) (ez q n2 n3) x1.2.2.1 x1.2.2.2.1 x1.1)),(4,some ⟨n4,true,0,(spr (usN (yz q n2 n3) (ez q n2 n3) x1.1+n5) (usN (yz q n2 n3) (ez q n2 n3) x1.1) (fun k=>u8 (usW (yz q n2 n3) (ez q n2 n3) x1.1 k)) (u8 0))⟩)],5⟩ from by(try unfold kz);(try unfold qAJ);unfold rz uz;rw[qOh (Q:=(yz q n2 n3)) (E:=(ez q n2 n3)) (k:=x1.1) (oT h2)]) (aI (qSh (Q:=(yz q n2 n3)) (E:=(ez q n2 n3)) (c:=x1.2.2.1) (d:=x1.2.2.2.1) (k:=x1.1) (n1:=n4) (n2:=n5) (oT h2)) (aI (show(⟨[(2,.v (u64 (rsV (qDG (cpG q n2 n3)) 0 18446744073709551615))),(3,.v (gsV (Grw.mk false n7 (x1.1+1) n8 (kz q x1 n2 n3 n4 n5)))),(5,.v (ptr n1 0)),(11,.v (u64 (nz q n2 n3))),(12,.v (u64 x1.2.1))],[(0,some ⟨n1,true,0,(.lit [(vS ((uz q n2 n3 (x1.1+1)).1).wa ((uz q n2 n3 (x1.1+1)).1).wn ((uz q n2 n3 (x1.1+1)).1).wc),(int (uz q n2 n3 (x1.1+1)).2)])⟩),(1,(gsE u8C [u8 0] 1 (cpG q n2 n3))),(2,(gsE qBb [vS none 0 0] 1 (Grw.mk false n7 (x1.1+1) n8 (kz q x1 n2 n3 n4 n5)))),(3,some ⟨n4,true,0,.pile 10 (gU (yz q n2 n3) (ez q n2 n3) (qAy x1.2.2.1 x1.1 n4) (qAy x1.2.2.2.1 x1.1 n5) (x1.1+1))⟩)],4⟩:St)=⟨[(2,.v (u64 (rsV (qDG (cpG q n2 n3)) 0 18446744073709551615))),(3,.v (gsV (qAE (x1.1+1) (usV (yz q n2 n3) (ez q n2 n3) (qAy x1.2.2.1 x1.1 n4) (qAy x1.2.2.2.1 x1.1 n5)) n7 n8))),(5,.v (ptr n1 0)),(11,.v (u64 (nz q n2 n3))),(12,.v (u64 x1.2.1))],[(0,some ⟨n1,true,0,(.lit [(vS ((uz q n2 n3 (x1.1+1)).1).wa ((uz q n2 n3 (x1.1+1)).1).wn ((uz q n2 n3 (x1.1+1)).1).wc),(int (uz q n2 n3 (x1.1+1)).2)])⟩),(1,(gsE u8C [u8 0] 1 (cpG q n2 n3))),(2,(gsE qBb [vS none 0 0] 1 (qAE (x1.1+1) (usV (yz q n2 n3) (ez q n2 n3) (qAy x1.2.2.1 x1.1 n4) (qAy x1.2.2.2.1 x1.1 n5)) n7 n8))),(3,(plU (yz q n2 n3) (ez q n2 n3) (qAy x1.2.2.1 x1.1 n4) (qAy x1.2.2.2.1 x1.1 n5) (x1.1+1)))],4⟩ from by rw[qOQ (Q:=(yz q n2 n3)) (E:=(ez q n2 n3)) (c:=x1.2.2.1) (d:=x1.2.2.2.1) (k:=x1.1) (n1:=n4) (n2:=n5) (oT h2),(qF7 (Q:=(yz q n2 n3)) (E:=(ez q n2 n3)) (c:=x1.2.2.1) (d:=x1.2.2.2.1) (k:=x1.1) (n1:=n4) (n2:=n5) (A:=Grw.mk false n7 (x1.1+1) n8 (kz q x1 n2 n3 n4 n5)) rfl rfl rfl).1,(qF7 (Q:=(yz q n2 n3)) (E:=(ez q n2 n3)) (c:=x1.2.2.1) (d:=x1.2.2.2.1) (k:=x1.1) (n1:=n4) (n2:=n5) (A:=Grw.mk false n7 (x1.1+1) n8 (kz q x1 n2 n3 n4 n5)) rfl rfl rfl).2]) (aI (aI (aT (@qBv TP 30 30 (.tmp 12) (.const (.int .u64 1)) x1.2.1 1)) kV1) ((rnd (qHE q n1 n2 n3) (qMo q n1 n2 n3) (qF0 q n1 n2 n3) x1 ((x1.1+1,(x1.2.1+1),(qAy x1.2.2.1 x1.1 n4),(qAy x1.2.2.2.1 x1.1 n5),n7,n8):Nat×UInt64×Nat×Nat×Nat×Nat) (show(qHE q n1 n2 n3) ((x1.1+1,(x1.2.1+1),(qAy x1.2.2.1 x1.1 n4),(qAy x1.2.2.2.1 x1.1 n5),n7,n8):Nat×UInt64×Nat×Nat×Nat×Nat)∧(qF0 q n1 n2 n3) ((x1.1+1,(x1.2.1+1),(qAy x1.2.2.1 x1.1 n4),(qAy x1.2.2.2.1 x1.1 n5),n7,n8):Nat×UInt64×Nat×Nat×Nat×Nat)<(qF0 q n1 n2 n3) x1 from(show((((x1.2.1+1):UInt64).toNat=(x1.1+1))∧((x1.1+1)≤10)∧((x1.1+1)≤(nz q n2 n3).toNat))∧(10-(x1.1+1))<(10-x1.1) from by have h1:=qGZ B0 h1;have h2:(nz q n2 n3).toNat≤10:=qKn _ _ 10;exact⟨⟨h1.1,by omega,by omega⟩,by omega⟩)))))))) (fun(h2:(qWK q n2 n3 x1.1)=false)=>have f5:=(oF h2);aI (show(⟨[(2,.v (u64 (rsV (qDG (cpG q n2 n3)) 0 18446744073709551615))),(3,.v (gsV (Grw.mk false n7 (x1.1+1) n8 (kz q x1 n2 n3 n4 n5)))),(5,.v (ptr n1 0)),(11,.v (u64 (nz q n2 n3))),(12,.v (u64 x1.2.1))],[(0,some ⟨n1,true,0,(.lit [(vS ((uz q n2 n3 (x1.1+1)).1).wa ((uz q n2 n3 (x1.1+1)).1).wn ((uz q n2 n3 (x1.1+1)).1).wc),(int (uz q n2 n3 (x1.1+1)).2)])⟩),(1,(gsE u8C [u8 0] 1 (cpG q n2 n3))),(2,(gsE qBb [vS none 0 0] 1 (Grw.mk false n7 (x1.1+1) n8 (kz q x1 n2 n3 n4 n5)))),(3,(plU (yz q n2 n3) (ez q n2 n3) x1.2.2.1 x1.2.2.2.1 x1.1)),(4,(rbK (uz q n2 n3 x1.1).1 (uz q n2 n3 x1.1).2 1000 n4 n5))],5⟩:St)=⟨[(2,.v (u64 (rsV (qDG (cpG q n2 n3)) 0 18446744073709551615))),(3,.v (gsV (Grw.mk false n7 (x1.1+1) n8 (kz q x1 n2 n3 n4 n5)))),(5,.v (ptr n1 0)),(11,.v (u64 (nz q n2 n3))),(12,.v (u64 x1.2.1))],[(0,some ⟨n1,true,0,(.lit [(vS ((uz q n2 n3 (x1.1+1)).1).wa ((uz q n2 n3 (x1.1+1)).1).wn ((uz q n2 n3 (x1.1+1)).1).wc),(int (uz q n2 n3 (x1.1+1)).2)])⟩),(1,(gsE u8C [u8 0] 1 (cpG q n2 n3))),(2,(gsE qBb [vS none 0 0] 1 (Grw.mk false n7 (x1.1+1) n8 (kz q x1 n2 n3 n4 n5)))),(3,(plU (yz q n2 n3) (ez q n2 n3) x1.2.2.1 x1.2.2.2.1 x1.1)),(4,none)],5⟩ from by(try unfold kz);(try unfold qAJ);unfold rz uz;rw[qSm (Q:=(yz q n2 n3)) (E:=(ez q n2 n3)) (k:=x1.1) (oF h2)]) (aI (show(⟨[(2,.v (u64 (rsV (qDG (cpG q n2 n3)) 0 18446744073709551615))),(3,.v (gsV (Grw.mk false n7 (x1.1+1) n8 (kz q x1 n2 n3 n4 n5)))),(5,.v (ptr n1 0)),(11,.v (u64 (nz q n2 n3))),(12,.v (u64 x1.2.1))],[(0,some ⟨n1,true,0,(.lit [(vS ((uz q n2 n3 (x1.1+1)).1).wa ((uz q n2 n3 (x1.1+1)).1).wn ((uz q n2 n3 (x1.1+1)).1).wc),(int (uz q n2 n3 (x1.1+1)).2)])⟩),(1,(gsE u8C [u8 0] 1 (cpG q n2 n3))),(2,(gsE qBb [vS none 0 0] 1 (Grw.mk false n7 (x1.1+1) n8 (kz q x1 n2 n3 n4 n5)))),(3,(plU (yz q n2 n3) (ez q n2 n3) x1.2.2.1 x1.2.2.2.1 x1.1))],4⟩:St)=⟨[(2,.v (u64 (rsV (qDG (cpG q n2 n3)) 0 18446744073709551615))),(3,.v (gsV (qAE (x1.1+1) (usV (yz q n2 n3) (ez q n2 n3) (qAy x1.2.2.1 x1.1 n4) (qAy x1.2.2.2.1 x1.1 n5)) n7 n8))),(5,.v (ptr n1 0)),(11,.v (u64 (nz q n2 n3))),(12,.v (u64 x1.2.1))],[(0,some ⟨n1,true,0,(.lit [(vS ((uz q n2 n3 (x1.1+1)).1).wa ((uz q n2 n3 (x1.1+1)).1).wn ((uz q n2 n3 (x1.1+1)).1).wc),(int (uz q n2 n3 (x1.1+1)).2)])⟩),(1,(gsE u8C [u8 0] 1 (cpG q n2 n3))),(2,(gsE qBb [vS none 0 0] 1 (qAE (x1.1+1) (usV (yz q n2 n3) (ez q n2 n3) (qAy x1.2.2.1 x1.1 n4) (qAy x1.2.2.2.1 x1.1 n5)) n7 n8))),(3,(plU (yz q n2 n3) (ez q n2 n3) (qAy x1.2.2.1 x1.1 n4) (qAy x1.2.2.2.1 x1.1 n5) (x1.1+1)))],4⟩ from by rw[qSl (Q:=(yz q n2 n3)) (E:=(ez q n2 n3)) (c:=x1.2.2.1) (d:=x1.2.2.2.1) (k:=x1.1) (n1:=n4) (n2:=n5) (oF h2),(qF7 (Q:=(yz q n2 n3)) (E:=(ez q n2 n3)) (c:=x1.2.2.1) (d:=x1.2.2.2.1) (k:=x1.1) (n1:=n4) (n2:=n5) (A:=Grw.mk false n7 (x1.1+1) n8 (kz q x1 n2 n3 n4 n5)) rfl rfl rfl).1,(qF7 (Q:=(yz q n2 n3)) (E:=(ez q n2 n3)) (c:=x1.2.2.1) (d:=x1.2.2.2.1) (k:=x1.1) (n1:=n4) (n2:=n5) (A:=Grw.mk false n7 (x1.1+1) n8 (kz q x1 n2 n3 n4 n5)) rfl rfl rfl).2]) (aI (aI (aT (@qBv TP 30 30 (.tmp 12) (.const (.int .u64 1)) x1.2.1 1)) kV1) ((rnd (qHE q n1 n2 n3) (qMo q n1 n2 n3) (qF0 q n1 n2 n3) x1 ((x1.1+1,(x1.2.1+1),(qAy x1.2.2.1 x1.1 n4),(qAy x1.2.2.2.1 x1.1 n5),n7,n8):Nat×UInt64×Nat×Nat×Nat×Nat) (show(qHE q n1 n2 n3) ((x1.1+1,(x1.2.1+1),(qAy x1.2.2.1 x1.1 n4),(qAy x1.2.2.2.1 x1.1 n5),n7,n8):Nat×UInt64×Nat×Nat×Nat×Nat)∧(qF0 q n1 n2 n3) ((x1.1+1,(x1.2.1+1),(qAy x1.2.2.1 x1.1 n4),(qAy x1.2.2.2.1 x1.1 n5),n7,n8):Nat×UInt64×Nat×Nat×Nat×Nat)<(qF0 q n1 n2 n3) x1 from(show((((x1.2.1+1):UInt64).toNat=(x1.1+1))∧((x1.1+1)≤10)∧((x1.1+1)≤(nz q n2 n3).toNat))∧(10-(x1.1+1))<(10-x1.1) from by have h1:=qGZ B0 h1;have h2:(nz q n2 n3).toNat≤10:=qKn _ _ 10;exact⟨⟨h1.1,by omega,by omega⟩,by omega⟩))))))))) (fun(h1:(decide (x1.2.1<(nz q n2 n3)))=false)=>have f4:=(oF h1);aI (sk (aI (aT (qOi (F:=qA2 q) n1 (uz q n2 n3 x1.1).1 (uz q n2 n3 x1.1).2 0 (by have e:x1.1=uN (qDG (cpG q n2 n3)):=qJa B0 B2 h1;rw[e];exact(qFV hq n2 n3).uD.trans hd))) kV1)) (aI (sK3 (aI (aI (@rfl Bool true) t2) (aI (aI (@rfl Bool true) (aT (jCZ (F:=qA2 q) (Q:=(yz q n2 n3)) (E:=(ez q n2 n3)) (c:=x1.2.2.1) (d:=x1.2.2.2.1) (k:=x1.1) (nm:=x1.2.2.2.2.1) (r:=x1.2.2.2.2.2) B1 (fun i=>Nat.le_trans (qII (RdR.small (RdR.small (qAG hq hl n2 n3) 0 18446744073709551615) (qLp q n2 n3) 10) (ez q n2 n3) i) (by decide))))) (aI (aI (@rfl Bool true) t2) (aI (fun(hg:(sB (qLF q n2 n3 x1) false)=true)=>t2) (aI (fun(hg:(sB (qLF q n2 n3 x1) false)=true)=>have f5:(qLF q n2 n3 x1)=false:=(qBF hg);(aI (aI hg tV) (twU (F:=qA2 q) (Q:=(yz q n2 n3)) (E:=(ez q n2 n3)) (c:=x1.2.2.1) (d:=x1.2.2.2.1) (k:=x1.1) (nm:=x1.2.2.2.2.1) (r:=x1.2.2.2.2.2) B1 (fun i=>Nat.le_trans (qII (RdR.small (RdR.small (qAG hq hl n2 n3) 0 18446744073709551615) (qLp q n2 n3) 10) (ez q n2 n3) i) (by decide))))) (aI (aI (@rfl Bool true) (aT (aI (fun(_:(qLF q n2 n3 x1)=true)=>tV) (fun(hp:(qLF q n2 n3 x1)=false)=>(qBf hp))))) (aI (aT (aI (fun(_:true=true)=>tV) (fun(_:true=false)=>tV))) tV)))))))) ((fun(hp3:(qA1 true (qZE q n2 n3 x1) false)=false)=>aT (aI hp3 (aI kV2 (aT (aI (@rfl Bool false) (aI (show(⟨[(2,.v (u64 (rsV (qDG (cpG q n2 n3)) 0 18446744073709551615))),(3,.v (gsV (gz q x1 n2 n3)))],[(2,(gsE qBb [vS none 0 0] 1 (gz q x1 n2 n3))),(3,(plU (yz q n2 n3) (ez q n2 n3) x1.2.2.1 x1.2.2.2.1 x1.1))],4⟩:St)=⟨[(2,.v (u64 (uH q))),(3,.v (gsV (qAE (uN q) (usV (uQ q) (uE q) x1.2.2.1 x1.2.2.2.1) x1.2.2.2.2.1 x1.2.2.2.2.2)))],[(2,(gsE qBb [vS none 0 0] 1 (qAE (uN q) (usV (uQ q) (uE q) x1.2.2.1 x1.2.2.2.1) x1.2.2.2.2.1 x1.2.2.2.2.2))),(3,(plU (uQ q) (uE q) x1.2.2.1 x1.2.2.2.1 (uN q)))],4⟩ from by have e:x1.1=uN (qDG (cpG q n2 n3)):=qJa B0 B2 h1;have a0:=(qFV hq n2 n3).uN;have a1:rsV (qDG (cpG q n2 n3)) 0 18446744073709551615=uH q:=(qFV hq n2 n3).uH;have a2:usV (yz q n2 n3) (ez q n2 n3) x1.2.2.1 x1.2.2.2.1=usV (uQ q) (uE q) x1.2.2.1 x1.2.2.2.1:=qYq hq n2 n3 x1.2.2.1 x1.2.2.2.1;have a3:plU (yz q n2 n3) (ez q n2 n3) x1.2.2.1 x1.2.2.2.1 (uN q)=plU (uQ q) (uE q) x1.2.2.1 x1.2.2.2.1 (uN q):=qZN hq n2 n3 x1.2.2.1 x1.2.2.2.1 _;unfold gz;rw[e,a0,a1,a2,a3]) (aI (sk kV4) (aT (eX (fun(ns:List Nat)=>ns.length=4∧((vT #[(u64 (uH q)),(gsV (jAG q x1)),(int 0)]):Value)=(fun(ns:List Nat)=>(vT #[(u64 (uH q)),(gsV (qAE (uN q) (usV (uQ q) (uE q) (g0 ns) (g1 ns)) (g2 ns) (g3 ns))),(int 0)])) ns∧([(gsE qBb [vS none 0 0] 1 (jAG q x1)),(plU (uQ q) (uE q) x1.2.2.1 x1.2.2.2.1 (uN q))]:List (Option Blk))=(fun(ns:List Nat)=>[(gsE qBb [vS none 0 0] 1 (qAE (uN q) (usV (uQ q) (uE q) (g0 ns) (g1 ns)) (g2 ns) (g3 ns))),(plU (uQ q) (uE q) (g0 ns) (g1 ns) (uN q))]) ns) [x1.2.2.1,x1.2.2.2.1,x1.2.2.2.2.1,x1.2.2.2.2.2] (aI (@rfl Nat 4) (aI (@rfl Value (vT #[(u64 (uH q)),(gsV (jAG q x1)),(int 0)])) (@rfl (List (Option Blk)) [(gsE qBb [vS none 0 0] 1 (jAG q x1)),(plU (uQ q) (uE q) x1.2.2.1 x1.2.2.2.1 (uN q))])))))))))))) (show(qA1 true (qA1 (inB (usB (yz q n2 n3) (ez q n2 n3)) x1.1 (qAc none 0)) true (twB (usB (yz q n2 n3) (ez q n2 n3)) x1.1)) false)=false from by have e:x1.1=uN (qDG (cpG q n2 n3)):=qJa B0 B2 h1;rw[e];exact(qFV hq n2 n3).uB.trans hb)))))))))))))))
theorem qDY (q:BytL) (hq:OkB q) (hl:q.wn≤100000):qAb (qA2 q) TP 18 [qAJ q] [] 4 (fun ns=>.tuple #[u64 (unH q),gsV (unL q (ns.getD 0 0) (ns.getD 1 0) (ns.getD 2 0) (ns.getD 3 0)),int (unX q)]) (fun ns=>[gsE qBb [Value.slice none 0 0] 1 (unL q (ns.getD 0 0) (ns.getD 1 0) (ns.getD 2 0) (ns.getD 3 0)),unP q (ns.getD 0 0) (ns.getD 1 0)]):=by
 by_cases hd:uD q=0
 ·cases hb:uB q with
  |true=>
   have e:=jC5 hd hb
   simp only[e,jB1 (show unX q≠0 by rw[e];decide)]
   exact(jEj q hq hl hd hb).as (.refl _) (fun _=>[0,0,0,0]) fun ns _=>⟨rfl,rfl,.dn (.dn (.zz _)),tV⟩
  |false=>
   have e:=jBn hd hb
   simp only[e,qXC e]
   exact jDN q hq hl hd hb
 ·have e:=jDc hd
  simp only[e,jB1 (show unX q≠0 by rw[e];exact hd)]
  exact(jEl q hq hl hd).as (.refl _) (fun _=>[0,0,0,0]) fun ns _=>⟨rfl,rfl,.dn (.dn (.zz _)),tV⟩
end Go.Proofs.YtmdpendnbkajdaaDoor
end
section
namespace Go.Eng
structure RlR (Q:BytL) (B:BytL) (a:Nat) (E:Int):Prop where
 le:a≤B.wn
 n:E=0→Q.wn=B.wn-a
 f:E=0→∀k,Q.wf k=B.wf (k+a)
section
variable {B Q:BytL} {E:Int} {a:Nat} {l:UInt64}
end
attribute [local irreducible] smN smB byN byB rsQ rsE rsV rbQ rbE rbN ctQ
section
variable {h:UInt64} {n:Nat} {e:Nat→BytL}
theorem qGT {i:Nat}:∀j,i≤j→pkL h n e i≤pkL h n e j
 |0,hj=>by rw[show i=0 by omega];exact Nat.le_refl _
 |j+1,hj=>by
  by_cases h1:i=j+1
  ·rw[h1];exact Nat.le_refl _
  ·have:=qGT (i:=i) j (by omega)
   show _≤pkL h n e j+byN (e j).wn
   omega
theorem qJ4 {i:Nat}:∀j,i≤j→∀k,k<pkL h n e i→pkF h n e j k=pkF h n e i k
 |0,hj,k,hk=>by rw[show i=0 by omega]
 |j+1,hj,k,hk=>by
  by_cases h1:i=j+1
  ·rw[h1]
  ·have h2:=qJ4 (i:=i) j (by omega) k hk
   have h3:=qGT (h:=h) (n:=n) (e:=e) (i:=i) j (by omega)
   show qAs (pkF h n e j) (pkL h n e j) (byB (e j).wf (e j).wn) k=_
   unfold qAs;rw[if_pos (by omega)];exact h2
theorem jBj {i M:Nat} (hi:i<M) {k:Nat} (hk:k<byN (e i).wn):pkF h n e M (pkL h n e i+k)=byB (e i).wf (e i).wn k:=by
 rw[qJ4 (i:=i+1) M hi _ (by show _ <pkL h n e i+byN (e i).wn;omega)]
 show qAs (pkF h n e i) (pkL h n e i) (byB (e i).wf (e i).wn) _=_
 unfold qAs
 rw[if_neg (by omega),show pkL h n e i+k-pkL h n e i=k by omega]
theorem qYD {M k:Nat} (hk:k<smN h):pkF h n e M k=smB h k:=by
 rw[qJ4 (i:=0) M (Nat.zero_le _) _ (by show k<smN h+smN (UInt64.ofNat n);omega)]
 show qAs (smB h) (smN h) _ k=_
 unfold qAs;rw[if_pos hk]
theorem qZI {M k:Nat} (hk:k<smN (UInt64.ofNat n)):pkF h n e M (smN h+k)=smB (UInt64.ofNat n) k:=by
 rw[qJ4 (i:=0) M (Nat.zero_le _) _ (by show _ <smN h+smN (UInt64.ofNat n);omega)]
 show qAs (smB h) (smN h) (smB (UInt64.ofNat n)) _=_
 unfold qAs;rw[if_neg (by omega),show smN h+k-smN h=k by omega]
end
def FwU (g:Nat→UInt8) (T L:Nat) (Q:BytL) (E:Int) (p:Nat):Prop:=(E=0∧Q.wn+p=L∧∀k,k<Q.wn→p+k<T→Q.wf k=g (p+k))∨(E=3∧L<p)
theorem FwU.next {g:Nat→UInt8} {T L p m:Nat} {Q Q':BytL} {E E':Int} {V:Prop} {b:Nat→UInt8} (h:FwU g T L Q E p) (hp:p+m≤T) (hb:∀k,k<m→g (p+k)=b k)
  (h0:E=0→At Q m b→FwS Q Q' E' m V) (h3:E≠0→E'=E):FwU g T L Q' E' (p+m)∧(p+m≤L→V):=by
 rcases h with⟨e0,e1,e2⟩|⟨e3,e4⟩
 ·have hat:At Q m b:=fun k hk hq=>by rw[e2 k hq (by omega)];exact hb k hk
  rcases h0 e0 hat with⟨a1,a2,a3,a4,a5⟩|⟨a1,a2⟩
  ·exact⟨.inl ⟨a2,by omega,fun k hk hT=>by rw[a4,e2 _ (by omega) (by omega),Nat.add_assoc]⟩,fun _=>a5⟩
  ·exact⟨.inr ⟨a2,by omega⟩,fun hL=>by omega⟩
 ·have:=h3 (by rw[e3];decide)
  exact⟨.inr ⟨by rw[this,e3],by omega⟩,fun hL=>by omega⟩
section
variable {h:UInt64} {n L:Nat} {e:Nat→BytL} {q:BytL}
theorem qQX (x:UInt64):¬(18446744073709551615:UInt64)<x:=fun hlt=>by
 rw[UInt64.lt_iff_toNat_lt] at hlt
 have h1:=x.toNat_lt
 have h2:(18446744073709551615:UInt64).toNat=18446744073709551615:=rfl
 omega
theorem qQS {n:Nat} (hn:n≤10):¬(10:UInt64)<UInt64.ofNat n:=fun hlt=>by
 rw[UInt64.lt_iff_toNat_lt,UInt64.toNat_ofNat'] at hlt
 have h2:(10:UInt64).toNat=10:=rfl
 omega
theorem qY1 (hn:n≤10) (hL:q.wn=L) (hq:∀k,k<q.wn→k<pkL h n e n→q.wf k=pkF h n e n k):
  FwU (pkF h n e n) (pkL h n e n) L (uQ q) (uE q) (pkL h n e 0)∧(pkL h n e 0≤L→uH q=h∧uNn q=UInt64.ofNat n)∧(uE q≠0→uNn q=0):=by
 have hT:pkL h n e 0≤pkL h n e n:=qGT n (Nat.zero_le _)
 have e0:pkL h n e 0=smN h+smN (UInt64.ofNat n):=rfl
 have h0:FwU (pkF h n e n) (pkL h n e n) L q 0 0:=.inl ⟨rfl,by omega,fun k hk hk2=>by rw[Nat.zero_add] at hk2 ⊢;exact hq k hk hk2⟩
 have h1:=h0.next (m:=smN h) (b:=smB h) (Q':=rsQ q 0 18446744073709551615) (E':=rsE q 0 18446744073709551615) (V:=rsV q 0 18446744073709551615=h) (by omega) (fun k hk=>by rw[Nat.zero_add];exact qYD hk) (fun _ hat=>qL7 hat (qQX h)) (fun h3=>absurd rfl h3)
 rw[Nat.zero_add] at h1
 have h2:=h1.1.next (m:=smN (UInt64.ofNat n)) (b:=smB (UInt64.ofNat n)) (Q':=uQ q) (E':=uE q) (V:=uNn q=UInt64.ofNat n) (by omega) (fun k hk=>qZI hk) (fun ez hat=>by
  unfold uQ uE uNn
  rw[ez]
  exact qL7 hat (qQS hn)) (fun h3=>(qI0 h3).1)
 refine⟨h2.1,fun hl=>⟨h1.2 (by omega),h2.2 (by omega)⟩,fun hE=>(qQL hE).2⟩
theorem qSb (hs:∀i,i<n→(e i).wn≤1000) {Q:BytL} {E:Int} (h0:FwU (pkF h n e n) (pkL h n e n) L Q E (pkL h n e 0)):∀k,k≤n→
  FwU (pkF h n e n) (pkL h n e n) L (usS Q E k).1 (usS Q E k).2 (pkL h n e k)∧∀i,i<k→pkL h n e (i+1)≤L→usN Q E i=(e i).wn∧∀j,j<(e i).wn→usW Q E i j=(e i).wf j
 |0,_=>⟨h0,fun i hi=>absurd hi (Nat.not_lt_zero i)⟩
 |k+1,hk=>by
  obtain⟨a,b⟩:=qSb hs h0 k (by omega)
  have hT:pkL h n e (k+1)≤pkL h n e n:=qGT n hk
  have hs':=hs k (by omega)
  have h1:=a.next (m:=byN (e k).wn) (b:=byB (e k).wf (e k).wn) (Q':=(usS Q E (k+1)).1) (E':=(usS Q E (k+1)).2) (V:=usN Q E k=(e k).wn∧∀j,j<(e k).wn→usW Q E k j=(e k).wf j) hT (fun j hj=>jBj (by omega) hj) (fun ez hat=>by
   show FwS _ (rbQ (usS Q E k).1 (usS Q E k).2 1000) (rbE (usS Q E k).1 (usS Q E k).2 1000) _ (rbN (usS Q E k).1 (usS Q E k).2 1000=(e k).wn∧∀j,j<(e k).wn→(ctQ (usS Q E k).1 (usS Q E k).2 1000).wf j=(e k).wf j)
   rw[ez]
   exact qW5 (by decide) (by decide) hs' hat) (fun h3=>(qUs h3).1)
  refine⟨h1.1,fun i hi hl=>?_⟩
  by_cases hik:i<k
  ·exact b i hik hl
  ·have:i=k:=by omega
   subst this
   exact h1.2 hl
theorem jCb (hn:n≤10):(UInt64.ofNat n).toNat=n:=by rw[UInt64.toNat_ofNat'];omega
theorem qVG (hn:n≤10) (hs:∀i,i<n→(e i).wn≤1000) (hL:q.wn=pkL h n e n) (hq:∀k,k<q.wn→q.wf k=pkF h n e n k):
  uD q=0∧uH q=h∧uN q=n∧∀i,i<n→usN (uQ q) (uE q) i=(e i).wn∧∀j,j<(e i).wn→usW (uQ q) (uE q) i j=(e i).wf j:=by
 obtain⟨a,b,c⟩:=qY1 (L:=pkL h n e n) hn hL (fun k hk _=>hq k hk)
 obtain⟨b1,b2⟩:=b (qGT n (Nat.zero_le _))
 have hN:uN q=n:=by unfold uN;rw[b2,jCb hn]
 obtain⟨d1,d2⟩:=qSb hs a n (Nat.le_refl _)
 refine⟨?_,b1,hN,fun i hi=>d2 i hi (qGT n hi)⟩
 unfold uD
 rw[hN]
 rcases d1 with⟨e0,e1,_⟩|⟨_,e4⟩
 ·unfold qSk;rw[if_neg (by omega)];exact e0
 ·omega
end
section
variable {h:UInt64} {l:qBE} {q:BytL}
theorem qP8 (hp:qJx l=0):(l.wn≤10∧∀i,i<l.wn→1≤(l.wf i).wn∧(l.wf i).wn≤1000)∧twB l.wf l.wn=false:=by
 unfold qJx at hp
 by_cases h1:(qA1 (decide (10<l.wn)) true (qLE (unB l.wf) l.wn))=true
 ·rw[if_pos h1] at hp;cases hp
 ·rw[if_neg h1] at hp
  by_cases h2:twB l.wf l.wn=true
  ·rw[if_pos h2] at hp;cases hp
  ·exact⟨qMN (by simpa using h1),by simpa using h2⟩
theorem qYu {e e':Nat→BytL} {x y:BytL} {i:Nat} (h1:(e i).wn=(e' i).wn) (h2:∀j,j<(e i).wn→(e i).wf j=(e' i).wf j) (h3:x.wn=y.wn) (h4:∀j,j<x.wn→x.wf j=y.wf j):elE e x i=elE e' y i:=by
 unfold elE
 rw[h1,h3]
 exact qOb (fun j hj=>h2 j (by omega)) (fun j hj=>h4 j (by omega))
theorem qYm {e e':Nat→BytL} {n:Nat} (h:∀i,i<n→(e i).wn=(e' i).wn∧∀j,j<(e i).wn→(e i).wf j=(e' i).wf j):twB e n=twB e' n:=
 qGM fun i hi=>qGM fun k hk=>qYu (h k (by omega)).1 (h k (by omega)).2 (h i hi).1 (h i hi).2
theorem qUk {e:Nat→BytL} {n:Nat} {a:Option Addr} {c:Nat} (h:∀i,i<n→1≤(e i).wn):inB e n (qAc a c)=false:=
 qFs fun i hi=>by
  unfold elE qCH
  refine decide_eq_false fun hh=>?_
  have h1:(e i).wn=0:=hh.1
  have:=h i hi
  omega
theorem jDj (hp:qJx l=0) (hL:q.wn=pkL h l.wn l.wf l.wn) (hq:∀k,k<q.wn→q.wf k=pkF h l.wn l.wf l.wn k):unX q=0∧unH q=h∧uN q=l.wn∧∀i,i<l.wn→usN (uQ q) (uE q) i=(l.wf i).wn∧∀j,j<(l.wf i).wn→usW (uQ q) (uE q) i j=(l.wf i).wf j:=by
 obtain⟨⟨h1,h2⟩,h3⟩:=qP8 hp
 obtain⟨a,b,c,d⟩:=qVG h1 (fun i hi=>(h2 i hi).2) hL hq
 have hb:uB q=false:=by
  unfold uB
  rw[c,qCX,Bool.or_eq_false_iff]
  refine⟨qUk fun i hi=>?_,?_⟩
  ·show 1≤usN (uQ q) (uE q) i
   rw[(d i hi).1];exact(h2 i hi).1
  ·rw[qYm (e:=usB (uQ q) (uE q)) (e':=l.wf) fun i hi=>⟨(d i hi).1,fun j hj=>(d i hi).2 j (by have h4:(usB (uQ q) (uE q) i).wn=(l.wf i).wn:=(d i hi).1;omega)⟩]
   exact h3
 have hX:=jBn a hb
 exact⟨hX,by rw[(qXC hX).1,b],c,d⟩
end
section
variable {h:UInt64} {n:Nat} {e e':Nat→BytL} {q:BytL}
theorem jDN (hX:unX q=0):uD q=0∧uB q=false:=by
 unfold unX at hX
 by_cases hd:uD q=0
 ·rw[if_pos hd] at hX
  refine⟨hd,?_⟩
  cases hb:uB q with
  |false=>rfl
  |true=>rw[hb] at hX;cases hX
 ·rw[if_neg hd] at hX;exact absurd hX hd
end
end Go.Eng
end
section
namespace Go.Eng
open Go.RowKit Go.WideShapes Go.ChangeShapes Go.ChangeAt Go.Deep
def bysZ:qBE:=⟨none,0,0,0,0,fun _=>qAc none 0⟩
theorem qYE:OkS bysZ:=⟨Nat.le_refl _,fun h=>absurd h (Nat.lt_irrefl 0),Nat.zero_le _,fun k hk=>absurd hk (Nat.not_lt_zero k)⟩
theorem qRM {W:World}:qCJ (qFv bysZ) W:=fun z hz=>by
 rcases hz with⟨h0,_⟩|⟨k,hk,_⟩
 ·exact absurd h0 (Nat.lt_irrefl 0)
 ·exact absurd hk (Nat.not_lt_zero k)
structure POp where
 d:Int
 n:Int
 l:qBE
instance:Inhabited POp:=⟨⟨0,0,bysZ⟩⟩
end Go.Eng
end
section
namespace Go.Eng
theorem qAb.veq {F:Blk→Prop} {P:Program} {f:FuncId} {args:List Value} {bs:List (Option Blk)} {k:Nat} {v v':Value} {out:List Nat→List (Option Blk)} (e:v=v') (h:qAb F P f args bs k (fun _=>v) out):qAb F P f args bs k (fun _=>v') out:=e▸h
theorem qZy {h:UInt64} {l:qBE} {a r:Nat} (e:qJx l=0):(qDG (qT4 h l a r)).wn=pkL h l.wn l.wf l.wn∧(qDG (qT4 h l a r)).wf=pkF h l.wn l.wf l.wn:=by rw[qMB e];exact⟨rfl,rfl⟩
theorem qWU {P:Nat→BytL→Prop} {a:BytL} (h0:P 0 a):∀k,k<1→P k (qVY [a] k):=fun k hk=>by
 rcases k with _ |k
 ·exact h0
 ·omega
end Go.Eng
namespace Go.Eng
section
variable {P:Program} {t e:TypeId} {x y:Operand}
theorem qKp {α:Type} {sz:Nat} {A:Grw α} (ht:P.underlying t=some (.slice e)) (he:qBZ P e=some sz) (hz:A.z=false) (i:Nat) (hi:i<A.n):qB0 P (.indexAddr t x y) [gsV A,nat i] (ptr A.nm (0+i*sz)):=by
 rw[qHv hz];exact qAf ht he A.nm 0 A.n (A.n+A.r) i hi
def qXp (t:TypeId) (x:Value):Sem Next:=do pure (.value (←Instr.loadAt t x))
theorem qSB (ha:qVr P t=some false) {A:Grw BytL} (hz:A.z=false) (i:Nat) (hi:i<A.n):qE4 P (qXp t (ptr A.nm (0+i*1))) [roO (gsE qBb [Value.slice none 0 0] 1 A)] 0 (fun _=>qAJ (A.f i)) (fun _=>[none]):=by
 rw[qDJ hz]
 intro w hm hap
 have hS:qAl ⟨A.nm,false,0,qF8 1 (A.n+A.r) A.n (fun k=>qBb (A.f k)) [Value.slice none 0 0]⟩ w:=hm 0 _ rfl
 have hc:=hS.cell i (qAJ (A.f i)) (by
  show(qAI.tab (A.n+A.r) 1 fun k=>if k<A.n then qBb (A.f k) else _).get i=_
  rw[qAI.get_tab (by omega),Nat.div_one,Nat.mod_one,if_pos hi];rfl)
 refine⟨[],w,rfl,.inl ?_,?_⟩
 ·have hr:=qCv (P:=P) (t:=t) (w:=w) (b:=A.nm) (o:=0+i*1) (v:=qAJ (A.f i)) ha (by rw[Nat.mul_one];exact hc)
  show(Instr.loadAt t (Value.pointer (some {block:=A.nm,off:=0+i*1})) >>= fun v=>Sem.pure (Next.value v)).run P w=_
  rw[Sem.run_bind,hr];rfl
 ·exact⟨fun p b hpb=>by rcases p with _ |p<;>simp[lM] at hpb,fun p q b c _ hpb=>by rcases p with _ |p<;>simp[lM] at hpb,(Adv.refl _ _).weak fun p b hpb=>by rcases p with _ |p<;>simp[lM] at hpb⟩
end
end Go.Eng
end
section
namespace Go.Proofs.YtmdpendnbkajdaaDoor
open Go Go.Eng
def qFy (l:qBE) (x1:Nat):St:=⟨[(0,.v (vS l.wa l.wn l.wc)),(3,.v (nat x1))],[],0⟩
def qC6 (l:qBE) (x1:Nat):Prop:=(x1≤l.wn)∧(∀k,k<x1→(fun i=>inB l.wf i (l.wf i)) k=false)
def qDr (l:qBE) (x1:Nat):Nat:=l.wn-x1
theorem qLz (l:qBE) (hl:OkS l):qAt (qFv l) TP 28 [(Value.slice l.wa l.wn l.wc)] [] 0 (fun _=>Value.bool (twB l.wf l.wn)) (fun _=>[]):=
 qAm (F:=(qFv l)) mix Tryd.func28 rfl rfl 400 (.reg (rg [.g]) (.reg (rg [.g]) (.inv [0,3] [] 0 (qC6 l) (qFy l) (qDr l) (0:Nat) (fun(x1:Nat)=>(.reg (rg [.g,.g,(.as (nat l.wn)),(.as (vB (decide (x1<l.wn))))]) (.br (.openr (qJI l) (.reg (rg [.g,.g,(.as (vS l.wa x1 l.wc)),.g,.g,(.as (ptr l.wb (l.wo+x1*1))),(.ld 0 (.tab x1 0)),(.callF [] 0 0 (fun _=>(vB (inB l.wf x1 (l.wf x1)))) (fun _=>[])),.g]) (.reg (rg [.g]) (.br (.reg (rg [.g]) .done) (.reg (rg [.g,(.as (nat (x1+1))),.g]) .done))))) (.reg (rg [.g]) .done))))))) [] [] rfl
  (have f0:l.wn≤l.wc∧l.wn≤9223372036854775807:=⟨hl.cap,hl.len⟩;Eq.mp (by kernel_rfl) (aI kV1 (aI kV1 (aI (show(qC6 l) (0:Nat) from(show(0≤l.wn)∧(∀k,k<0→(fun i=>inB l.wf i (l.wf i)) k=false) from by exact⟨by omega,fun k hk=>absurd hk (by omega)⟩)) (aI (@rfl St ((qFy l) (0:Nat))) (fun(x1:Nat) (hx1:(qC6 l) x1)=>have B0:x1≤l.wn:=hx1.1;have B1:∀k,k<x1→(fun i=>inB l.wf i (l.wf i)) k=false:=hx1.2;aI (sK2 (aI (aT (@qAw TP 35 23 (.tmp 6) (by kernel_rfl) l.wa l.wn l.wc)) (aI (aT (@qAN TP 3 3 (.tmp 5) (.tmp 7)  x1 l.wn)) tV))) (aT (aI (fun(h1:(decide (x1<l.wn))=true)=>have f3:=(oT h1);aI (Or.inl ⟨(show 0<l.wn from by omega),rfl⟩:qFv l (qJI l)) (aI (sK2 (aI (aT (@qH4 TP 35 23 (.tmp 11) (.tmp 12) (by kernel_rfl) 1 (by kernel_rfl) l.wa l.wn l.wc x1 (show x1≤l.wc from by omega))) (sK2 (aI (aT (@qBd TP 35 23 (.tmp 14) (.tmp 15) 1 (by kernel_rfl) (by kernel_rfl) l.wb l.wo l.wn l.wc x1 l.wa (hl.ad (show 0<l.wn from by omega)) (show x1<l.wn from by omega))) (aI (aT (aI (show x1<l.wn from by omega) (@rfl Value (ptr l.wb (l.wo+x1*1))))) (aI (aT (qAt.lendP (F':=qFv l) (jB2 (show x1<l.wn from by omega)) (jBv (show x1<l.wn from by omega)) (qYO (qZk l x1) (l.wf x1) (qXl hl (Nat.le_of_lt (show x1<l.wn from by omega))) (hl.el _ (show x1<l.wn from by omega))))) kV1)))))) (aI kV1 (aT (aI (fun(h2:(inB l.wf x1 (l.wf x1))=true)=>aI kV1 (aT (eX (fun(ns:List Nat)=>ns.length=0∧((vB true):Value)=(fun _=>vB (twB l.wf l.wn)) ns∧([]:List (Option Blk))=(fun _=>[]) ns) [] (aI (@rfl Nat 0) (aI ((show(vB true)=vB (twB l.wf l.wn) from congrArg vB (by first|exact qIX (by omega) (by assumption)|exact qLB (by omega) B1))) (@rfl (List (Option Blk)) [])))))) (fun(h2:(inB l.wf x1 (l.wf x1))=false)=>aI (sk (aI (aT (@qAg TP 3 3 (.tmp 9) (.const (.int .i64 1))  x1 1 (show x1+1≤9223372036854775807 from by omega))) kV1)) ((rnd (qC6 l) (qFy l) (qDr l) x1 (x1+1:Nat) (show(qC6 l) (x1+1:Nat)∧(qDr l) (x1+1:Nat)<(qDr l) x1 from(show(((x1+1)≤l.wn)∧(∀k,k<(x1+1)→(fun i=>inB l.wf i (l.wf i)) k=false))∧(l.wn-(x1+1))<(l.wn-x1) from by exact⟨⟨by omega,qJO (p:=fun i=>inB l.wf i (l.wf i)) B1 (by assumption)⟩,by omega⟩)))))))))) (fun(h1:(decide (x1<l.wn))=false)=>have f3:=(oF h1);aI kV1 (aT (eX (fun(ns:List Nat)=>ns.length=0∧((vB false):Value)=(fun _=>vB (twB l.wf l.wn)) ns∧([]:List (Option Blk))=(fun _=>[]) ns) [] (aI (@rfl Nat 0) (aI ((show(vB false)=vB (twB l.wf l.wn) from congrArg vB (by first|exact qIX (by omega) (by assumption)|exact qLB (by omega) B1))) (@rfl (List (Option Blk)) []))))))))))))))
theorem qUI {l:qBE} {i e:Nat} (h:qA1 (decide ((l.wf i).wn<1)) true (decide (1000<(l.wf i).wn))=false) (hb:unB l.wf e=true):i≠e:=fun hh=>by
 subst hh
 rw[qCX,Bool.or_eq_false_iff,decide_eq_false_iff_not,decide_eq_false_iff_not] at h
 have h2:szB (l.wf i).wn=false:=by simpa[unB] using hb
 unfold szB at h2
 rw[Bool.and_eq_false_iff,decide_eq_false_iff_not,decide_eq_false_iff_not] at h2
 omega
theorem jBU {n:Nat} (h:1≤n∧n≤1000):qA1 (decide (n<1)) true (decide (1000<n))=false:=by
 rw[qCX,decide_eq_false (by omega),decide_eq_false (by omega)];rfl
section
variable {h:UInt64} {n:Nat} {e:Nat→BytL} {k a r:Nat}
theorem jBr:(pkG h n e k a r).z=false:=decide_eq_false (by have:=qS0 (h:=h) (n:=n) (e:=e) (k:=k);omega)
theorem jDJ:gsV (pkG h n e k a r)=.slice (some ⟨a,0,none⟩) (pkL h n e k) (pkL h n e k+r):=qHv jBr
theorem jC6:gsE u8C [u8 0] 1 (pkG h n e k a r)=some ⟨a,true,0,spr (pkL h n e k+r) (pkL h n e k) (fun j=>u8 (pkF h n e k j)) (u8 0)⟩:=by
 have e1:pkG h n e k a r=⟨false,a,pkL h n e k,r,pkF h n e k⟩:=by
  have hz:=jBr (h:=h) (n:=n) (e:=e) (k:=k) (a:=a) (r:=r)
  unfold pkG qAE at hz ⊢
  first|rw[hz]|(simp only at hz;rw[hz])
 rw[e1];exact qJE
end
abbrev qIv (a:qBE) (b:Nat):=decide (((a.wf b).wn)<1)
abbrev qQD (a:qBE) (b:Nat):=ptr a.wb (a.wo+b*1)
abbrev qS7 (a:qBE):=smN (UInt64.ofNat a.wn)
abbrev jCn (a:qBE) (b:Nat):=qA1 (qIv a b) true (decide (1000<((a.wf b).wn)))
theorem jDi (h:UInt64) (l:qBE) (hl:OkS l) (h1:10<l.wn):qAt (qFv l) TP 17 [(u64 h),(Value.slice l.wa l.wn l.wc)] [] 0 (fun _=>Value.tuple #[Value.slice none 0 0,int 2]) (fun _=>[]):=
 qAm (F:=(qFv l)) mix Tryd.func17 rfl rfl 400 (.reg (rg [.g,.g]) (.reg (rg [.g,(.as (nat l.wn)),(.as (vB (decide (10<l.wn))))]) (.yes (.reg (rg [.g,.g]) .done)))) [] [] rfl
  (have f0:l.wn≤l.wc∧l.wn≤9223372036854775807:=⟨hl.cap,hl.len⟩;Eq.mp (by kernel_rfl) (aI kV2 (aI (sk (aI (aT (@qAw TP 35 23 (.tmp 10) (by kernel_rfl) l.wa l.wn l.wc)) (aI (aT (@qA5 TP 3 3 (.tmp 11) (.const (.int .i64 10))  l.wn 10)) tV))) ((fun(hp1:(decide (10<l.wn))=true)=>have f1:=(oT hp1);aT (aI hp1 (aI kV2 (aT (eX (fun(ns:List Nat)=>ns.length=0∧((vT #[(vS none 0 0),(int 2)]):Value)=(fun _=>vT #[vS none 0 0,int 2]) ns∧([]:List (Option Blk))=(fun _=>[]) ns) [] (aI (@rfl Nat 0) (aI (@rfl Value (vT #[vS none 0 0,int 2])) (@rfl (List (Option Blk)) [])))))))) (show(decide (10<l.wn))=true from by exact decide_eq_true h1)))))
def qMc (h:UInt64) (l:qBE) (e:Nat) (x1:Nat):St:=⟨[(0,.v (u64 h)),(1,.v (vS l.wa l.wn l.wc)),(6,.v (nat x1))],[],0⟩
def qH1 (h:UInt64) (l:qBE) (e:Nat) (x1:Nat):Prop:=(x1≤e)
def qHZ (h:UInt64) (l:qBE) (e:Nat) (x1:Nat):Nat:=e-x1
theorem jDk (h:UInt64) (l:qBE) (e:Nat) (hl:OkS l) (h1:l.wn≤10) (he:e<l.wn) (hb:unB l.wf e=true):qAt (qFv l) TP 17 [(u64 h),(Value.slice l.wa l.wn l.wc)] [] 0 (fun _=>Value.tuple #[Value.slice none 0 0,int 2]) (fun _=>[]):=
 qAm (F:=(qFv l)) mix Tryd.func17 rfl rfl 400 (.reg (rg [.g,.g]) (.reg (rg [.g,(.as (nat l.wn)),(.as (vB (decide (10<l.wn))))]) (.no (.reg (rg [.g]) (.inv [0,1,6] [] 0 (qH1 h l e) (qMc h l e) (qHZ h l e) (0:Nat) (fun(x1:Nat)=>(.reg (rg [.g,.g,(.as (nat l.wn)),(.as (vB (decide (x1<l.wn))))]) (.yes (.openr (qJI l) (.reg (rg [.g,.g,(.as (qQD l x1)),(.ld 0 (.tab x1 0)),(.as (nat ((l.wf x1).wn))),(.as (vB (qIv l x1))),.g,(.opt .g),(.opt .g),(.opt (.as (qQD l x1))),(.opt (.ld 0 (.tab x1 0))),(.opt (.as (nat ((l.wf x1).wn)))),(.opt (.as (vB (decide (1000<((l.wf x1).wn)))))),.pk]) (.br (.reg (rg [.g,.g]) .done) (.reg (rg [.g,(.as (nat (x1+1))),.g]) .done)))))))))))) [] [] rfl
  (have f0:l.wn≤l.wc∧l.wn≤9223372036854775807:=⟨hl.cap,hl.len⟩;Eq.mp (by kernel_rfl) (aI kV2 (aI (sk (aI (aT (@qAw TP 35 23 (.tmp 10) (by kernel_rfl) l.wa l.wn l.wc)) (aI (aT (@qA5 TP 3 3 (.tmp 11) (.const (.int .i64 10))  l.wn 10)) tV))) ((fun(hp1:(decide (10<l.wn))=false)=>have f3:=(oF hp1);aT (aI hp1 (aI kV1 (aI (show(qH1 h l e) (0:Nat) from(show(0≤e) from by exact Nat.zero_le _)) (aI (@rfl St ((qMc h l e) (0:Nat))) (fun(x1:Nat) (hx1:(qH1 h l e) x1)=>have B0:x1≤e:=hx1;aI (sK2 (aI (aT (@qAw TP 35 23 (.tmp 14) (by kernel_rfl) l.wa l.wn l.wc)) (aI (aT (@qAN TP 3 3 (.tmp 13) (.tmp 15)  x1 l.wn)) tV))) ((fun(hp2:(decide (x1<l.wn))=true)=>have f5:=(oT hp2);aT (aI hp2 (aI (Or.inl ⟨(show 0<l.wn from by omega),rfl⟩:qFv l (qJI l)) (aI (sK2 (aI (aT (@qBd TP 35 23 (.tmp 19) (.tmp 20) 1 (by kernel_rfl) (by kernel_rfl) l.wb l.wo l.wn l.wc x1 l.wa (hl.ad (show 0<l.wn from by omega)) (show x1<l.wn from by omega))) (aI (aT (aI (show x1<l.wn from by omega) (@rfl Value (qQD l x1)))) (aI (aT (@qAw TP 23 5 (.tmp 22) (by kernel_rfl) (l.wf x1).wa (l.wf x1).wn (l.wf x1).wc)) (aI (aT (@qAN TP 3 3 (.tmp 23) (.const (.int .i64 1))  (l.wf x1).wn 1)) (sk (aI (fun(hg:(sB (qIv l x1) false)=true)=>t2) (aI (fun(hg:(sB (qIv l x1) false)=true)=>t2) (aI (fun(hg:(sB (qIv l x1) false)=true)=>have f6:¬((l.wf x1).wn<1):=(oF (qBF hg));(aI (aI hg (aI hg tV)) (@qBd TP 35 23 (.tmp 26) (.tmp 27) 1 (by kernel_rfl) (by kernel_rfl) l.wb l.wo l.wn l.wc x1 l.wa (hl.ad (show 0<l.wn from by omega)) (show x1<l.wn from by omega)))) (aI (fun(hg:(sB (qIv l x1) false)=true)=>have f6:¬((l.wf x1).wn<1):=(oF (qBF hg));(aI (aI hg tV) (aI (show x1<l.wn from by omega) (@rfl Value (qQD l x1))))) (aI (fun(hg:(sB (qIv l x1) false)=true)=>have f6:¬((l.wf x1).wn<1):=(oF (qBF hg));(aI (aI hg tV) (@qAw TP 23 5 (.tmp 29) (by kernel_rfl) (l.wf x1).wa (l.wf x1).wn (l.wf x1).wc))) (aI (fun(hg:(sB (qIv l x1) false)=true)=>(aI (aI hg tV) (@qA5 TP 3 3 (.tmp 30) (.const (.int .i64 1000))  (l.wf x1).wn 1000))) (aI (aT (aI (fun(_:(qIv l x1)=true)=>tV) (fun(hp:(qIv l x1)=false)=>(qBf hp)))) tV))))))))))))) (aT (aI (fun(h3:(jCn l x1)=true)=>have f6:(((l.wf x1).wn<1))∨((1000<(l.wf x1).wn)):=(Or.imp (fun h=>(oT h)) (fun h=>(oT h)) (qKV h3));aI kV2 (aT (eX (fun(ns:List Nat)=>ns.length=0∧((vT #[(vS none 0 0),(int 2)]):Value)=(fun _=>vT #[vS none 0 0,int 2]) ns∧([]:List (Option Blk))=(fun _=>[]) ns) [] (aI (@rfl Nat 0) (aI (@rfl Value (vT #[vS none 0 0,int 2])) (@rfl (List (Option Blk)) [])))))) (fun(h3:(jCn l x1)=false)=>have f6:¬((l.wf x1).wn<1):=(oF (qFu h3));have f7:¬(1000<(l.wf x1).wn):=(oF (qFf h3));aI (sk (aI (aT (@qAg TP 3 3 (.tmp 17) (.const (.int .i64 1))  x1 1 (show x1+1≤9223372036854775807 from by omega))) kV1)) ((rnd (qH1 h l e) (qMc h l e) (qHZ h l e) x1 (x1+1:Nat) (show(qH1 h l e) (x1+1:Nat)∧(qHZ h l e) (x1+1:Nat)<(qHZ h l e) x1 from(show(((x1+1)≤e))∧(e-(x1+1))<(e-x1) from by have hne:=qUI h3 hb;exact⟨by omega,by omega⟩))))))))))) (show(decide (x1<l.wn))=true from by exact decide_eq_true (by omega))))))))) (show(decide (10<l.wn))=false from by exact decide_eq_false (by omega))))))
def qMG (h:UInt64) (l:qBE) (x1:Nat):St:=⟨[(0,.v (u64 h)),(1,.v (vS l.wa l.wn l.wc)),(6,.v (nat x1))],[],0⟩
def qIk (h:UInt64) (l:qBE) (x1:Nat):Prop:=(x1≤l.wn)
def qIf (h:UInt64) (l:qBE) (x1:Nat):Nat:=l.wn-x1
theorem jDC (h:UInt64) (l:qBE) (hl:OkS l) (hf:l.wn≤10∧∀i,i<l.wn→1≤(l.wf i).wn∧(l.wf i).wn≤1000) (ht:twB l.wf l.wn=true):qAt (qFv l) TP 17 [(u64 h),(Value.slice l.wa l.wn l.wc)] [] 0 (fun _=>Value.tuple #[Value.slice none 0 0,int 13]) (fun _=>[]):=
 qAm (F:=(qFv l)) mix Tryd.func17 rfl rfl 400 (.reg (rg [.g,.g]) (.reg (rg [.g,(.as (nat l.wn)),(.as (vB (decide (10<l.wn))))]) (.no (.reg (rg [.g]) (.inv [0,1,6] [] 0 (qIk h l) (qMG h l) (qIf h l) (0:Nat) (fun(x1:Nat)=>(.reg (rg [.g,.g,(.as (nat l.wn)),(.as (vB (decide (x1<l.wn))))]) (.br (.openr (qJI l) (.reg (rg [.g,.g,(.as (qQD l x1)),(.ld 0 (.tab x1 0)),(.as (nat (l.wf x1).wn)),(.as (vB (qIv l x1))),.g,(.opt .g),(.opt .g),(.opt (.as (qQD l x1))),(.opt (.ld 0 (.tab x1 0))),(.opt (.as (nat (l.wf x1).wn))),(.opt (.as (vB (decide (1000<(l.wf x1).wn))))),.pk]) (.no (.reg (rg [.g,(.as (nat (x1+1))),.g]) .done)))) (.reg (rg [.g,(.callF [] 0 0 (fun _=>(vB (twB l.wf l.wn))) (fun _=>[])),.g]) (.reg (rg [.g]) (.yes (.reg (rg [.g,.g]) .done)))))))))))) [] [] rfl
  (have f0:l.wn≤l.wc∧l.wn≤9223372036854775807:=⟨hl.cap,hl.len⟩;have f1:=hf.1;Eq.mp (by kernel_rfl) (aI kV2 (aI (sk (aI (aT (@qAw TP 35 23 (.tmp 10) (by kernel_rfl) l.wa l.wn l.wc)) (aI (aT (@qA5 TP 3 3 (.tmp 11) (.const (.int .i64 10))  l.wn 10)) tV))) ((fun(hp1:(decide (10<l.wn))=false)=>have f2:=(oF hp1);aT (aI hp1 (aI kV1 (aI (show(qIk h l) (0:Nat) from(show(0≤l.wn) from by exact Nat.zero_le _)) (aI (@rfl St ((qMG h l) (0:Nat))) (fun(x1:Nat) (hx1:(qIk h l) x1)=>have B0:x1≤l.wn:=hx1;aI (sK2 (aI (aT (@qAw TP 35 23 (.tmp 14) (by kernel_rfl) l.wa l.wn l.wc)) (aI (aT (@qAN TP 3 3 (.tmp 13) (.tmp 15)  x1 l.wn)) tV))) (aT (aI (fun(h2:(decide (x1<l.wn))=true)=>have f4:=(oT h2);aI (Or.inl ⟨(show 0<l.wn from by omega),rfl⟩:qFv l (qJI l)) (aI (sK2 (aI (aT (@qBd TP 35 23 (.tmp 19) (.tmp 20) 1 (by kernel_rfl) (by kernel_rfl) l.wb l.wo l.wn l.wc x1 l.wa (hl.ad (show 0<l.wn from by omega)) (show x1<l.wn from by omega))) (aI (aT (aI (show x1<l.wn from by omega) (@rfl Value (qQD l x1)))) (aI (aT (@qAw TP 23 5 (.tmp 22) (by kernel_rfl) (l.wf x1).wa (l.wf x1).wn (l.wf x1).wc)) (aI (aT (@qAN TP 3 3 (.tmp 23) (.const (.int .i64 1))  (l.wf x1).wn 1)) (sk (aI (fun(hg:(sB (qIv l x1) false)=true)=>t2) (aI (fun(hg:(sB (qIv l x1) false)=true)=>t2) (aI (fun(hg:(sB (qIv l x1) false)=true)=>have f5:¬((l.wf x1).wn<1):=(oF (qBF hg));(aI (aI hg (aI hg tV)) (@qBd TP 35 23 (.tmp 26) (.tmp 27) 1 (by kernel_rfl) (by kernel_rfl) l.wb l.wo l.wn l.wc x1 l.wa (hl.ad (show 0<l.wn from by omega)) (show x1<l.wn from by omega)))) (aI (fun(hg:(sB (qIv l x1) false)=true)=>have f5:¬((l.wf x1).wn<1):=(oF (qBF hg));(aI (aI hg tV) (aI (show x1<l.wn from by omega) (@rfl Value (qQD l x1))))) (aI (fun(hg:(sB (qIv l x1) false)=true)=>have f5:¬((l.wf x1).wn<1):=(oF (qBF hg));(aI (aI hg tV) (@qAw TP 23 5 (.tmp 29) (by kernel_rfl) (l.wf x1).wa (l.wf x1).wn (l.wf x1).wc))) (aI (fun(hg:(sB (qIv l x1) false)=true)=>(aI (aI hg tV) (@qA5 TP 3 3 (.tmp 30) (.const (.int .i64 1000))  (l.wf x1).wn 1000))) (aI (aT (aI (fun(_:(qIv l x1)=true)=>tV) (fun(hp:(qIv l x1)=false)=>(qBf hp)))) tV))))))))))))) ((fun(hp3:(jCn l x1)=false)=>have f5:¬((l.wf x1).wn<1):=(oF (qFu hp3));have f6:¬(1000<(l.wf x1).wn):=(oF (qFf hp3));aT (aI hp3 (aI (sk (aI (aT (@qAg TP 3 3 (.tmp 17) (.const (.int .i64 1))  x1 1 (show x1+1≤9223372036854775807 from by omega))) kV1)) ((rnd (qIk h l) (qMG h l) (qIf h l) x1 (x1+1:Nat) (show(qIk h l) (x1+1:Nat)∧(qIf h l) (x1+1:Nat)<(qIf h l) x1 from(show(((x1+1)≤l.wn))∧(l.wn-(x1+1))<(l.wn-x1) from by exact⟨by omega,by omega⟩))))))) (show(qA1 (decide ((l.wf x1).wn<1)) true (decide (1000<(l.wf x1).wn)))=false from by exact jBU (hf.2 _ (by omega)))))) (fun(h2:(decide (x1<l.wn))=false)=>have f4:=(oF h2);aI (sk (aI (aT (qLz l hl)) kV1)) (aI kV1 ((fun(hp4:(twB l.wf l.wn)=true)=>aT (aI hp4 (aI kV2 (aT (eX (fun(ns:List Nat)=>ns.length=0∧((vT #[(vS none 0 0),(int 13)]):Value)=(fun _=>vT #[vS none 0 0,int 13]) ns∧([]:List (Option Blk))=(fun _=>[]) ns) [] (aI (@rfl Nat 0) (aI (@rfl Value (vT #[vS none 0 0,int 13])) (@rfl (List (Option Blk)) [])))))))) (show(twB l.wf l.wn)=true from by exact ht)))))))))))) (show(decide (10<l.wn))=false from by exact decide_eq_false (by omega))))))
def qMn (h:UInt64) (l:qBE) (x1:Nat):St:=⟨[(0,.v (u64 h)),(1,.v (vS l.wa l.wn l.wc)),(6,.v (nat x1))],[],0⟩
def qH7 (h:UInt64) (l:qBE) (x1:Nat):Prop:=(x1≤l.wn)
def qHX (h:UInt64) (l:qBE) (x1:Nat):Nat:=l.wn-x1
def qL5 (h:UInt64) (l:qBE) (x1:Nat) (n1:Nat) (n2:Nat) (n3:Nat) (n4:Nat) (n5:Nat) (n6:Nat) (x2:Nat×Nat×Nat×(Nat→UInt8)×Nat):St:=⟨[(1,.v (vS l.wa l.wn l.wc)),(8,.v (vS (some ⟨x2.2.2.2.2,0,none⟩) x2.2.1 (x2.2.1+x2.2.2.1))),(9,.v (nat x2.1))],[(0,some ⟨x2.2.2.2.2,true,0,(spr (x2.2.1+x2.2.2.1) x2.2.1 (fun k=>u8 (x2.2.2.2.1 k)) (u8 0))⟩),(1,some ⟨n3,true,0,(spr (smN (uO l.wn)+n4) (qS7 l) (fun k=>u8 (smB (uO l.wn) k)) (u8 0))⟩)],2⟩
def qH5 (h:UInt64) (l:qBE) (x1:Nat) (n1:Nat) (n2:Nat) (n3:Nat) (n4:Nat) (n5:Nat) (n6:Nat) (x2:Nat×Nat×Nat×(Nat→UInt8)×Nat):Prop:=(x2.1≤l.wn)∧(x2.2.1=pkL h l.wn l.wf (x2.1))∧(x2.2.2.2.1=(pkF h l.wn l.wf (x2.1)))
def qIr (h:UInt64) (l:qBE) (x1:Nat) (n1:Nat) (n2:Nat) (n3:Nat) (n4:Nat) (n5:Nat) (n6:Nat) (x2:Nat×Nat×Nat×(Nat→UInt8)×Nat):Nat:=l.wn-x2.1
theorem jCN (h:UInt64) (l:qBE) (hl:OkS l) (hf:l.wn≤10∧∀i,i<l.wn→1≤(l.wf i).wn∧(l.wf i).wn≤1000) (ht:twB l.wf l.wn=false):qAt (qFv l) TP 17 [(u64 h),(Value.slice l.wa l.wn l.wc)] [] 2 (fun(ns:List Nat)=>(Value.tuple #[(Value.slice (some ⟨(ns.getD 0 0),0,none⟩) (pkL h l.wn l.wf l.wn) (pkL h l.wn l.wf l.wn+(ns.getD 1 0))),(int 0)])) (fun(ns:List Nat)=>[some ⟨(ns.getD 0 0),true,0,(spr (pkL h l.wn l.wf l.wn+(ns.getD 1 0)) (pkL h l.wn l.wf l.wn) (fun k=>u8 (pkF h l.wn l.wf l.wn k)) (u8 0))⟩]):=
 qAm (F:=(qFv l)) mix Tryd.func17 rfl rfl 400 (.reg (rg [.g,.g]) (.reg (rg [.g,(.as (nat l.wn)),(.as (vB (decide (10<l.wn))))]) (.no (.reg (rg [.g]) (.inv [0,1,6] [] 0 (qH7 h l) (qMn h l) (qHX h l) (0:Nat) (fun(x1:Nat)=>(.reg (rg [.g,.g,(.as (nat l.wn)),(.as (vB (decide (x1<l.wn))))]) (.br (.openr (qJI l) (.reg (rg [.g,.g,(.as (qQD l x1)),(.ld 0 (.tab x1 0)),(.as (nat (l.wf x1).wn)),(.as (vB (qIv l x1))),.g,(.opt .g),(.opt .g),(.opt (.as (qQD l x1))),(.opt (.ld 0 (.tab x1 0))),(.opt (.as (nat (l.wf x1).wn))),(.opt (.as (vB (decide (1000<(l.wf x1).wn))))),.pk]) (.no (.reg (rg [.g,(.as (nat (x1+1))),.g]) .done)))) (.reg (rg [.g,(.callF [] 0 0 (fun _=>(vB (twB l.wf l.wn))) (fun _=>[])),.g]) (.reg (rg [.g]) (.no (.regn (rg [.g,(.callF [] 2 1 (fun ns=>vS (some ⟨(g0 ns),0,none⟩) (smN h) (smN h+(g1 ns))) (fun ns=>[some ⟨(g0 ns),true,0,(spr (smN h+(g1 ns)) (smN h) (fun k=>u8 (smB h k)) (u8 0))⟩])),.g,(.as (nat l.wn)),(.as (u64 (uO l.wn))),(.callF [] 2 1 (fun ns=>vS (some ⟨(g0 ns),0,none⟩) (qS7 l) (smN (uO l.wn)+(g1 ns))) (fun ns=>[some ⟨(g0 ns),true,0,(spr (smN (uO l.wn)+(g1 ns)) (qS7 l) (fun k=>u8 (smB (uO l.wn) k)) (u8 0))⟩])),(.oth [(0,false),(1,true)] 2 0 (fun ns=>vS (some ⟨(g0 ns),0,none⟩) (smN h+(qS7 l)) (smN h+(qS7 l)+(g1 ns))) (fun ns=>[some ⟨(g0 ns),true,0,(spr (smN h+(qS7 l)+(g1 ns)) (smN h+(qS7 l)) (fun k=>u8 (qAs (smB h) (smN h) (smB (uO l.wn)) k)) (u8 0))⟩,none])),.g]) (more (fun n1=>more (fun n2=>more (fun n3=>more (fun n4=>more (fun n5=>more (fun n6=>fun _=>(.reg (rg [.g]) (.inv [1,8,9] [0,1] 2 (qH5 h l x1 n1 n2 n3 n4 n5 n6) (qL5 h l x1 n1 n2 n3 n4 n5 n6) (qIr h l x1 n1 n2 n3 n4 n5 n6) ((0,smN h+(qS7 l),n6,qAs (smB h) (smN h) (smB (uO l.wn)),n5):Nat×Nat×Nat×(Nat→UInt8)×Nat) (fun(x2:Nat×Nat×Nat×(Nat→UInt8)×Nat)=>(.reg (rg [.g,.g,(.as (nat l.wn)),(.as (vB (decide (x2.1<l.wn))))]) (.br (.openr (qJI l) (.regn (rg [.g,.g,.g,(.as (qQD l x2.1)),(.ld 2 (.tab x2.1 0)),(.callF [] 2 1 (fun ns=>vS (some ⟨(g0 ns),0,none⟩) (byN (l.wf x2.1).wn) (byN (l.wf x2.1).wn+(g1 ns))) (fun ns=>[some ⟨(g0 ns),true,0,(spr (byN (l.wf x2.1).wn+(g1 ns)) (byN (l.wf x2.1).wn) (fun k=>u8 (byB (l.wf x2.1).wf (l.wf x2.1).wn k)) (u8 0))⟩])),(.oth [(0,false),(3,true)] 2 0 (fun ns=>vS (some ⟨(g0 ns),0,none⟩) (x2.2.1+(byN (l.wf x2.1).wn)) (x2.2.1+(byN (l.wf x2.1).wn)+(g1 ns))) (fun ns=>[some ⟨(g0 ns),true,0,(spr (x2.2.1+(byN (l.wf x2.1).wn)+(g1 ns)) (x2.2.1+(byN (l.wf x2.1).wn)) (fun k=>u8 (qAs x2.2.2.2.1 x2.2.1 (byB (l.wf x2.1).wf (l.wf x2.1).wn) k)) (u8 0))⟩,none])),.g]) (more (fun n7=>more (fun n8=>more (fun n9=>more (fun n10=>fun _=>(.reg (rg [.g,(.as (nat (x2.1+1))),.g]) .done)))))))) (.keep [8] [0] 2 (.told ⟨[(8,.v (vS (some ⟨x2.2.2.2.2,0,none⟩) (pkL h l.wn l.wf l.wn) (pkL h l.wn l.wf l.wn+x2.2.2.1)))],[(0,some ⟨x2.2.2.2.2,true,0,(spr (pkL h l.wn l.wf l.wn+x2.2.2.1) (pkL h l.wn l.wf l.wn) (fun k=>u8 (pkF h l.wn l.wf l.wn k)) (u8 0))⟩)],2⟩ (.reg (rg [.g,.g,.g]) .done))))))))))))))))))))))))))) [] [0] rfl
  (have f0:l.wn≤l.wc∧l.wn≤9223372036854775807:=⟨hl.cap,hl.len⟩;have f1:=hf.1;Eq.mp (by kernel_rfl) (aI kV2 (aI (sk (aI (aT (@qAw TP 35 23 (.tmp 10) (by kernel_rfl) l.wa l.wn l.wc)) (aI (aT (@qA5 TP 3 3 (.tmp 11) (.const (.int .i64 10))  l.wn 10)) tV))) ((fun(hp1:(decide (10<l.wn))=false)=>have f2:=(oF hp1);aT (aI hp1 (aI kV1 (aI (show(qH7 h l) (0:Nat) from(show(0≤l.wn) from by exact Nat.zero_le _)) (aI (@rfl St ((qMn h l) (0:Nat))) (fun(x1:Nat) (hx1:(qH7 h l) x1)=>have B0:x1≤l.wn:=hx1;aI (sK2 (aI (aT (@qAw TP 35 23 (.tmp 14) (by kernel_rfl) l.wa l.wn l.wc)) (aI (aT (@qAN TP 3 3 (.tmp 13) (.tmp 15)  x1 l.wn)) tV))) (aT (aI (fun(h2:(decide (x1<l.wn))=true)=>have f4:=(oT h2);aI (Or.inl ⟨(show 0<l.wn from by omega),rfl⟩:qFv l (qJI l)) (aI (sK2 (aI (aT (@qBd TP 35 23 (.tmp 19) (.tmp 20) 1 (by kernel_rfl) (by kernel_rfl) l.wb l.wo l.wn l.wc x1 l.wa (hl.ad (show 0<l.wn from by omega)) (show x1<l.wn from by omega))) (aI (aT (aI (show x1<l.wn from by omega) (@rfl Value (qQD l x1)))) (aI (aT (@qAw TP 23 5 (.tmp 22) (by kernel_rfl) (l.wf x1).wa (l.wf x1).wn (l.wf x1).wc)) (aI (aT (@qAN TP 3 3 (.tmp 23) (.const (.int .i64 1))  (l.wf x1).wn 1)) (sk (aI (fun(hg:(sB (qIv l x1) false)=true)=>t2) (aI (fun(hg:(sB (qIv l x1) false)=true)=>t2) (aI (fun(hg:(sB (qIv l x1) false)=true)=>have f5:¬((l.wf x1).wn<1):=(oF (qBF hg));(aI (aI hg (aI hg tV)) (@qBd TP 35 23 (.tmp 26) (.tmp 27) 1 (by kernel_rfl) (by kernel_rfl) l.wb l.wo l.wn l.wc x1 l.wa (hl.ad (show 0<l.wn from by omega)) (show x1<l.wn from by omega)))) (aI (fun(hg:(sB (qIv l x1) false)=true)=>have f5:¬((l.wf x1).wn<1):=(oF (qBF hg));(aI (aI hg tV) (aI (show x1<l.wn from by omega) (@rfl Value (qQD l x1))))) (aI (fun(hg:(sB (qIv l x1) false)=true)=>have f5:¬((l.wf x1).wn<1):=(oF (qBF hg));(aI (aI hg tV) (@qAw TP 23 5 (.tmp 29) (by kernel_rfl) (l.wf x1).wa (l.wf x1).wn (l.wf x1).wc))) (aI (fun(hg:(sB (qIv l x1) false)=true)=>(aI (aI hg tV) (@qA5 TP 3 3 (.tmp 30) (.const (.int .i64 1000))  (l.wf x1).wn 1000))) (aI (aT (aI (fun(_:(qIv l x1)=true)=>tV) (fun(hp:(qIv l x1)=false)=>(qBf hp)))) tV))))))))))))) ((fun(hp3:(jCn l x1)=false)=>have f5:¬((l.wf x1).wn<1):=(oF (qFu hp3));have f6:¬(1000<(l.wf x1).wn):=(oF (qFf hp3));aT (aI hp3 (aI (sk (aI (aT (@qAg TP 3 3 (.tmp 17) (.const (.int .i64 1))  x1 1 (show x1+1≤9223372036854775807 from by omega))) kV1)) ((rnd (qH7 h l) (qMn h l) (qHX h l) x1 (x1+1:Nat) (show(qH7 h l) (x1+1:Nat)∧(qHX h l) (x1+1:Nat)<(qHX h l) x1 from(show(((x1+1)≤l.wn))∧(l.wn-(x1+1))<(l.wn-x1) from by exact⟨by omega,by omega⟩))))))) (show(qA1 (decide ((l.wf x1).wn<1)) true (decide (1000<(l.wf x1).wn)))=false from by exact jBU (hf.2 _ (by omega)))))) (fun(h2:(decide (x1<l.wn))=false)=>have f4:=(oF h2);aI (sk (aI (aT (qLz l hl)) kV1)) (aI kV1 ((fun(hp4:(twB l.wf l.wn)=false)=>aT (aI hp4 (fun(n1 n2 n3 n4 n5 n6:Nat)=>aI (sk (aI (aT (qMF (F:=(qFv l)) h)) (sk (aI (aT (@qAw TP 35 23 (.tmp 38) (by kernel_rfl) l.wa l.wn l.wc)) (aI (aT (@qBz TP 3 30 (.tmp 39) (by kernel_rfl) (by kernel_rfl) l.wn)) (aI (aT (qMF (F:=(qFv l)) (uO l.wn))) (aI (aT (qAz.dark [false,true] (qB6 (P:=TP) (t:=23) (ty:=23) (e:=5) (by kernel_rfl) qIu n1 (smN h) n2 n3 0 0 (qS7 l) (smN (uO l.wn)+n4) u8 (smB h) (smB (uO l.wn)) (spr (smN (uO l.wn)+n4) (qS7 l) (fun k=>u8 (smB (uO l.wn) k)) (u8 0)) (qPS) (fun _=>rfl) (show(smN h+(smN (uO l.wn)))*1≤140737488355328∧smN h+(smN (uO l.wn))≤9223372036854775807 from by have hb1:=qFY h;have hb2:=qFY (uO l.wn);omega)))) kV1))))))) (aI kV1 (aI (show(qH5 h l x1 n1 n2 n3 n4 n5 n6) ((0,smN h+(smN (uO l.wn)),n6,qAs (smB h) (smN h) (smB (uO l.wn)),n5):Nat×Nat×Nat×(Nat→UInt8)×Nat) from(show(0≤l.wn)∧((smN h+(smN (uO l.wn)))=pkL h l.wn l.wf (0))∧((qAs (smB h) (smN h) (smB (uO l.wn)))=(pkF h l.wn l.wf (0))) from by exact⟨Nat.zero_le _,rfl,rfl⟩)) (aI (@rfl St ((qL5 h l x1 n1 n2 n3 n4 n5 n6) ((0,smN h+(qS7 l),n6,qAs (smB h) (smN h) (smB (uO l.wn)),n5):Nat×Nat×Nat×(Nat→UInt8)×Nat))) (fun(x2:Nat×Nat×Nat×(Nat→UInt8)×Nat) (hx2:(qH5 h l x1 n1 n2 n3 n4 n5 n6) x2)=>have C0:x2.1≤l.wn:=hx2.1;have C1:x2.2.1=pkL h l.wn l.wf (x2.1):=hx2.2.1;have C2:x2.2.2.2.1=(pkF h l.wn l.wf (x2.1)):=hx2.2.2;aI (sK2 (aI (aT (@qAw TP 35 23 (.tmp 44) (by kernel_rfl) l.wa l.wn l.wc)) (aI (aT (@qAN TP 3 3 (.tmp 43) (.tmp 45)  x2.1 l.wn)) tV))) (aT (aI (fun(h5:(decide (x2.1<l.wn))=true)=>have f9:=(oT h5);aI (Or.inl ⟨(show 0<l.wn from by omega),rfl⟩:qFv l (qJI l)) (fun(n7 n8 n9 n10:Nat)=>aI (sK3 (aI (aT (@qBd TP 35 23 (.tmp 50) (.tmp 51) 1 (by kernel_rfl) (by kernel_rfl) l.wb l.wo l.wn l.wc x2.1 l.wa (hl.ad (show 0<l.wn from by omega)) (show x2.1<l.wn from by omega))) (aI (aT (aI (show x2.1<l.wn from by omega) (@rfl Value (qQD l x2.1)))) (aI (aT (qAt.mono (jDE (show x2.1<l.wn from by omega)) (qVP (l.wf x2.1) (hl.el _ (show x2.1<l.wn from by omega)) (Nat.le_trans (hf.2 _ (show x2.1<l.wn from by omega)).2 (by decide))))) (aI (aT (qAz.dark [false,true] (qB6 (P:=TP) (t:=23) (ty:=23) (e:=5) (by kernel_rfl) qIu x2.2.2.2.2 x2.2.1 x2.2.2.1 n7 0 0 (byN (l.wf x2.1).wn) (byN (l.wf x2.1).wn+n8) u8 x2.2.2.2.1 (byB (l.wf x2.1).wf (l.wf x2.1).wn) (spr (byN (l.wf x2.1).wn+n8) (byN (l.wf x2.1).wn) (fun k=>u8 (byB (l.wf x2.1).wf (l.wf x2.1).wn k)) (u8 0)) (qPS) (fun _=>rfl) (show(x2.2.1+(byN (l.wf x2.1).wn))*1≤140737488355328∧x2.2.1+(byN (l.wf x2.1).wn)≤9223372036854775807 from by have hb1:=qXL (h:=h) (n:=l.wn) (e:=l.wf) (k:=x2.1) (fun j hj=>(hf.2 j (by omega)).2);have hb2:=qS8 (l.wf x2.1).wn;have hb3:=(hf.2 x2.1 (by omega)).2;omega)))) kV1))))) (aI (sk (aI (aT (@qAg TP 3 3 (.tmp 47) (.const (.int .i64 1))  x2.1 1 (show x2.1+1≤9223372036854775807 from by omega))) kV1)) ((rnd (qH5 h l x1 n1 n2 n3 n4 n5 n6) (qL5 h l x1 n1 n2 n3 n4 n5 n6) (qIr h l x1 n1 n2 n3 n4 n5 n6) x2 ((x2.1+1,x2.2.1+(byN (l.wf x2.1).wn),n10,qAs x2.2.2.2.1 x2.2.1 (byB (l.wf x2.1).wf (l.wf x2.1).wn),n9):Nat×Nat×Nat×(Nat→UInt8)×Nat) (show(qH5 h l x1 n1 n2 n3 n4 n5 n6) ((x2.1+1,x2.2.1+(byN (l.wf x2.1).wn),n10,qAs x2.2.2.2.1 x2.2.1 (byB (l.wf x2.1).wf (l.wf x2.1).wn),n9):Nat×Nat×Nat×(Nat→UInt8)×Nat)∧(qIr h l x1 n1 n2 n3 n4 n5 n6) ((x2.1+1,x2.2.1+(byN (l.wf x2.1).wn),n10,qAs x2.2.2.2.1 x2.2.1 (byB (l.wf x2.1).wf (l.wf x2.1).wn),n9):Nat×Nat×Nat×(Nat→UInt8)×Nat)<(qIr h l x1 n1 n2 n3 n4 n5 n6) x2 from(show(((x2.1+1)≤l.wn)∧((x2.2.1+(byN (l.wf x2.1).wn))=pkL h l.wn l.wf ((x2.1+1)))∧((qAs x2.2.2.2.1 x2.2.1 (byB (l.wf x2.1).wf (l.wf x2.1).wn))=(pkF h l.wn l.wf ((x2.1+1)))))∧(l.wn-(x2.1+1))<(l.wn-x2.1) from by exact⟨⟨by omega,by rw[C1]<;>rfl,by rw[C2,C1]<;>rfl⟩,by omega⟩))))))) (fun(h5:(decide (x2.1<l.wn))=false)=>have f9:=(oF h5);aI (show(⟨[(8,.v (vS (some ⟨x2.2.2.2.2,0,none⟩) x2.2.1 (x2.2.1+x2.2.2.1)))],[(0,some ⟨x2.2.2.2.2,true,0,(spr (x2.2.1+x2.2.2.1) x2.2.1 (fun k=>u8 (x2.2.2.2.1 k)) (u8 0))⟩)],2⟩:St)=⟨[(8,.v (vS (some ⟨x2.2.2.2.2,0,none⟩) (pkL h l.wn l.wf l.wn) (pkL h l.wn l.wf l.wn+x2.2.2.1)))],[(0,some ⟨x2.2.2.2.2,true,0,(spr (pkL h l.wn l.wf l.wn+x2.2.2.1) (pkL h l.wn l.wf l.wn) (fun k=>u8 (pkF h l.wn l.wf l.wn k)) (u8 0))⟩)],2⟩ from by have e0:x2.1=l.wn:=(by omega);rw[C2,C1,e0]) (aI kV3 (aT (eX (fun(ns:List Nat)=>ns.length=2∧((vT #[(vS (some ⟨x2.2.2.2.2,0,none⟩) (pkL h l.wn l.wf l.wn) (pkL h l.wn l.wf l.wn+x2.2.2.1)),(int 0)]):Value)=(fun(ns:List Nat)=>(vT #[(vS (some ⟨(g0 ns),0,none⟩) (pkL h l.wn l.wf l.wn) (pkL h l.wn l.wf l.wn+(g1 ns))),(int 0)])) ns∧([some ⟨x2.2.2.2.2,true,0,(spr (pkL h l.wn l.wf l.wn+x2.2.2.1) (pkL h l.wn l.wf l.wn) (fun k=>u8 (pkF h l.wn l.wf l.wn k)) (u8 0))⟩]:List (Option Blk))=(fun(ns:List Nat)=>[some ⟨(g0 ns),true,0,(spr (pkL h l.wn l.wf l.wn+(g1 ns)) (pkL h l.wn l.wf l.wn) (fun k=>u8 (pkF h l.wn l.wf l.wn k)) (u8 0))⟩]) ns) [x2.2.2.2.2,x2.2.2.1] (aI (@rfl Nat 2) (aI (@rfl Value (vT #[(vS (some ⟨x2.2.2.2.2,0,none⟩) (pkL h l.wn l.wf l.wn) (pkL h l.wn l.wf l.wn+x2.2.2.1)),(int 0)])) (@rfl (List (Option Blk)) [some ⟨x2.2.2.2.2,true,0,(spr (pkL h l.wn l.wf l.wn+x2.2.2.1) (pkL h l.wn l.wf l.wn) (fun k=>u8 (pkF h l.wn l.wf l.wn k)) (u8 0))⟩])))))))))))))))) (show(twB l.wf l.wn)=false from by exact ht)))))))))))) (show(decide (10<l.wn))=false from by exact decide_eq_false (by omega))))))
theorem qTL (h:UInt64) (l:qBE) (hl:OkS l):qAb (qFv l) TP 17 [u64 h,jD7 l] [] 2 (fun ns=>.tuple #[gsV (qT4 h l (ns.getD 0 0) (ns.getD 1 0)),int (qJx l)]) (fun ns=>[gsE u8C [u8 0] 1 (qT4 h l (ns.getD 0 0) (ns.getD 1 0))]):=by
 by_cases h1:(qA1 (decide (10<l.wn)) true (qLE (unB l.wf) l.wn))=true
 ·have e:=jDl h1
  simp only[e,qTb (show qJx l≠0 by rw[e];decide)]
  have h2:qAt (qFv l) TP 17 [u64 h,jD7 l] [] 0 (fun _=>.tuple #[Value.slice none 0 0,int 2]) (fun _=>[]):=by
   by_cases h10:10<l.wn
   ·exact jDi h l hl h10
   ·rw[qCX,decide_eq_false h10,Bool.false_or] at h1
    obtain⟨i,hi,hb⟩:=qFN.1 h1
    exact jDk h l i hl (by omega) hi hb
  exact h2.toO.as (.refl _) (fun _=>[0,0]) fun ns _=>⟨rfl,rfl,.dn (.zz _),tV⟩
 ·have h1':(qA1 (decide (10<l.wn)) true (qLE (unB l.wf) l.wn))=false:=by simpa using h1
  by_cases h2:twB l.wf l.wn=true
  ·have e:=jCT h1' h2
   simp only[e,qTb (show qJx l≠0 by rw[e];decide)]
   exact(jDC h l hl (qMN h1') h2).toO.as (.refl _) (fun _=>[0,0]) fun ns _=>⟨rfl,rfl,.dn (.zz _),tV⟩
  ·have h2':twB l.wf l.wn=false:=by simpa using h2
   have e:=jAR h1' h2'
   simp only[e,qMB e,jDJ,jC6]
   exact(jCN h l hl (qMN h1') h2').toO
end Go.Proofs.YtmdpendnbkajdaaDoor
end
