/-
  Many in one: LimbByt, EngT, EngZ, EngU, EngV, Purse, LimbBytFns.
-/
import Derived.Test.YtmdpendnbkajdaaDoorZChaseForgets6
import Derived.Deep.Slices
set_option linter.unusedVariables false
set_option linter.unusedSimpArgs false
set_option maxRecDepth 100000
set_option maxHeartbeats 1000000
section
namespace Go.Eng
theorem qO7 {g:UInt64} {b:UInt8} {s:Nat} (hs:s≤56) (hg:g.toNat<2^s):(g|||qAM b.toUInt64 s).toNat=g.toNat+b.toNat*2^s:=by
 have hb:=b.toNat_lt
 have hp:2^s≤2^56:=Nat.pow_le_pow_right (by omega) hs
 have h1:b.toNat*2^s≤255*2^s:=Nat.mul_le_mul_right _ (by omega)
 rw[UInt64.toNat_or,qKy,UInt8.toNat_toUInt64,Nat.mod_eq_of_lt (show b.toNat*2^s<18446744073709551616 by omega),Nat.mul_comm,qVu hg]
def beN (f:Nat→UInt8) (n i:Nat):Nat:=qIH (fun j=>(f (n-1-j)).toNat) i
theorem qXa (f:Nat→UInt8) (n i:Nat):beN f n i<256^i:=qQm fun _ _=>(f _).toNat_lt
theorem qYU (a:N4) (f:Nat→UInt8) (n i:Nat) (hi:i<32) (ha:a.val=beN f n i):
  (a.set (i/8) (a.get (i/8)|||qAM (f (n-1-i)).toUInt64 (i%8*8))).val=beN f n (i+1):=by
 have hj:i/8<4:=by omega
 obtain⟨q,hq⟩:=qSr a (i/8) hj
 have ei:8*i=64*(i/8)+i%8*8:=by omega
 have hlt:a.val<2^(64*(i/8))*2^(i%8*8):=by
  rw[ha,←Nat.pow_add,←ei,←qLw];exact qXa f n i
 have hdiv:a.val/2^(64*(i/8))<2^(i%8*8):=Nat.div_lt_of_lt_mul hlt
 have hg:(a.get (i/8)).toNat<2^(i%8*8):=by omega
 have hs:=a.set_val (i/8) (a.get (i/8)|||qAM (f (n-1-i)).toUInt64 (i%8*8)) hj
 rw[qO7 (by omega) hg,Nat.mul_add] at hs
 have e:2^(64*(i/8))*((f (n-1-i)).toNat*2^(i%8*8))=(f (n-1-i)).toNat*256^i:=by
  rw[qLw,ei,Nat.pow_add,Nat.mul_left_comm]
 rw[e] at hs
 show _=qIH _ (i+1)
 simp only[qIH]
 unfold beN at ha
 omega
def ofN (f:Nat→UInt8) (n:Nat):N4:=match decide (32<n) with
 |true=>⟨0,0,0,0⟩
 |false=>N4.ofNat (beN f n n)
def ofE (n:Nat):Int:=match decide (32<n) with
 |true=>2
 |false=>0
theorem qZG {a:N4} {f:Nat→UInt8} {n:Nat} (ha:a.val=beN f n n):a=N4.ofNat (beN f n n):=N4.eq_ofNat ha
def qAT (a:N4):Nat→UInt8:=fun k=>if k<32 then UInt8.ofNat (dig a.val (31-k)) else 0
theorem qVQ (a:N4) (i:Nat) (hi:i<32):(qAe (a.get (i/8)) (i%8*8)).toUInt8=UInt8.ofNat (dig a.val i):=by
 apply UInt8.toNat_inj.1
 have h:=qVh a i hi
 rw[qXO,Nat.mul_comm] at h
 rw[UInt64.toNat_toUInt8,h,UInt8.toNat_ofNat',Nat.mod_eq_of_lt (qUN _ _)]
theorem qRA {f:Nat→UInt8} {a:N4} {i:Nat} (hi:i<32) (h:∀k,f k=if k<32∧32≤k+i then UInt8.ofNat (dig a.val (31-k)) else 0):
  ∀k,upd f (31-i) (qAe (a.get (i/8)) (i%8*8)).toUInt8 k=if k<32∧32≤k+(i+1) then UInt8.ofNat (dig a.val (31-k)) else 0:=fun k=>by
 unfold upd
 by_cases hk:k=31-i
 ·subst hk
  rw[if_pos rfl,if_pos (show 31-i<32∧32≤31-i+(i+1) by omega),qVQ a i hi,show 31-(31-i)=i by omega]
 ·rw[if_neg hk,h k]
  by_cases h1:k<32∧32≤k+i
  ·rw[if_pos h1,if_pos (show k<32∧32≤k+(i+1) by omega)]
  ·rw[if_neg h1,if_neg (show¬(k<32∧32≤k+(i+1)) by omega)]
theorem qTn {f:Nat→UInt8} {a:N4} {i:Nat} (hi:i=32) (h:∀k,f k=if k<32∧32≤k+i then UInt8.ofNat (dig a.val (31-k)) else 0):f=qAT a:=by
 funext k
 rw[h k,qAT]
 by_cases hk:k<32
 ·rw[if_pos hk,if_pos (show k<32∧32≤k+i by omega)]
 ·rw[if_neg hk,if_neg (show¬(k<32∧32≤k+i) by omega)]
def qCH (f:Nat→UInt8) (n:Nat) (g:Nat→UInt8) (m:Nat):Bool:=decide (n=m∧∀k,k<n→f k=g k)
theorem qQn {f g:Nat→UInt8} {n m:Nat} (h:n≠m):false=qCH f n g m:=(decide_eq_false fun e=>h e.1).symm
theorem qQx {f g:Nat→UInt8} {n m i:Nat} (hi:i<n) (h:f i≠g i):false=qCH f n g m:=(decide_eq_false fun e=>h (e.2 i hi)).symm
theorem qW4 {f g:Nat→UInt8} {n m i:Nat} (hnm:n=m) (hi:i=n) (h:∀k,k<i→f k=g k):true=qCH f n g m:=(decide_eq_true ⟨hnm,fun k hk=>h k (by omega)⟩).symm
theorem qUB {f g:Nat→UInt8} {i:Nat} (h:∀k,k<i→f k=g k) (he:(!(f i==g i))=false):∀k,k<i+1→f k=g k:=fun k hk=>by
 by_cases hki:k=i
 ·subst hki;have:=qAY he;exact beq_iff_eq.1 this
 ·exact h k (by omega)
theorem qTa {f g:Nat→UInt8} {i:Nat} (he:(!(f i==g i))=true):f i≠g i:=fun e=>by rw[e] at he;simp at he
section
variable {P:Program} {t t':TypeId} {x y:Operand} (a b:UInt8)
theorem qZu:qB0 P (.binOp .neq t x y t') [u8 a,u8 b] (.bool (!(a==b))):=qAv qAp (by
 show some (Value.bool (!((a.toNat:Int)==(b.toNat:Int))))=_
 have:((a.toNat:Int)==(b.toNat:Int))=(a==b):=by
  rw[Bool.eq_iff_iff,beq_iff_eq,beq_iff_eq]
  constructor
  ·intro h;exact UInt8.toNat_inj.1 (by omega)
  ·intro h;rw[h]
 rw[this])
end
end Go.Eng
namespace Go.Eng
section bytesin
open Go.ChangeShapes Go.WideShapes Go.ChangeAt Go.RowKit Go.Deep
variable {H:Type} {enc:TypeId×Value→H} {P:Program}
theorem jCU {n:Int} (h:(Lit.int .u8 n).wf=true):∃x:UInt8,Value.int .u8 n=u8 x:=by
 have hx:0≤n∧n≤255:=by simpa[Lit.wf,IntKind.min,IntKind.max,IntKind.signed,IntKind.bits] using h
 refine⟨.ofNat n.toNat,?_⟩
 unfold u8
 rw[UInt8.toNat_ofNat',Nat.mod_eq_of_lt (by omega)]
 congr 1
 omega
theorem qFt {W:World} {a:Addr} {v:Value} (h:W.cell? a=some v):a.block<W.heap.size:=by
 by_cases hlt:a.block<W.heap.size
 ·exact hlt
 ·have:W.heap[a.block]?=none:=by simp;omega
  simp[World.cell?,this] at h
end bytesin
section
open Go.ChangeShapes Go.WideShapes Go.ChangeAt Go.RowKit Go.Deep
variable {H:Type} {enc:TypeId×Value→H} {P:Program}
theorem qOp {α:Type} [Inhabited α] (K:α→List Value) {sz:Nat} (hK:∀a,(K a).length=sz) (hs0:0<sz) {r:Reach} {b0:Nat} {W:World} {base:Nat} {sp:Nat→Bool} {held:Bool} {t e:TypeId} {v:Value} {d:DataW H} {ps:List MemPlace} (ht:P.underlying t=some (.slice e))
  (hc:P.cellsOf e=sz) (hel:∀n cs x,cs.length=sz→DataW.trod enc P W base sp held n e cs=some x→∃a,cs=K a) (hval:Value.okWide P W r b0 t v) (hd:DataW.Trod enc P W base sp held t v d ps):
  (∃ao c,v=.slice ao 0 c)∨∃(b o n c:Nat) (f:Nat→α),v=.slice (some ⟨b,o,none⟩) n c∧0<n∧n≤9223372036854775807∧qAl ⟨b,false,o,.tab n sz fun k=>K (f k)⟩ W:=by
 obtain⟨a1,len,cap,rfl⟩:=okWide_slice ht hval
 obtain⟨fuel,hf⟩:=hd
 by_cases h0:len=0
 ·subst h0;exact .inl ⟨_,_,rfl⟩
 rcases open_slice ht hf with⟨hcs,_⟩|⟨a,len',cap',m,n,D,Pl,hcs,_,hl,hm,hmm,_,hx⟩
 ·simp[Value.cells] at hcs
  exact absurd hcs.2.1 h0
 ·simp[Value.cells] at hcs
  obtain⟨rfl,rfl,rfl⟩:=hcs
  rw[hc] at hx
  have hlm:len≤m:=by rw[hmm];split<;>omega
  have hV:∀i,i<len→∃x:α,∀j,j<sz→W.cell? ((a.add (i*sz)).add j)=(K x)[j]?:=fun i hi=>by
   obtain⟨cs',h1,h2⟩:=hx i (by omega)
   obtain⟨_,hlen,hcell⟩:=World.cells?_some h1
   obtain⟨x,hx⟩:=hel _ _ _ hlen h2
   subst hx
   exact⟨x,hcell⟩
  obtain⟨f,hfV⟩:=choose_lt (α:=α) (p:=fun i x=>∀j,j<sz→W.cell? ((a.add (i*sz)).add j)=(K x)[j]?) hV
  have hfirst:∃u,W.cell? a=some u:=by
   have:=hfV 0 (by omega) 0 hs0
   rw[show(a.add (0*sz)).add 0=a from by cases a;simp[Addr.add]] at this
   rw[this,List.getElem?_eq_getElem (by rw[hK];exact hs0)]
   exact⟨_,rfl⟩
  obtain⟨u0,hu0⟩:=hfirst
  have hspot:a.spot=none:=World.cell?_spot hu0
  obtain⟨ab,ao,spot⟩:=a
  simp only at hspot
  subst hspot
  refine .inr ⟨ab,ao,len,cap,f,rfl,by omega,by unfold maxLen at hm;omega,⟨qFt hu0,fun o v ho=>?_,(fun h=>by cases h),qC9 rfl⟩⟩
  by_cases hol:o<len*sz
  ·simp only[qAI.get,if_pos hol] at ho
   have:=hfV (o/sz) (qDX hol) (o%sz) (Nat.mod_lt _ hs0)
   rw[qBs,qBs,Nat.add_assoc,show o/sz*sz+o%sz=o by rw[Nat.mul_comm];exact Nat.div_add_mod o sz] at this
   rw[this];exact ho
  ·rw[qJP hol] at ho;cases ho
instance:Inhabited N4:=⟨⟨0,0,0,0⟩⟩
end
end Go.Eng
end
section
namespace Go.Eng
open Go.RowKit Go.WideShapes Go.ChangeShapes Go.ChangeAt Go.Deep
theorem qCL.weak {m m1 m2:Nat→Option Blk} {w w':World} (h:qCL m w m1 w')
  (hr:∀p b,m2 p=some b→∃b0,m1 p=some b0∧b0.name=b.name∧b0.own=b.own∧b0.base=b.base∧(b.own=false→b0=b)∧(b0=b∨b.cont.isMap=false∧b0.cont.isMap=false∧∀o v,b.cont.get o=some v→b0.cont.get o=some v)):qCL m w m2 w':=by
 have hsm:∀b0 b:Blk,b0.name=b.name→(b0=b∨b.cont.isMap=false∧b0.cont.isMap=false∧∀o v,b.cont.get o=some v→b0.cont.get o=some v)→∀k,b.has k→b0.has k:=fun b0 b hn hz k hk=>by
  rcases hz with rfl|⟨h1,h2,_⟩
  ·exact hk
  ·exact(qBk h2).2 (hn.trans ((qBk h1).1 hk))
 refine⟨fun p b hp=>?_,fun p q b c hpq hb hc ho=>?_,⟨h.adv.os,h.adv.output,h.adv.tape,h.adv.size,h.adv.heap,fun j hj=>?_,fun p b hp ho=>?_⟩⟩
 ·obtain⟨b0,h0,h1,h2,h3,_,rfl|⟨h6,_,h4⟩⟩:=hr p b hp
  ·exact h.holds p _ h0
  have hh:=(h.holds p b0 h0).recont h6 h4
  obtain⟨n0,o0,s0,c0⟩:=b0
  obtain⟨n1,o1,s1,c1⟩:=b
  simp only at h1 h2 h3;subst h1 h2 h3;exact hh
 ·obtain⟨b0,h0,h1,h2,h3⟩:=hr p b hb
  obtain⟨c0,k0,k1,k2,k3⟩:=hr q c hc
  exact fun k l1 l2=>h.apart p q b0 c0 hpq h0 k0 (h2.trans ho) k (hsm b0 b h1 h3.2.2 k l1) (hsm c0 c k1 k3.2.2 k l2)
 ·obtain⟨p,b,hp,ho,hjk⟩:=hj
  obtain⟨b0,h0,h1,h2,h3⟩:=hr p b hp
  exact h.adv.names _ ⟨p,b0,h0,h2.trans ho,hsm b0 b h1 h3.2.2 _ hjk⟩
 ·obtain⟨b0,h0,_,_,_,h5,_⟩:=hr p b hp
  rw[←h5 ho];exact h.adv.ro p b0 h0 (by rw[h5 ho];exact ho)
theorem qBp.weak {P:Program} {f:FuncId} {args:List Value} {bs:List Blk} {k:Nat} {v:List Nat→Value} {out out':List Nat→List (Option Blk)} (h:qBp P f args bs k v out)
  (hr:∀ns p b,lM (out' ns) p=some b→∃b0,lM (out ns) p=some b0∧b0.name=b.name∧b0.own=b.own∧b0.base=b.base∧(b.own=false→b0=b)∧(b0=b∨b.cont.isMap=false∧b0.cont.isMap=false∧∀o v,b.cont.get o=some v→b0.cont.get o=some v)):
  qBp P f args bs k v out':=fun w hb ha=>Calls.mono (h w hb ha) fun _ _ ⟨ns,h1,h2,h3⟩=>⟨ns,h1,h2,h3.weak (hr ns)⟩
section bytesin
variable {H:Type} {enc:TypeId×Value→H} {P:Program}
end bytesin
def qBc (x:UInt64):N4:=⟨x,0,0,0⟩
def qBm (f:Nat→UInt64):Nat→N4
 |0=>⟨0,0,0,0⟩
 |k+1=>qSI (qBm f k) (qBc (f k))
def qGa (n:Nat) (f:Nat→UInt64):Prop:=n≤40∧qEe (qBm f n)≤63
def qMX (n:Nat) (f:Nat→UInt64):Int:=if 40<n then 2 else 10
def qRF (f:Nat→UInt64):Nat→Nat
 |0=>0
 |k+1=>qRF f k+(f k).toNat
theorem qGP (x:UInt64):(qBc x).val=x.toNat:=by unfold qBc N4.val;simp
theorem qTz (f:Nat→UInt64):∀n,qRF f n≤n*2^64
 |0=>Nat.le_refl _
 |k+1=>by have:=qTz f k;have:=(f k).toNat_lt;simp only[qRF];omega
theorem qQI (f:Nat→UInt64):∀n,n≤9223372036854775807→(qBm f n).val=qRF f n
 |0,_=>rfl
 |k+1,h=>by
  have h1:=qQI f k (by omega)
  have h2:=qWZ (qBm f k) (qBc (f k))
  have h3:=qTz f k
  have h4:=(f k).toNat_lt
  rw[h1,qGP] at h2
  show(qSI (qBm f k) (qBc (f k))).val=qRF f k+(f k).toNat
  have h5:k*2^64≤9223372036854775807*2^64:=Nat.mul_le_mul_right _ (by omega)
  cases h6:qRm (qBm f k) (qBc (f k)) with
  |false=>rw[h6] at h2;simpa using h2
  |true=>rw[h6] at h2;simp at h2;omega
theorem qIs {n:Nat} {f:Nat→UInt64}:qGa n f↔n≤40∧qRF f n<2^63:=by
 unfold qGa
 refine and_congr_right fun h=>?_
 rw[qIe,qQI f n (by omega)]
 constructor
 ·intro h1
  have h2:=qHT (qRF f n)
  exact Nat.lt_of_lt_of_le h2 (Nat.pow_le_pow_right (by decide) h1)
 ·exact qBG
end Go.Eng
end
section
namespace Go.Proofs.YtmdpendnbkajdaaDoor
open Go Go.Eng
abbrev jAh (a:Nat→UInt8) (b c:Nat):=qAM ((a ((b-1)-c)).toUInt64) ((c%8)*8)
abbrev jAy (a:N4) (b:Nat):=qAe (a.get (b/8)) ((b%8)*8)
theorem qIu:qRZ TP 5 (u8 0) 1:=qOq (by kernel_rfl) rfl
def qFT (a:N4) (n1:Nat) (n2:Nat) (x1:Nat×(Nat→UInt8)):St:=⟨[(1,.v (ptr n1 0)),(3,.v (vS (some ⟨n2,0,none⟩) 32 32)),(6,.v (nat x1.1))],[(0,some ⟨n1,true,0,(qRQ a)⟩),(1,some ⟨n2,true,0,(qAd 32 (fun k=>u8 (x1.2 k)))⟩)],2⟩
def qCZ (a:N4) (n1:Nat) (n2:Nat) (x1:Nat×(Nat→UInt8)):Prop:=(x1.1≤32)∧(∀k,x1.2 k=if k<32∧32≤k+x1.1 then UInt8.ofNat (dig a.val (31-k)) else 0)
def qDt (a:N4) (n1:Nat) (n2:Nat) (x1:Nat×(Nat→UInt8)):Nat:=32-x1.1
theorem qQ2 (a:N4):qBp TP 72 [(qG7 a)] [] 1 (fun(ns:List Nat)=>(Value.slice (some ⟨(ns.getD 0 0),0,none⟩) 32 32)) (fun(ns:List Nat)=>[some ⟨(ns.getD 0 0),true,0,(qAd 32 (fun k=>u8 (qAT a k)))⟩]):=
 qAh mix Tryd.func72 rfl rfl 400 (.regn (rg [.new,.g]) (more (fun n1=>fun _=>(.regn (rg [(.oth [] 1 1 (fun ns=>vS (some ⟨ns.getD 0 0,0,none⟩) 32 32) (fun ns=>[some ⟨ns.getD 0 0,true,0,(qAd 32 (fun k=>u8 ((fun _=>0) k)))⟩])),.g]) (more (fun n2=>fun _=>(.reg (rg [.g]) (.cast 0 (qRQ a) (.inv [1,3,6] [0,1] 2 (qCZ a n1 n2) (qFT a n1 n2) (qDt a n1 n2) ((0,(fun _=>0)):Nat×(Nat→UInt8)) (fun(x1:Nat×(Nat→UInt8))=>(.reg (rg [(.as (vB (decide (x1.1<32))))]) (.br (.reg (rg [.g,.g]) (.reg (rg [.g,.g,(.as (nat (31-x1.1))),.g,(.as (nat (x1.1/8))),(.as (ptr n1 (0+(x1.1/8)*1))),(.ld 0 (.tab (x1.1/8) 0)),.g,(.as (nat (x1.1%8))),(.as (nat ((x1.1%8)*8))),(.as (u64 (jAy a x1.1))),(.as (u8 ((jAy a x1.1).toUInt8))),(.as (ptr n2 (0+(31-x1.1)*1))),(.stc 1 (.tab (31-x1.1) 0) (qAd 32 (fun k=>u8 (upd x1.2 (31-x1.1) ((jAy a x1.1).toUInt8) k))))]) (.reg (rg [(.as (nat (x1.1+1))),.g]) .done))) (.reg (rg [.g,.g]) .done))))))))))))) [] [1] rfl
  (Eq.mp (by kernel_rfl) (fun(n1:Nat)=>aI kV2 (fun(n2:Nat)=>aI (aI (aT (qZm (P:=TP) (t:=23) (e:=5) (by kernel_rfl) qIu 32 (show(1:Int)*((32:Nat):Int)≤281474976710656∧32≤9223372036854775807 from by omega))) kV1) (aI kV1 (aI (qTT a) (aI (show(qCZ a n1 n2) ((0,(fun _=>0)):Nat×(Nat→UInt8)) from(show(0≤32)∧(∀k,(fun _=>0) k=if k<32∧32≤k+0 then UInt8.ofNat (dig a.val (31-k)) else 0) from by exact⟨by omega,fun k=>by rw[if_neg (by omega)]⟩)) (aI (@rfl St ((qFT a n1 n2) ((0,(fun _=>0)):Nat×(Nat→UInt8)))) (fun(x1:Nat×(Nat→UInt8)) (hx1:(qCZ a n1 n2) x1)=>have B0:x1.1≤32:=hx1.1;have B1:∀k,x1.2 k=if k<32∧32≤k+x1.1 then UInt8.ofNat (dig a.val (31-k)) else 0:=hx1.2;aI (aI (aT (@qAN TP 3 3 (.tmp 6) (.const (.int .i64 32))  x1.1 32)) tV) (aT (aI (fun(h1:(decide (x1.1<32))=true)=>have f2:=(oT h1);aI kV2 (aI (sK2 (aI (aT (@qAH TP 3 3 (.const (.int .i64 31)) (.tmp 10)  31 x1.1 (show x1.1≤31∧31-x1.1≤9223372036854775807 from by omega))) (sk (aI (aT (@qC2 TP 3 3 (.tmp 12) (.const (.int .i64 8))  x1.1 8 (show 0<8∧x1.1≤9223372036854775807 from by omega))) (aI (aT (@qBx TP 72 30 (.tmp 1) (.tmp 13) 1 4 (by kernel_rfl) (by kernel_rfl) n1 0 (x1.1/8) (show x1.1/8<4 from by omega))) (aI (aT (aI (show x1.1/8<4 from by omega) (@rfl Value (ptr n1 (0+(x1.1/8)*1))))) (sk (aI (aT (@qOl TP 3 3 (.tmp 16) (.const (.int .i64 8))  x1.1 8 (show 0<8 from by omega))) (aI (aT (@qFD TP 3 3 (.tmp 17) (.const (.int .i64 8))  (x1.1%8) 8 (show(x1.1%8)*8≤9223372036854775807 from by omega))) (aI (aT (@qBq TP 30 3 (.tmp 15) (.tmp 18) (a.get (x1.1/8)) .i64 ((x1.1%8)*8))) (aI (aT (@qBn TP 30 5 (.tmp 19) (by kernel_rfl) (by kernel_rfl) (jAy a x1.1))) (aI (aT (@qAf TP 23 5 (.tmp 9) (.tmp 11) 1 (by kernel_rfl) (by kernel_rfl) n2 0 32 32 (31-x1.1) (show 31-x1.1<32 from by omega))) (aI (aT (aI (show 31-x1.1<32 from by omega) (aI (@rfl Value (ptr n2 (0+(31-x1.1)*1))) (qDW 32 u8 x1.2 (31-x1.1) ((jAy a x1.1).toUInt8))))) tV))))))))))))) (aI (aI (aT (@qAg TP 3 3 (.tmp 6) (.const (.int .i64 1))  x1.1 1 (show x1.1+1≤9223372036854775807 from by omega))) kV1) ((rnd (qCZ a n1 n2) (qFT a n1 n2) (qDt a n1 n2) x1 ((x1.1+1,upd x1.2 (31-x1.1) ((jAy a x1.1).toUInt8)):Nat×(Nat→UInt8)) (show(qCZ a n1 n2) ((x1.1+1,upd x1.2 (31-x1.1) ((qAe (a.get (x1.1/8)) ((x1.1%8)*8)).toUInt8)):Nat×(Nat→UInt8))∧(qDt a n1 n2) ((x1.1+1,upd x1.2 (31-x1.1) ((qAe (a.get (x1.1/8)) ((x1.1%8)*8)).toUInt8)):Nat×(Nat→UInt8))<(qDt a n1 n2) x1 from(show(((x1.1+1)≤32)∧(∀k,(upd x1.2 (31-x1.1) ((qAe (a.get (x1.1/8)) ((x1.1%8)*8)).toUInt8)) k=if k<32∧32≤k+(x1.1+1) then UInt8.ofNat (dig a.val (31-k)) else 0))∧(32-(x1.1+1))<(32-x1.1) from by exact⟨⟨by omega,qRA (by omega) B1⟩,by omega⟩))))))) (fun(h1:(decide (x1.1<32))=false)=>have f2:=(oF h1);aI kV2 (aT (eX (fun(ns:List Nat)=>ns.length=1∧((vS (some ⟨n2,0,none⟩) 32 32):Value)=(fun(ns:List Nat)=>(vS (some ⟨(g0 ns),0,none⟩) 32 32)) ns∧([some ⟨n2,true,0,(qAd 32 (fun k=>u8 (x1.2 k)))⟩]:List (Option Blk))=(fun(ns:List Nat)=>[some ⟨(g0 ns),true,0,(qAd 32 (fun k=>u8 (qAT a k)))⟩]) ns) [n2] (aI (@rfl Nat 1) (aI (@rfl Value (vS (some ⟨n2,0,none⟩) 32 32)) ((show([some ⟨n2,true,0,(qAd 32 (fun k=>u8 (x1.2 k)))⟩]:List (Option Blk))=[some ⟨n2,true,0,(qAd 32 (fun k=>u8 (qAT a k)))⟩] from by have e:x1.2=qAT a:=qTn (by omega) B1;rw[e]<;>rfl)))))))))))))))))
def qIQ (b:Nat) (o:Nat) (n:Nat) (c:Nat) (f:Nat→UInt8) (n1:Nat) (n2:Nat) (x1:Nat×N4):St:=⟨[(0,.v (vS (some ⟨b,o,none⟩) n c)),(2,.v (ptr n1 0)),(4,.v (ptr n2 0)),(11,.v (nat n)),(12,.v (nat x1.1))],[(0,some ⟨b,false,o,(qAd n (fun k=>u8 (f k)))⟩),(1,some ⟨n1,true,0,(.lit [(u64 0),(u64 0),(u64 0),(u64 0)])⟩),(2,some ⟨n2,true,0,(qRQ x1.2)⟩)],3⟩
def qE1 (b:Nat) (o:Nat) (n:Nat) (c:Nat) (f:Nat→UInt8) (n1:Nat) (n2:Nat) (x1:Nat×N4):Prop:=(x1.1≤n)∧((x1.2).val=beN f n x1.1)
def qFC (b:Nat) (o:Nat) (n:Nat) (c:Nat) (f:Nat→UInt8) (n1:Nat) (n2:Nat) (x1:Nat×N4):Nat:=n-x1.1
theorem qX0 (b o n c:Nat) (f:Nat→UInt8) (hn:n≤9223372036854775807):qBp TP 69 [(Value.slice (some ⟨b,o,none⟩) n c)] [⟨b,false,o,(qAd n (fun k=>u8 (f k)))⟩] 0 (fun _=>Value.tuple #[qG7 (ofN f n),int (ofE n)]) (fun _=>[some ⟨b,false,o,(qAd n (fun k=>u8 (f k)))⟩]):=
 qAh mix Tryd.func69 rfl rfl 400 (.regn (rg [.new,.g]) (more (fun n1=>fun _=>(.reg (rg [.g,(.as (nat n)),(.as (vB (decide (32<n))))]) (.br (.reg (rg [.g,(.st 1 (.lit 0)),.g]) .done) (.regn (rg [.new]) (more (fun n2=>fun _=>(.reg (rg [.g,(.as (nat n)),.g]) (.cast 2 (qRQ (N4.mk 0 0 0 0)) (.inv [0,2,4,11,12] [0,1,2] 3 (qE1 b o n c f n1 n2) (qIQ b o n c f n1 n2) (qFC b o n c f n1 n2) ((0,(N4.mk 0 0 0 0)):Nat×N4) (fun(x1:Nat×N4)=>(.reg (rg [(.as (vB (decide (x1.1<n))))]) (.br (.reg (rg [.g,.g]) (.reg (rg [.g,(.as (nat (x1.1/8))),(.as (ptr n2 (0+(x1.1/8)*1))),(.ld 2 (.tab (x1.1/8) 0)),.g,.g,(.as (nat n)),(.as (nat (n-1))),.g,(.as (nat ((n-1)-x1.1))),(.as (ptr b (o+((n-1)-x1.1)*1))),(.ld 0 (.tab ((n-1)-x1.1) 0)),(.as (u64 ((f ((n-1)-x1.1)).toUInt64))),.g,(.as (nat (x1.1%8))),(.as (nat ((x1.1%8)*8))),(.as (u64 (jAh f n x1.1))),(.as (u64 ((x1.2.get (x1.1/8))|||(jAh f n x1.1)))),(.as (ptr n2 (0+(x1.1/8)*1))),(.stc 2 (.tab (x1.1/8) 0) (qRQ (x1.2.set (x1.1/8) ((x1.2.get (x1.1/8))|||(jAh f n x1.1)))))]) (.reg (rg [(.as (nat (x1.1+1))),.g]) .done))) (.cast 2 (jA8 x1.2) (.reg (rg [(.ld 2 (.lit 0)),(.st 1 (.lit 0)),.g]) .done)))))))))))))))) [(1,0)] [] rfl
  (Eq.mp (by kernel_rfl) (fun(n1:Nat)=>aI kV2 (aI (sk (aI (aT (@qAw TP 23 5 (.tmp 6) (by kernel_rfl) (some ⟨b,o,none⟩) n c)) (aI (aT (@qA5 TP 3 3 (.tmp 7) (.const (.int .i64 32))  n 32)) tV))) (aT (aI (fun(h1:(decide (32<n))=true)=>have f1:=(oT h1);aI (sk (aI (aT (ad n1 0)) kV1)) (aI (aI (@rfl Value (ptr n1 0)) tV) (eX (fun(ns:List Nat)=>ns.length=0∧((vT #[(Value.agg #[(u64 0),(u64 0),(u64 0),(u64 0)]),(int 2)]):Value)=(fun _=>vT #[qG7 (ofN f n),int (ofE n)]) ns∧([some ⟨b,false,o,(qAd n (fun k=>u8 (f k)))⟩]:List (Option Blk))=(fun _=>[some ⟨b,false,o,(qAd n (fun k=>u8 (f k)))⟩]) ns) [] (aI (@rfl Nat 0) (aI ((show(vT #[(Value.agg #[(u64 0),(u64 0),(u64 0),(u64 0)]),(int 2)])=vT #[qG7 (ofN f n),int (ofE n)] from by rw[ofN,ofE,h1]<;>rfl)) (@rfl (List (Option Blk)) [some ⟨b,false,o,(qAd n (fun k=>u8 (f k)))⟩])))))) (fun(h1:(decide (32<n))=false)=>have f1:=(oF h1);fun(n2:Nat)=>aI kV1 (aI (sk (aI (aT (@qAw TP 23 5 (.tmp 10) (by kernel_rfl) (some ⟨b,o,none⟩) n c)) kV1)) (aI (qTT (N4.mk 0 0 0 0)) (aI (show(qE1 b o n c f n1 n2) ((0,(N4.mk 0 0 0 0)):Nat×N4) from(show(0≤n)∧(((N4.mk 0 0 0 0)).val=beN f n 0) from by exact⟨by omega,rfl⟩)) (aI (@rfl St ((qIQ b o n c f n1 n2) ((0,(N4.mk 0 0 0 0)):Nat×N4))) (fun(x1:Nat×N4) (hx1:(qE1 b o n c f n1 n2) x1)=>have B0:x1.1≤n:=hx1.1;have B1:(x1.2).val=beN f n x1.1:=hx1.2;aI (aI (aT (@qAN TP 3 3 (.tmp 12) (.tmp 11)  x1.1 n)) tV) (aT (aI (fun(h2:(decide (x1.1<n))=true)=>have f4:=(oT h2);aI kV2 (aI (sk (aI (aT (@qC2 TP 3 3 (.tmp 15) (.const (.int .i64 8))  x1.1 8 (show 0<8∧x1.1≤9223372036854775807 from by omega))) (aI (aT (@qBx TP 72 30 (.tmp 4) (.tmp 16) 1 4 (by kernel_rfl) (by kernel_rfl) n2 0 (x1.1/8) (show x1.1/8<4 from by omega))) (aI (aT (aI (show x1.1/8<4 from by omega) (@rfl Value (ptr n2 (0+(x1.1/8)*1))))) (sK2 (aI (aT (@qAw TP 23 5 (.tmp 20) (by kernel_rfl) (some ⟨b,o,none⟩) n c)) (aI (aT (@qAH TP 3 3 (.tmp 21) (.const (.int .i64 1))  n 1 (show 1≤n∧n-1≤9223372036854775807 from by omega))) (sk (aI (aT (@qAH TP 3 3 (.tmp 22) (.tmp 23)  (n-1) x1.1 (show x1.1≤(n-1)∧(n-1)-x1.1≤9223372036854775807 from by omega))) (aI (aT (@qAf TP 23 5 (.tmp 19) (.tmp 24) 1 (by kernel_rfl) (by kernel_rfl) b o n c ((n-1)-x1.1) (show(n-1)-x1.1<n from by omega))) (aI (aT (aI (show(n-1)-x1.1<n from by omega) (@rfl Value (ptr b (o+((n-1)-x1.1)*1))))) (aI (aT (@qO2 TP 5 30 (.tmp 26) (by kernel_rfl) (by kernel_rfl) (f ((n-1)-x1.1)))) (sk (aI (aT (@qOl TP 3 3 (.tmp 28) (.const (.int .i64 8))  x1.1 8 (show 0<8 from by omega))) (aI (aT (@qFD TP 3 3 (.tmp 29) (.const (.int .i64 8))  (x1.1%8) 8 (show(x1.1%8)*8≤9223372036854775807 from by omega))) (aI (aT (@qJJ TP 30 3 (.tmp 27) (.tmp 30) ((f ((n-1)-x1.1)).toUInt64) .i64 ((x1.1%8)*8))) (aI (aT (@qY0 TP 30 30 (.tmp 18) (.tmp 31) (x1.2.get (x1.1/8)) (jAh f n x1.1))) (aI (aT (@qBx TP 72 30 (.tmp 4) (.tmp 16) 1 4 (by kernel_rfl) (by kernel_rfl) n2 0 (x1.1/8) (show x1.1/8<4 from by omega))) (aI (aT (aI (show x1.1/8<4 from by omega) (aI (@rfl Value (ptr n2 (0+(x1.1/8)*1))) (qRG x1.2 (x1.1/8) ((x1.2.get (x1.1/8))|||(jAh f n x1.1)) (show x1.1/8<4 from by omega))))) tV))))))))))))))))))) (aI (aI (aT (@qAg TP 3 3 (.tmp 12) (.const (.int .i64 1))  x1.1 1 (show x1.1+1≤9223372036854775807 from by omega))) kV1) ((rnd (qE1 b o n c f n1 n2) (qIQ b o n c f n1 n2) (qFC b o n c f n1 n2) x1 ((x1.1+1,x1.2.set (x1.1/8) ((x1.2.get (x1.1/8))|||(jAh f n x1.1))):Nat×N4) (show(qE1 b o n c f n1 n2) ((x1.1+1,x1.2.set (x1.1/8) ((x1.2.get (x1.1/8))|||(qAM ((f ((n-1)-x1.1)).toUInt64) ((x1.1%8)*8)))):Nat×N4)∧(qFC b o n c f n1 n2) ((x1.1+1,x1.2.set (x1.1/8) ((x1.2.get (x1.1/8))|||(qAM ((f ((n-1)-x1.1)).toUInt64) ((x1.1%8)*8)))):Nat×N4)<(qFC b o n c f n1 n2) x1 from(show(((x1.1+1)≤n)∧(((x1.2.set (x1.1/8) ((x1.2.get (x1.1/8))|||(qAM ((f ((n-1)-x1.1)).toUInt64) ((x1.1%8)*8))))).val=beN f n (x1.1+1)))∧(n-(x1.1+1))<(n-x1.1) from by exact⟨⟨by omega,qYU x1.2 f n x1.1 (by omega) B1⟩,by omega⟩))))))) (fun(h2:(decide (x1.1<n))=false)=>have f4:=(oF h2);aI (qYo x1.2) (aI (aI (aT (ad n2 0)) (aI (aT (ad n1 0)) kV1)) (aI (aI (@rfl Value (ptr n1 0)) tV) (eX (fun(ns:List Nat)=>ns.length=0∧((vT #[(qG7 x1.2),(int 0)]):Value)=(fun _=>vT #[qG7 (ofN f n),int (ofE n)]) ns∧([some ⟨b,false,o,(qAd n (fun k=>u8 (f k)))⟩]:List (Option Blk))=(fun _=>[some ⟨b,false,o,(qAd n (fun k=>u8 (f k)))⟩]) ns) [] (aI (@rfl Nat 0) (aI ((show(vT #[(qG7 x1.2),(int 0)])=vT #[qG7 (ofN f n),int (ofE n)] from by have e:x1.1=n:=(by omega);rw[e] at B1;rw[ofN,ofE,h1];simp only[];rw[←qZG B1]<;>rfl)) (@rfl (List (Option Blk)) [some ⟨b,false,o,(qAd n (fun k=>u8 (f k)))⟩]))))))))))))))))))))
theorem jAH (ao:Option Addr) (c:Nat):qEs TP 69 [(Value.slice ao 0 c)] (Value.tuple #[qG7 ⟨0,0,0,0⟩,int 0]):=
 qAj mix Tryd.func69 rfl rfl 400 (.regn (rg [.new,.g]) (more (fun n1=>fun _=>(.reg (rg [.g,(.as (int 0)),.g]) (.no (.regn (rg [.new]) (more (fun n2=>fun _=>(.reg (rg [.g,(.as (int 0)),.g]) (.unroll (.reg (rg [.g]) (.no (.reg (rg [(.ld 1 (.lit 0)),(.st 0 (.lit 0)),.g]) .done))))))))))))) [(0,0)]
  (Eq.mp (by kernel_rfl) (fun(n1:Nat)=>aI kV2 (aI (sk (aI (aT (@qAw TP 23 5 (.tmp 6) (by kernel_rfl) ao 0 c)) kV1)) (aT (aI (@rfl Bool false) (fun(n2:Nat)=>aI kV1 (aI (sk (aI (aT (@qAw TP 23 5 (.tmp 10) (by kernel_rfl) ao 0 c)) kV1)) (aI kV1 (aT (aI (@rfl Bool false) (aI (aI (aT (ad n2 0)) (aI (aT (ad n1 0)) kV1)) (aI (aI (@rfl Value (ptr n1 0)) tV) ((show(vT #[(Value.agg #[(u64 0),(u64 0),(u64 0),(u64 0)]),(int 0)])=vT #[qG7 ⟨0,0,0,0⟩,int 0] from by kernel_rfl))))))))))))))
end Go.Proofs.YtmdpendnbkajdaaDoor
end
