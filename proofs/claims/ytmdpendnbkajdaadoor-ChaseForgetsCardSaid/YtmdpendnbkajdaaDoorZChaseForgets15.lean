/-
  Many in one: EngRf, VotGa, VotFn, VotVo.
-/
import Derived.Test.YtmdpendnbkajdaaDoorZChaseForgets14
import Derived.Below
import Derived.RangeFuncFrom
set_option linter.unusedSectionVars false
set_option linter.unusedVariables false
set_option linter.unusedSimpArgs false
set_option maxRecDepth 100000
set_option maxHeartbeats 1000000
section
namespace Go.Eng
variable {ds:Nat}
def jAo (nt:Nat) (env:Nat→Option EV) (tm:Array Value):Prop:=tm.size=nt∧∀t e,env t=some e→tm[t]?=some e.den
def yv (l:Nat):Value:=.func (.yield l) #[] #[]
def qGb (st:LoopState) (pe:Option Code) (fn:FuncId) (tm:Array Value) (ps:Array Tmp) (asg bd:Code) (D:Nat):Loop:=
 {state:=st,pending:=pe,fn,tmps:=tm,params:=ps,assign:=asg,body:=bd,defers:=D}
def stL (pe:Option Code):LoopState:=match pe with|none=>.ready|some _=>.done
def qD4 (l:Nat) (L:Loop):Blk:=⟨l,true,0,.map (.o (.loop L)) 0⟩
theorem qLe {l:Nat} {L:Loop} {w:World} (h:w.heap[l]?=some (.loop L)):qAl (qD4 l L) w:=
 ⟨(Array.getElem?_eq_some_iff.1 h).1,(fun o v ho=>by cases ho),(fun _ o v ho=>by cases ho),h⟩
def shB (x:Option Blk) (m:Nat→Option Blk):Nat→Option Blk
 |0=>x
 |p+1=>m p
def shP (ps:List (Nat×Bool)):List (Nat×Bool):=ps.map fun x=>(x.1+1,x.2)
theorem qP2 (x:Option Blk) (m:Nat→Option Blk):∀ps:List (Nat×Bool),qB1 (shB x m) (shP ps)=qB1 m ps
 |[]=>rfl
 |(p,ro)::r=>by
  show _ ::qB1 (shB x m) (shP r)=_ ::qB1 m r
  rw[qP2 x m r];rfl
theorem qMj:∀(ps:List (Nat×Bool)) (nx:Nat) (out:List (Option Blk)) (p:Nat),look (qAx (shP ps) (nx+1) out) (p+1)=look (qAx ps nx out) p
 |[],nx,[],p=>rfl
 |[],nx,b::out,p=>by
  show look ((nx+1,b)::qAx [] (nx+1+1) out) (p+1)=look ((nx,b)::qAx [] (nx+1) out) p
  rw[qAq,qAq]
  have:=qMj [] (nx+1) out p
  by_cases h:nx=p
  ·rw[if_pos h,if_pos (by omega)]
  ·rw[if_neg h,if_neg (by omega)];exact this
 |(q,ro)::r,nx,[],p=>rfl
 |(q,true)::r,nx,b::out,p=>qMj r nx out p
 |(q,false)::r,nx,b::out,p=>by
  show look ((q+1,b)::qAx (shP r) (nx+1) out) (p+1)=look ((q,b)::qAx r nx out) p
  rw[qAq,qAq]
  by_cases h:q=p
  ·rw[if_pos h,if_pos (by omega)]
  ·rw[if_neg h,if_neg (by omega)];exact qMj r nx out p
theorem qUY (x x':Option Blk) (m:Nat→Option Blk) (ps:List (Nat×Bool)) (nx:Nat) (out:List (Option Blk)):
  qAD (shB x m) (qAx ((0,false)::shP ps) (nx+1) (x'::out))=shB x' (qAD m (qAx ps nx out)):=by
 funext p
 show(match look ((0,x')::qAx (shP ps) (nx+1) out) p with|some ob=>ob|none=>shB x m p)=_
 rw[qAq]
 cases p with
 |zero=>rfl
 |succ p=>
  rw[if_neg (by omega),qMj]
  rfl
theorem qUF (l r:List (Nat×Option Blk)):qB3 (l++r)=qAD (qB3 r) l:=by
 funext p
 unfold qB3 qAD
 induction l with
 |nil=>rfl
 |cons x l ih=>
  obtain⟨q,b⟩:=x
  simp only[List.cons_append,qAq]
  by_cases h:q=p
  ·simp[h]
  ·simp only[h,if_false];exact ih
theorem qMs {x:Option Blk} {m:Nat→Option Blk} {k:Nat} (h:qDc (shB x m) k):(∃b,x=some b∧b.own=true∧b.has k)∨qDc m k:=by
 obtain⟨p,b,h1,h2,h3⟩:=h
 cases p with
 |zero=>exact .inl ⟨b,h1,h2,h3⟩
 |succ p=>exact .inr ⟨p,b,h1,h2,h3⟩
theorem qMh {F:Blk→Prop} {P:Program} {nt:Nat} {g:Operand} {ps:Array Tmp} {asg bd:Code} {s:St} {gf:Nat} {caps:List Value} {psl:List (Nat×Bool)} {k:Nat} {v:List Nat→Value}
  {out:List Nat→List (Option Blk)} {pe:Option Code} {E:Exit} (hg:qEW s.fs.env g=some (.v (.func (.func gf) #[] caps.toArray))) (eg:∀args w,(callFunc gf args).run P w=.ok (.enter gf args) w)
  (hn:qBg psl=true) (hlen:∀ns,ns.length=k→psl.length≤(out ns).length) (hpe:pe=none∧E=.normal∨pe=some .ret∧E=.ret∨∃id,pe=some (.exit id)∧E=.exit id) (nb:Nat)
  (hc:∀l D fn tm,jAo nt s.fs.env tm→qAb F P gf (yv l::caps) (some (qD4 l (qGb .ready none fn tm ps asg bd D))::qB1 s.fs.mem psl) k v
   (fun ns=>some (qD4 l (qGb (stL pe) pe fn tm ps asg bd D))::out ns)):
  jAg F ds P nt (.rangeFunc g ps asg bd) s (fun e s'=>∃ns:List Nat,ns.length=k∧e=E∧s'=⟨s.env,qAx psl s.nx (out ns)++s.mem,s.nx+nb⟩):=by
 intro a w hs hF
 refine(wpIn_wide (n:=1)).1 (wpIn_rangeFunc (F:=Fence.wide) (n:=1) ?_)
 intro fn _
 obtain⟨l,hl⟩:∃l,l=w.heap.size+1:=⟨_,rfl⟩
 obtain⟨W1,hW1⟩:∃W1,(w.alloc (.deferred (some []))).alloc (.loop (qGb .ready none fn a.tmps ps asg bd w.heap.size))=W1:=⟨_,rfl⟩
 have hL1:W1.heap[l]?=some (.loop (qGb .ready none fn a.tmps ps asg bd w.heap.size)):=by
  rw[←hW1,hl];have:=World.alloc_heap_new (w.alloc (.deferred (some []))) (.loop (qGb .ready none fn a.tmps ps asg bd w.heap.size));rwa[World.size_alloc] at this
 have hK1:W1.heap[w.heap.size]?=some (.deferred (some [])):=by
  rw[←hW1];exact(Go.RowKit.Below.heap_alloc _ _ _ (by simp)).trans (World.alloc_heap_new w _)
 have hsz:W1.heap.size=w.heap.size+2:=by rw[←hW1];simp
 have hold:∀q,q<w.heap.size→W1.heap[q]?=w.heap[q]?:=fun q hq=>by
  rw[←hW1];exact(Go.RowKit.Below.heap_alloc _ _ _ (by simp;omega)).trans (Go.RowKit.Below.heap_alloc _ _ _ hq)
 have hev:a.eval g=.func (.func gf) #[] caps.toArray:=qFw hs hg
 refine⟨l,[{target:=.collected w.heap.size,args:=#[]}],W1,{target:=.fn (.func gf) caps.toArray,args:=#[.func (.yield l) #[] #[]]},W1,gf,
  #[.func (.yield l) #[] #[]]++caps.toArray,W1,?_,?_,fun _ _=>trivial,?_,fun _=>Nat.le_refl _,?_⟩
 ·rw[←hW1,hl];exact run_enterLoop_outer _ _ _ _ _
 ·simp only[resolve,hev]
  simp[go_sem]
 ·simp[invoke,go_sem,eg]
 have hm1:∀p b,shB (some (qD4 l (qGb .ready none fn a.tmps ps asg bd w.heap.size))) s.fs.mem p=some b→qAl b W1:=fun p b hb=>by
  cases p with
  |zero=>injection hb with hb;subst hb;exact qLe hL1
  |succ p=>have:=hs.mem p b hb;exact this.of_heap (by omega) fun k hk=>hold _ (this.has_lt hk)
 have ha1:qCs (shB (some (qD4 l (qGb .ready none fn a.tmps ps asg bd w.heap.size))) s.fs.mem):=fun p q b c hpq hb hc ho=>by
  cases p with
  |zero=>
   cases q with
   |zero=>exact absurd rfl hpq
   |succ q=>injection hb with hb;subst hb;intro k k1 k2;have:=(hs.mem q c hc).has_lt k2;have:l=k:=k1;omega
  |succ p=>
   cases q with
   |zero=>injection hc with hc;subst hc;intro k k1 k2;have:=(hs.mem p b hb).has_lt k1;have:l=k:=k2;omega
   |succ q=>exact hs.apart p q b c (by omega) hb hc ho
 have hF1:Fam F (shB (some (qD4 l (qGb .ready none fn a.tmps ps asg bd w.heap.size))) s.fs.mem) W1:=fun b hb=>by
  obtain⟨h1,h2,h3⟩:=hF b hb
  refine⟨h1.of_heap (by omega) fun k hk=>hold _ (h1.has_lt hk),h2,fun k hk ho=>?_⟩
  rcases qMs ho with⟨c,e,_,h5⟩|h4
  ·injection e with e;subst e;have:=h1.has_lt hk;have:l=k:=h5;omega
  ·exact h3 k hk h4
 have hn1:qBg ((0,false)::shP psl)=true:=by
  have h1:∀qs:List (Nat×Bool),qBg qs=true→qBg (shP qs)=true:=by
   intro qs
   induction qs with
   |nil=>intro _;rfl
   |cons x r ih=>
    intro h
    simp only[qBg,Bool.and_eq_true,List.all_eq_true] at h
    show((shP r).all _ &&qBg (shP r))=true
    rw[ih h.2,Bool.and_true,List.all_eq_true]
    intro y hy
    obtain⟨z,hz,rfl⟩:=List.mem_map.1 hy
    exact h.1 z hz
  show((shP psl).all _ &&qBg (shP psl))=true
  rw[h1 psl hn,Bool.and_true,List.all_eq_true]
  intro y hy
  obtain⟨z,hz,rfl⟩:=List.mem_map.1 hy
  rfl
 have hlend:qB1 (shB (some (qD4 l (qGb .ready none fn a.tmps ps asg bd w.heap.size))) s.fs.mem) ((0,false)::shP psl)=some (qD4 l (qGb .ready none fn a.tmps ps asg bd w.heap.size))::qB1 s.fs.mem psl:=by
  show _ ::qB1 _ (shP psl)=_
  rw[qP2];rfl
 have hcall:=hc l w.heap.size fn a.tmps ⟨hs.size,hs.env⟩ W1 (by rw[←hlend];exact qDh hm1) (by rw[←hlend];exact qDb ha1 hn1) (by rw[←hlend];exact qH3 hF1)
 have hargs:(yv l::caps).toArray=#[.func (.yield l) #[] #[]]++caps.toArray:=by simp[yv]
 rw[hargs] at hcall
 refine callsIn_wide.2 (Calls.mono hcall ?_)
 rintro e W2 ⟨ns,hns,rfl,hp⟩
 have hl0:=(hp.holds 0 _ rfl).objm rfl
 have hl2:W2.heap[l]?=some (.loop (qGb (stL pe) pe fn a.tmps ps asg bd w.heap.size)):=hl0
 have hp1:=qDg (nx:=s.nx+1) (out:=some (qD4 l (qGb (stL pe) pe fn a.tmps ps asg bd w.heap.size))::out ns) hm1 ha1 (ps:=(0,false)::shP psl) (by simp[shP];exact hlen ns hns) (by rw[hlend];exact hp)
 rw[qUY] at hp1
 obtain⟨W4,hW4⟩:∃W4,W2.putObj l (.loop {qGb (stL pe) pe fn a.tmps ps asg bd w.heap.size with state:=.exhausted})=W4:=⟨_,rfl⟩
 have hoth:∀q,q≠l→W4.heap[q]?=W2.heap[q]?:=fun q hq=>by rw[←hW4];exact World.putObj_heap_other hq
 have hsz4:W4.heap.size=W2.heap.size:=by rw[←hW4];simp[World.putObj]
 have hname:∀p b,qAD s.fs.mem (qAx psl s.nx (out ns)) p=some b→¬b.has l:=fun p b hb e=>by
  cases ho:b.own with
  |true=>exact hp1.apart (p+1) 0 b _ (by omega) hb rfl ho l e rfl
  |false=>have h1:=hp1.adv.ro (p+1) b hb ho;have:=(hs.mem p b h1).has_lt e;omega
 have hnames:∀q,qDc (qAD s.fs.mem (qAx psl s.nx (out ns))) q→qDc s.fs.mem q∨w.heap.size+2≤q:=fun q hq=>by
  obtain⟨p,b,h1,h2,h3⟩:=hq
  rcases hp1.adv.names q ⟨p+1,b,h1,h2,h3⟩ with h4|h4
  ·rcases qMs h4 with⟨c,e,_,h5⟩|h5
   ·injection e with e;subst e;have:l=q:=h5;subst this;exact absurd h3 (hname p b h1)
   ·exact .inl h5
  ·exact .inr (by omega)
 have hkeep:∀q,q<W1.heap.size→q≠l→¬qDc s.fs.mem q→W4.heap[q]?=W1.heap[q]?:=fun q hq hql hno=>by
  rw[hoth q hql]
  refine hp1.adv.heap q hq fun ho=>?_
  rcases qMs ho with⟨c,e,_,h5⟩|h5
  ·injection e with e;subst e;exact hql h5.symm
  ·exact hno h5
 obtain⟨hB,D,hD1,hD2,hD3⟩:=hs.defers
 have hfs:(St.mk s.env (qAx psl s.nx (out ns)++s.mem) (s.nx+nb)).fs.mem=qAD s.fs.mem (qAx psl s.nx (out ns)):=qUF _ _
 have hmk:w.heap.size∉D:=fun h=>by
  have:=(Array.getElem?_eq_some_iff.1 (hD3 _ h).2.1).1;omega
 have hno0:¬qDc s.fs.mem w.heap.size:=fun⟨p,b,h1,_,h3⟩=>by have:=(hs.mem p b h1).has_lt h3;omega
 have hsat:Sat ds nt (St.mk s.env (qAx psl s.nx (out ns)++s.mem) (s.nx+nb)).fs {a with defers:=[{target:=.collected w.heap.size,args:=#[]}]++a.defers} W4:=by
  refine⟨⟨?_,w.heap.size::D,List.nodup_cons.2 ⟨hmk,hD1⟩,by simp[hD2],fun r hr=>?_⟩,hs.size,hs.env,fun p b hb=>?_,?_⟩
  ·have:=hp1.adv.size;omega
  ·rw[hfs]
   rcases List.mem_cons.1 hr with rfl|hr
   ·refine⟨hB,(hkeep _ (by omega) (by omega) hno0).trans hK1,fun ho=>?_⟩
    rcases hnames _ ho with h4|h4
    ·exact hno0 h4
    ·omega
   ·obtain⟨k1,k2,k3⟩:=hD3 r hr
    have hlt:=(Array.getElem?_eq_some_iff.1 k2).1
    refine⟨k1,((hkeep r (by omega) (by omega) k3).trans (hold r hlt)).trans k2,fun ho=>?_⟩
    rcases hnames _ ho with h4|h4
    ·exact k3 h4
    ·omega
  ·rw[hfs] at hb
   exact(hp1.holds (p+1) b hb).of_heap (by omega) fun k hk=>hoth _ fun e=>hname p b hb (e▸hk)
  ·rw[hfs]
   exact fun p q b c hpq hb hc ho=>hp1.apart (p+1) (q+1) b c (by omega) hb hc ho
 have hadv:Adv s.fs.mem w (St.mk s.env (qAx psl s.nx (out ns)++s.mem) (s.nx+nb)).fs.mem W4:=by
  rw[hfs]
  refine⟨?_,?_,?_,?_,fun q hq hno=>?_,fun q hq=>?_,fun p b hb ho=>hp1.adv.ro (p+1) b hb ho⟩
  ·rw[←hW4];exact hp1.adv.os.trans (by rw[←hW1];rfl)
  ·rw[←hW4];exact hp1.adv.output.trans (by rw[←hW1];rfl)
  ·rw[←hW4];exact hp1.adv.tape.trans (by rw[←hW1];rfl)
  ·have:=hp1.adv.size;omega
  ·exact(hkeep q (by omega) (by omega) hno).trans (hold q hq)
  ·rcases hnames q hq with h4|h4
   ·exact .inl h4
   ·exact .inr (by omega)
 have hend:(Instr.endLoop l).run P W2=.ok pe W4:=by
  have:=run_endLoop (P:=P) hl2 (by cases pe<;>simp[qGb,stL])
  rw[←hW4];exact this
 refine⟨pe,W4,hend,?_⟩
 rcases hpe with⟨rfl,rfl⟩|⟨rfl,rfl⟩|⟨id,rfl,rfl⟩
 ·exact⟨_,⟨ns,hns,rfl,rfl⟩,hsat,hadv⟩
 ·exact wpIn_wide.2 (wp_ret ⟨_,⟨ns,hns,rfl,rfl⟩,hsat,hadv⟩)
 ·exact wpIn_wide.2 (wp_exit ⟨_,⟨ns,hns,rfl,rfl⟩,hsat,hadv⟩)
theorem lmS {o:Option Blk} {r:List (Option Blk)} (p:Nat):lM (o::r) (p+1)=lM r p:=by simp[lM]
theorem qKt:∀(l:List (Option Blk)) (i p:Nat),qB3 (qEq l i) p=if i≤p then lM l (p-i) else none
 |[],i,p=>by simp[qEq,qB3,look,lM]
 |b::r,i,p=>by
  have:=qKt r (i+1) p
  simp only[qB3] at this
  simp only[qEq,qB3,qAq]
  by_cases hip:i=p
  ·subst hip;simp[lM]
  ·simp only[hip,if_false]
   rw[this]
   by_cases hle:i≤p
   ·rw[if_pos hle,if_pos (by omega),show p-i=(p-(i+1))+1 by omega];simp[lM]
   ·rw[if_neg hle,if_neg (by omega)]
theorem qQ3 (env:List (Nat×EV)) (bs:List (Option Blk)):(St.mk env (qEq bs 0) bs.length).fs.mem=lM bs:=by
 funext p
 show qB3 (qEq bs 0) p=_
 rw[qKt];simp
theorem qJ8 {w:World} {l:Nat} {o:Obj} (h:l<w.heap.size):(w.putObj l o).heap[l]?=some o:=World.putObj_heap_same h
def qY2 (l:Nat) (m:Nat→Option Blk):Prop:=∀p b,m p=some b→¬b.has l
theorem qY2.adv {l:Nat} {m m':Nat→Option Blk} {w w':World} (h:qY2 l m) (hl:l<w.heap.size) (ha:Adv m w m' w'):qY2 l m':=fun p b hb e=>by
 cases ho:b.own with
 |true=>
  rcases ha.names l ⟨p,b,hb,ho,e⟩ with⟨q,c,h1,_,h3⟩|h1
  ·exact h q c h1 h3
  ·omega
 |false=>exact h p b (ha.ro p b hb ho) e
theorem qY2.owns {l:Nat} {m:Nat→Option Blk} (h:qY2 l m):¬qDc m l:=fun⟨p,b,h1,_,h3⟩=>h p b h1 h3
theorem Sat.put {nt:Nat} {s:FSt} {a:Act} {w:World} (h:Sat ds nt s a w) {l:Nat} {L:Loop} {o:Obj} (hl:w.heap[l]?=some (.loop L)) (hf:qY2 l s.mem):Sat ds nt s a (w.putObj l o):=by
 refine⟨?_,h.size,h.env,fun p b hb=>(h.mem p b hb).of_heap (by simp[World.putObj]) (fun k hk=>World.putObj_heap_other fun e=>hf p b hb (e▸hk)),h.apart⟩
 obtain⟨h0,D,h1,h2,h3⟩:=h.defers
 refine⟨by simpa[World.putObj] using h0,D,h1,h2,fun r hr=>?_⟩
 obtain⟨k1,k2,k3⟩:=h3 r hr
 have hne:r≠l:=fun e=>by subst e;rw[hl] at k2;cases k2
 exact⟨k1,(World.putObj_heap_other hne).trans k2,k3⟩
def qWT (F:Blk→Prop) (P:Program) (l:Nat) (args:List Value) (bs:List (Option Blk)) (k:Nat) (v:List Nat→Value) (out:List Nat→List (Option Blk)):Prop:=
 ∀w,(∀p b,lM bs p=some b→qAl b w)→qCs (lM bs)→Fam F (lM bs) w→
  ∃fn tmps asg bd,(Instr.yield l args.toArray).run P w=.ok (.round l fn tmps asg bd) w∧∀m,RoundIn Fence.wide m P l fn tmps asg bd w fun e w'=>
   ∃ns,ns.length=k∧e=.returned (v ns)∧qCL (lM bs) w (lM (out ns)) w'
def qCR:List Tmp→List Value→List (Nat×EV)
 |p::ps,x::xs=>(p,.v x)::qCR ps xs
 | _,_=>[]
theorem qQu (nt:Nat):∀(ps:List Tmp) (xs:List Value) (tm:Array Value) (t:Nat) (e:EV),ps.Nodup→(∀p∈ps,p<tm.size)→look (qCR ps xs) t=some e→((ps.zip xs).foldl (fun t (p,v)=>t.setIfInBounds p v) tm)[t]?=some e.den
 |[],xs,tm,t,e,_,_,h=>by cases h
 |p::ps,[],tm,t,e,_,_,h=>by cases h
 |p::ps,x::xs,tm,t,e,hn,hp,h=>by
  rw[List.nodup_cons] at hn
  simp only[List.zip_cons_cons,List.foldl_cons]
  by_cases hin:∃e',look (qCR ps xs) t=some e'
  ·obtain⟨e',he'⟩:=hin
   have hmem:∀(qs:List Tmp) (ys:List Value) (t:Nat) (e:EV),look (qCR qs ys) t=some e→t∈qs:=by
    intro qs
    induction qs with
    |nil=>intro ys t e h;cases h
    |cons q qs ih=>
     intro ys t e h
     cases ys with
     |nil=>cases h
     |cons y ys=>
      rw[qCR,qAq] at h
      split at h
      ·rename_i e1;subst e1;simp
      ·exact List.mem_cons_of_mem _ (ih ys t e h)
   have htp:p≠t:=fun e1=>hn.1 (by subst e1;exact hmem ps xs _ _ he')
   rw[qCR,qAq,if_neg htp] at h
   exact qQu nt ps xs _ t e hn.2 (fun q hq=>by simpa using hp q (by simp[hq])) h
  ·rw[qCR,qAq] at h
   have key:∀(qs:List Tmp) (ys:List Value) (tm:Array Value),look (qCR qs ys) t=none→((qs.zip ys).foldl (fun t (p,v)=>t.setIfInBounds p v) tm)[t]?=tm[t]?:=by
    intro qs
    induction qs with
    |nil=>intro ys tm _;rfl
    |cons q qs ih=>
     intro ys tm hq
     cases ys with
     |nil=>rfl
     |cons y ys=>
      rw[qCR,qAq] at hq
      split at hq
      ·cases hq
      ·rename_i hne
       simp only[List.zip_cons_cons,List.foldl_cons]
       rw[ih ys _ hq,Array.getElem?_setIfInBounds_ne hne]
   have hnone:look (qCR ps xs) t=none:=by
    cases hk:look (qCR ps xs) t with
    |none=>rfl
    |some e'=>exact absurd ⟨e',hk⟩ hin
   rw[key ps xs _ hnone]
   split at h
   ·rename_i e1;subst e1
    injection h with h;subst h
    rw[Array.getElem?_setIfInBounds_self_of_lt (hp p (by simp))];rfl
   ·rw[hnone] at h;cases h
theorem qQp:∀(ps:List Tmp) (xs:List Value) (tm:Array Value) (t:Nat),look (qCR ps xs) t=none→ps.length≤xs.length→((ps.zip xs).foldl (fun t (p,v)=>t.setIfInBounds p v) tm)[t]?=tm[t]?
 |[],xs,tm,t,_,_=>rfl
 |p::ps,[],tm,t,_,h=>by simp at h
 |p::ps,x::xs,tm,t,hq,hl=>by
  rw[qCR,qAq] at hq
  split at hq
  ·cases hq
  ·rename_i hne
   simp only[List.zip_cons_cons,List.foldl_cons]
   rw[qQp ps xs _ t hq (by simpa using hl),Array.getElem?_setIfInBounds_ne hne]
theorem qNp:∀(ps:List Tmp) (xs:List Value) (tm:Array Value),((ps.zip xs).foldl (fun t (p,v)=>t.setIfInBounds p v) tm).size=tm.size
 |[],_,_=>rfl
 | _ :: _,[],_=>rfl
 |p::ps,x::xs,tm=>by simp only[List.zip_cons_cons,List.foldl_cons];rw[qNp ps xs];simp
theorem qWv (l r:List (Nat×EV)) (t:Nat):look (l++r) t=match look l t with
  |some e=>some e
  |none=>look r t:=by
 induction l with
 |nil=>rfl
 |cons x l ih=>
  obtain⟨q,b⟩:=x
  simp only[List.cons_append,qAq]
  by_cases h:q=t
  ·simp[h]
  ·simp only[h,if_false];exact ih
def qWX (mk:LoopState→Option Code→Blk) (ps:List Nat) (k:Nat) (v:List Nat→Value) (out:List Nat→List (Option Blk)) (nb:Nat):Exit→St→Prop:=fun e s=>match e with
 |.normal=>∃ns,ns.length=k∧Value.bool true=v ns∧some (mk .ready none)::qMd s (List.range nb++ps)=out ns
 |.ret=>∃ns,ns.length=k∧Value.bool false=v ns∧some (mk .done (some .ret))::qMd s (List.range nb++ps)=out ns
 |.exit id=>∃ns,ns.length=k∧Value.bool false=v ns∧some (mk .done (some (.exit id)))::qMd s (List.range nb++ps)=out ns
 | _=>False
theorem qOX {F:Blk→Prop} {P:Program} {nt l D:Nat} {fn:FuncId} {tm:Array Value} {pars:Array Tmp} {asg bd:Code} {env:List (Nat×EV)} {args:List Value} {bs:List (Option Blk)} {k:Nat} {v:List Nat→Value}
  {out:List Nat→List (Option Blk)} (hmix:P.follows .mixedOrders=true) (htm:jAo nt (fun t=>look env t) tm) (hpn:pars.toList.Nodup) (hlen:args.length=pars.size) (hlt:∀p∈pars.toList,p<nt)
  (hC1:qRP asg=true) (hC2:qRP bd=true) (n:Nat) (h:H) (ps:List Nat) (hps:(qJp (List.range bs.length++ps)&&ps.all (fun p=>Nat.ble bs.length p))=true)
  (hev:evF F P nt n false asg ⟨qCR pars.toList args++env,qEq bs 0,bs.length⟩ h fun e s h'=>match e with
   |.normal=>evF F P nt n false bd s h' fun e s _=>qWX (fun st pe=>qD4 l (qGb st pe fn tm pars asg bd D)) ps k v out bs.length e s
   | _=>False):
  qWT F P l args (some (qD4 l (qGb .ready none fn tm pars asg bd D))::bs) k v out:=by
 intro w hm ha hF
 simp only[Bool.and_eq_true,List.all_eq_true] at hps
 have hl:w.heap[l]?=some (.loop (qGb .ready none fn tm pars asg bd D)):=(hm 0 _ rfl).objm rfl
 have hlw:l<w.heap.size:=(Array.getElem?_eq_some_iff.1 hl).1
 have hmem:(St.mk (qCR pars.toList args++env) (qEq bs 0) bs.length).fs.mem=lM bs:=qQ3 _ _
 have hfree:qY2 l (lM bs):=fun p b hb e=>ha 0 (p+1) _ b (by omega) rfl (by rw[lmS];exact hb) rfl l rfl e
 have hfold:(pars.zip args.toArray).foldl (fun t (p,v)=>t.setIfInBounds p v) tm=(pars.toList.zip args).foldl (fun t (p,v)=>t.setIfInBounds p v) tm:=by
  rw[←Array.foldl_toList];simp
 have hs:Sat 0 nt (St.mk (qCR pars.toList args++env) (qEq bs 0) bs.length).fs {tmps:=(pars.zip args.toArray).foldl (fun t (p,v)=>t.setIfInBounds p v) tm,defers:=[]} w:=by
  rw[hfold]
  refine⟨.none (Nat.zero_le _),(qNp _ _ _).trans htm.1,fun t e ht=>?_,fun p b hb=>?_,?_⟩
  ·have ht2:look (qCR pars.toList args++env) t=some e:=ht
   rw[qWv] at ht2
   cases hk:look (qCR pars.toList args) t with
   |some e'=>rw[hk] at ht2;injection ht2 with ht2;subst ht2;exact qQu nt _ _ _ t _ hpn (fun p hp=>by rw[htm.1];exact hlt p hp) hk
   |none=>rw[hk] at ht2;exact(qQp _ _ _ t hk (by simp[hlen])).trans (htm.2 t e ht2)
  ·rw[hmem] at hb;exact hm (p+1) b (by rw[lmS];exact hb)
  ·rw[hmem];exact fun p q b c hpq hb hc ho=>ha (p+1) (q+1) b c (by omega) (by rw[lmS];exact hb) (by rw[lmS];exact hc) ho
 have hF0:Fam F (St.mk (qCR pars.toList args++env) (qEq bs 0) bs.length).fs.mem w:=fun b hb=>by
  obtain⟨h1,h2,h3⟩:=hF b hb
  rw[hmem]
  exact⟨h1,h2,fun k hk ⟨p,c,k1,k2,k3⟩=>h3 k hk ⟨p+1,c,by rw[lmS];exact k1,k2,k3⟩⟩
 have hFl:∀b,F b→∀k,b.has k→k≠l:=fun b hb k hk e=>(hF b hb).2.2 k hk ⟨0,_,rfl,rfl,e.symm⟩
 refine⟨fn,_,asg,bd,run_yield hl (by simpa[qGb] using hlen),fun m=>roundIn_of_wpIn trivial ?_⟩
 refine wpIn_mono (qAR (l:=l) hmix n asg _ h _ _ w (fun _ _ h=>h) hC1 hev hs hF0) ?_
 rintro e a1 w1 ⟨s1,h1,hK1,hS1,hA1⟩
 cases e with
 |normal=>
  rw[hmem] at hA1
  have hl1:w1.heap[l]?=some (.loop (qGb .ready none fn tm pars asg bd D)):=(hA1.heap l hlw hfree.owns).trans hl
  have hf1:=hfree.adv hlw hA1
  obtain⟨w2,hw2⟩:∃w2,w1.putObj l (.loop {qGb .ready none fn tm pars asg bd D with state:=.busy})=w2:=⟨_,rfl⟩
  have hlw1:l<w1.heap.size:=(Array.getElem?_eq_some_iff.1 hl1).1
  have hl2:w2.heap[l]?=some (.loop {qGb .ready none fn tm pars asg bd D with state:=.busy}):=by rw[←hw2];exact qJ8 hlw1
  have hS2:Sat 0 nt s1.fs a1 w2:=by rw[←hw2];exact hS1.put hl1 hf1
  have hF2:Fam F s1.fs.mem w2:=fun b hb=>by
   obtain⟨k1,k2,k3⟩:=hF0.adv (hmem▸hA1) b hb
   exact⟨k1.of_heap (by rw[←hw2];simp[World.putObj]) (by rw[←hw2];exact fun k hk=>World.putObj_heap_other (hFl b hb k hk)),k2,k3⟩
  refine⟨w2,by rw[←hw2];exact run_beginRound hl1 rfl,?_⟩
  refine wpIn_mono (qAR (l:=l) hmix n bd s1 h1 _ a1 w2 (fun _ _ h=>h) hC2 hK1 hS2 hF2) ?_
  have hsz2:w2.heap.size=w1.heap.size:=by rw[←hw2];simp[World.putObj]
  have oth2:∀q,q≠l→w2.heap[q]?=w1.heap[q]?:=fun q hq=>by rw[←hw2];exact World.putObj_heap_other hq
  have fin:∀(jump:Option Code) (a3:Act) (w3:World) (s2:St),Sat 0 nt s2.fs a3 w3→Adv s1.fs.mem w2 s2.fs.mem w3→
    (Instr.endRound l jump).run P w3=.ok (.bool jump.isNone) (w3.putObj l (.loop (qGb (stL jump) jump fn tm pars asg bd D)))∧
    qCL (lM (some (qD4 l (qGb .ready none fn tm pars asg bd D))::bs)) w (lM (some (qD4 l (qGb (stL jump) jump fn tm pars asg bd D))::qMd s2 (List.range bs.length++ps))) (w3.putObj l (.loop (qGb (stL jump) jump fn tm pars asg bd D))):=fun jump a3 w3 s2 hS3 hA3=>by
   have hl3:w3.heap[l]?=some (.loop {qGb .ready none fn tm pars asg bd D with state:=.busy}):=(hA3.heap l (by omega) hf1.owns).trans hl2
   have hlw3:=(Array.getElem?_eq_some_iff.1 hl3).1
   have hf3:=hf1.adv (by omega) hA3
   obtain⟨w4,hw4⟩:∃w4,w3.putObj l (.loop (qGb (stL jump) jump fn tm pars asg bd D))=w4:=⟨_,rfl⟩
   have oth4:∀q,q≠l→w4.heap[q]?=w3.heap[q]?:=fun q hq=>by rw[←hw4];exact World.putObj_heap_other hq
   have hsz4:w4.heap.size=w3.heap.size:=by rw[←hw4];simp[World.putObj]
   refine⟨?_,?_⟩
   ·have:=run_endRound (P:=P) jump hl3
    rw[this]
    cases jump<;>rfl
   rw[hw4]
   have hnm:∀q,qDc s2.fs.mem q→qDc (lM bs) q∨w.heap.size≤q:=fun q hq=>by
    rcases hA3.names q hq with h4|h4
    ·exact hA1.names q h4
    ·right;have:=hA1.size;omega
   have hget:∀p b,lM (some (qD4 l (qGb (stL jump) jump fn tm pars asg bd D))::qMd s2 (List.range bs.length++ps)) (p+1)=some b→∃q,(List.range bs.length++ps)[p]?=some q∧s2.fs.mem q=some b:=fun p b hb=>by
    rw[lmS] at hb;exact qFp hb
   refine⟨fun p b hb=>?_,fun p q b c hpq hb hc ho=>?_,⟨?_,?_,?_,?_,fun q hq hno=>?_,fun q hq=>?_,fun p b hb ho=>?_⟩⟩
   ·cases p with
    |zero=>injection hb with hb;subst hb;exact qLe (by rw[←hw4];exact qJ8 hlw3)
    |succ p=>
     obtain⟨q,_,hq⟩:=hget p b hb
     exact(hS3.mem q b hq).of_heap (by omega) fun k hk=>oth4 _ fun e=>hf3 q b hq (e▸hk)
   ·cases p with
    |zero=>
     cases q with
     |zero=>exact absurd rfl hpq
     |succ q=>
      injection hb with hb;subst hb
      obtain⟨x,_,hx⟩:=hget q c hc
      intro k k1 k2;have:l=k:=k1;subst this;exact hf3 x c hx k2
    |succ p=>
     obtain⟨x,hx1,hx2⟩:=hget p b hb
     cases q with
     |zero=>injection hc with hc;subst hc;intro k k1 k2;have:l=k:=k2;subst this;exact hf3 x b hx2 k1
     |succ q=>
      obtain⟨y,hy1,hy2⟩:=hget q c hc
      exact hS3.apart x y b c (qIG hps.1 p q x y hx1 hy1 (by omega)) hx2 hy2 ho
   ·rw[←hw4];exact hA3.os.trans ((by rw[←hw2];rfl:w2.os=w1.os).trans hA1.os)
   ·rw[←hw4];exact hA3.output.trans ((by rw[←hw2];rfl:w2.output=w1.output).trans hA1.output)
   ·rw[←hw4];exact hA3.tape.trans ((by rw[←hw2];rfl:w2.tape=w1.tape).trans hA1.tape)
   ·have:=hA1.size;have:=hA3.size;omega
   ·have hql:q≠l:=fun e=>hno ⟨0,_,rfl,rfl,e.symm⟩
    have hnb:¬qDc (lM bs) q:=fun⟨p,b,k1,k2,k3⟩=>hno ⟨p+1,b,by rw[lmS];exact k1,k2,k3⟩
    have hn1:¬qDc s1.fs.mem q:=fun ho=>by
     rcases hA1.names q ho with h4|h4
     ·exact hnb h4
     ·omega
    have:=hA1.size
    exact(oth4 q hql).trans ((hA3.heap q (by omega) hn1).trans ((oth2 q hql).trans (hA1.heap q hq hnb)))
   ·obtain⟨p,b,hb,ho,hbq⟩:=hq
    cases p with
    |zero=>injection hb with hb;subst hb;exact .inl ⟨0,_,rfl,rfl,hbq⟩
    |succ p=>
     obtain⟨x,_,hx2⟩:=hget p b hb
     rcases hnm q ⟨x,b,hx2,ho,hbq⟩ with⟨y,c,k1,k2,k3⟩|h4
     ·exact .inl ⟨y+1,c,by rw[lmS];exact k1,k2,k3⟩
     ·exact .inr h4
   ·cases p with
    |zero=>injection hb with hb;subst hb;cases ho
    |succ p=>
     obtain⟨x,hx1,hx2⟩:=hget p b hb
     have hro:=hA1.ro x b (hA3.ro x b hx2 ho) ho
     have hx:x=p:=by
      by_cases hi:p<bs.length
      ·rw[List.getElem?_append_left (by simpa using hi),List.getElem?_range hi] at hx1
       injection hx1 with hx1;exact hx1.symm
      ·rw[List.getElem?_append_right (by simp;omega)] at hx1
       have:=Nat.le_of_ble_eq_true (hps.2 x (List.mem_of_getElem? hx1))
       have:bs[x]?=none:=List.getElem?_eq_none (by omega)
       simp[lM,this] at hro
     subst hx
     rw[lmS];exact hro
  rintro e a3 w3 ⟨s2,h2,hK2,hS3,hA3⟩
  cases e with
  |normal=>
   obtain⟨ns,hns,hv,ho⟩:=hK2
   obtain⟨f1,f2⟩:=fin none a3 w3 s2 hS3 hA3
   exact⟨_,_,f1,ns,hns,by rw[←hv];rfl,by rw[←ho];exact f2⟩
  |ret=>
   obtain⟨ns,hns,hv,ho⟩:=hK2
   obtain⟨f1,f2⟩:=fin (some .ret) a3 w3 s2 hS3 hA3
   exact⟨_,_,f1,ns,hns,by rw[←hv];rfl,by rw[←ho];exact f2⟩
  |exit id=>
   obtain⟨ns,hns,hv,ho⟩:=hK2
   obtain⟨f1,f2⟩:=fin (some (.exit id)) a3 w3 s2 hS3 hA3
   exact⟨_,_,f1,ns,hns,by rw[←hv];rfl,by rw[←ho];exact f2⟩
  | _=>exact hK2.elim
 | _=>exact hK1.elim
theorem qUJ {n:Nat} {P:Program} {row:String} {args:Array Value} {w:World} {R:Value→World→Prop} (h:Rows P row args w R):RowsIn Fence.wide n P row args w R:=
 fun c cs _=>let⟨v,w',r,s⟩:=h c cs;⟨v,w',r,(stepsIn_wide (P:=P)).2 s⟩
theorem qZZ {n:Nat} {P:Program} {o:Oper} {a:Act} {w:World} {K:Act→World→Prop} {Q:Exit→Act→World→Prop} (hd:∀c,o.op≠.defer c) (hQ:¬LetsOut Q)
  (h:o.wp P a w K Q∨(o.asks P a w∧LetsOut Q)):o.wpIn Fence.wide n P a w K Q:=by
 have h:=h.resolve_right fun h=>hQ h.2
 refine⟨fun _ _=>trivial,?_⟩
 rw[Oper.semAt_eq _ _ _ hd]
 unfold Oper.wp at h
 generalize(execOp a.eval o).run P w=r at h ⊢
 unfold Oper.upon at h
 unfold Oper.uponIn
 split at h
 ·exact h
 ·exact h
 ·exact h
 ·exact⟨fun h=>by simp[Fence.wide] at h,callsIn_wide.2 h⟩
 ·exact⟨fun h=>by simp[Fence.wide] at h,qUJ h⟩
 ·exact h
 ·exact h.elim
theorem qSq {n:Nat} {P:Program} {ops:Array Oper} {Q:Exit→Act→World→Prop} {i:Nat} {K:Act→World→Prop} {a:Act} {w:World} (hd:qEZ ops=true) (hQ:¬LetsOut Q)
  (h:wpOp P ops Q i K a w):wpOpIn Fence.wide n P ops Q i K a w:=by
 unfold wpOp at h
 unfold wpOpIn
 cases ho:ops[i]?with
 |none=>rw[ho] at h;exact h
 |some o=>
  rw[ho] at h
  simp only at h ⊢
  split at h
  ·rename_i hw;rw[if_pos hw];exact qZZ (qHp hd ho) hQ h
  ·rename_i hw;rw[if_neg hw];exact⟨fun _ _=>trivial,h⟩
def qPu (n:Nat) (P:Program) (ops:Array Oper) (Q:Exit→Act→World→Prop):List Nat→(Act→World→Prop)→Act→World→Prop
 |[],K,a,w=>K a w
 |i::r,K,a,w=>wpOpIn Fence.wide n P ops Q i (qPu n P ops Q r K) a w
theorem qKr {n:Nat} {P:Program} {ops:Array Oper} {Q:Exit→Act→World→Prop}:∀(is js:List Nat) (a:Act) (w:World),qPu n P ops Q is (wpOpsIn Fence.wide n P ops Q js) a w→wpOpsIn Fence.wide n P ops Q (is++js) a w
 |[],_,_,_,h=>h
 |i::r,js,a,w,h=>by
  show wpOpsIn Fence.wide n P ops Q (i::(r++js)) a w
  rw[wpOpsIn_cons]
  exact wpOpIn_mono (fun a w=>qKr r js a w) h
theorem qKN {F:Blk→Prop} {P:Program} {ops:Array Oper} {nt m:Nat} {Q:Exit→Act→World→Prop} {K:Act→World→Prop} (hd:qEZ ops=true) (hQ:¬LetsOut Q):∀(ks:(List (Nat×OpH))) {s:St} {a:Act} {w:World},Sat ds nt s.fs a w→Fam F s.fs.mem w→
  (∀ns,ns.length=nnL ks→∃vc s',qB8 F P ops nt ks ns s=some (vc,s')∧vc)→
  (∀ns vc s' a' w',ns.length=nnL ks→qB8 F P ops nt ks ns s=some (vc,s')→vc→Sat ds nt s'.fs a' w'→Adv s.fs.mem w s'.fs.mem w'→K a' w')→
  qPu m P ops Q (ks.map (·.1)) K a w
 |[],s,a,w,hs,hF,hall,hK=>hK [] True s a w rfl rfl trivial hs (.refl _ _)
 |(i,h)::ks,s,a,w,hs,hF,hall,hK=>by
  obtain⟨vc,s',hev,hvc⟩:=hall (List.replicate _ 0) List.length_replicate
  obtain⟨o,vc1,e,vc2,ho,hok,he,hr,hv⟩:=qB7 hev
  show wpOpIn Fence.wide m P ops Q i (qPu m P ops Q (ks.map (·.1)) K) a w
  refine qSq hd hQ (qMP (nx:=s.nx) (h:=h) ho hs hF (qEA hok) (fun ns hns=>?_) (fun ns vc1' e' w' hns hev' hvc1 hp=>?_))
  ·obtain⟨vc,s',hev,hvc⟩:=hall (ns++List.replicate (nnL ks) 0) (by simp[nnL,hns])
   obtain⟨o',vc1,e,vc2,ho',hok,he,hr,rfl⟩:=qB7 hev
   rw[ho] at ho';injection ho' with ho';subst ho'
   rw[List.take_left' hns] at he
   exact⟨vc1,e,he,hvc.1⟩
  ·have hsat:=qHU hs (qJD hok) hp
   rw[←St.fs_apply s o.dst e' h.nb] at hsat
   have hmem:(s.apply o.dst e' h.nb).fs.mem=qAD s.fs.mem e'.upd:=by rw[St.fs_apply];rfl
   refine qKN hd hQ ks hsat (hmem▸hF.adv hp.adv) (fun ns2 hns2=>?_) (fun ns2 vc2 s2 a2 w2 hns2 hev2 hvc2 hsat2 hadv2=>?_)
   ·obtain⟨vc,s',hev,hvc⟩:=hall (ns++ns2) (by simp[nnL,hns,hns2])
    obtain⟨o',vc1,e,vc2,ho',hok,he,hr,rfl⟩:=qB7 hev
    rw[ho] at ho';injection ho' with ho';subst ho'
    rw[List.take_left' hns,hev'] at he
    injection he with he;injection he with h1 h2;subst h2
    rw[List.drop_left' hns] at hr
    exact⟨vc2,s',hr,hvc.2⟩
   ·refine hK (ns++ns2) (vc1'∧vc2) s2 a2 w2 (by simp[nnL,hns,hns2]) ?_ ⟨hvc1,hvc2⟩ hsat2 ((hp.adv).trans (hmem▸hadv2))
    exact qMM ho hok (by rw[List.take_left' hns];exact hev') (by rw[List.drop_left' hns];exact hev2)
def jCJ (ops:Array Oper) (env:Nat→Option EV) (o:Oper):Bool:=match o.guard with
 |none=>true
 |some (j,want)=>match qVF ops env j want with
  |some b=>b
  |none=>false
theorem qOZ {ops:Array Oper} {nt:Nat} {s:FSt} {a:Act} {w:World} (hs:Sat ds nt s a w) {o:Oper} (h:jCJ ops s.env o=true):Region.wanted o (yielded ops a.tmps)=true:=by
 unfold jCJ at h
 cases hg:o.guard with
 |none=>unfold Region.wanted;rw[hg]
 |some jw=>
  obtain⟨j,want⟩:=jw
  rw[hg] at h
  simp only at h
  cases hb:qVF ops s.env j want with
  |none=>rw[hb] at h;cases h
  |some b=>rw[hb] at h;simp only at h;rw[qNe hs hg hb];exact h
theorem qR6 {F:Blk→Prop} {P:Program} {nt id:Nat} {ops:Array Oper} {s s1:St} {ks1 ks2:List (Nat×OpH)} {i:Nat} {o:Oper} {vc1:Prop} {l:Nat} {args:List Value} {psl:List (Nat×Bool)} {k nb:Nat}
  {v:List Nat→Value} {out:List Nat→List (Option Blk)} (hd:qEZ ops=true) (hidx:ks1.map (·.1)++i::ks2.map (·.1)=List.range ops.size) (hn1:nnL ks1=0) (hn2:nnL ks2=0)
  (he1:qB8 F P ops nt ks1 [] s=some (vc1,s1)) (hv1:vc1) (ho:ops[i]?=some o) (hok:qUq nt o=true) (hg:jCJ ops s1.fs.env o=true) (hk:qIc s1.fs.env o.op.operands.toList=true) (hc:qG5 s1.fs.env o.op.operands.toList)
  (hex:∀w,(execOp (rho s1.fs.env) o).run P w=(Instr.yield l args.toArray).run P w) (hn:qBg psl=true) (hlen:∀ns,ns.length=k→psl.length≤(out ns).length) (hy:qWT F P l args (qB1 s1.fs.mem psl) k v out)
  (vc2:List Nat→Prop) (s2:List Nat→St) (he2:∀ns,ns.length=k→qB8 F P ops nt ks2 [] (s1.apply o.dst ⟨.v (v ns),qAx psl s1.nx (out ns)⟩ nb)=some (vc2 ns,s2 ns)∧vc2 ns):
  jAg F ds P nt (.region id ops false) s (fun e s'=>∃ns:List Nat,ns.length=k∧e=.normal∧s'=s2 ns):=by
 intro a w hs hF
 have hQ:¬LetsOut (fun e a' w'=>∃s',(∃ns:List Nat,ns.length=k∧e=Exit.normal∧s'=s2 ns)∧Sat ds nt s'.fs a' w'∧Adv s.fs.mem w s'.fs.mem w'):=fun⟨_,_,_,⟨_,_,h,_⟩,_⟩=>by cases h
 refine(wpIn_wide (n:=1)).1 (wpIn_region ?_)
 rw[←hidx]
 refine qKr _ _ _ _ (qKN hd hQ ks1 hs hF (fun ns hns=>?_) fun ns vc s' a1 w1 hns hev _ hS1 hA1=>?_)
 ·have:ns=[]:=List.eq_nil_of_length_eq_zero (by omega)
  subst this;exact⟨vc1,s1,he1,hv1⟩
 have hnil:ns=[]:=List.eq_nil_of_length_eq_zero (by omega)
 subst hnil
 rw[he1] at hev
 injection hev with hev;injection hev with _ hs';subst hs'
 have hF1:=hF.adv hA1
 obtain⟨fn,tmps,asg,bd,hrun,hR⟩:=hy w1 (qDh hS1.mem) (qDb hS1.apart hn) (qH3 hF1)
 rw[wpOpsIn_cons]
 unfold wpOpIn
 rw[ho]
 have hw:Region.wanted o (yielded ops a1.tmps)=true:=qOZ hS1 hg
 simp only[hw,if_true]
 refine⟨fun _ _=>trivial,?_⟩
 rw[Oper.semAt_eq _ _ _ (qHp hd ho),qUx hS1 (qEA hok) hk hc,hex,hrun]
 refine⟨fun h=>by simp[Fence.wide] at h,(hR _).mono ?_⟩
 rintro e w2 ⟨ns,hns,rfl,hp⟩
 have hp2:=qDg (nx:=s1.nx) hS1.mem hS1.apart (hlen ns hns) hp
 have hS2:=qHU (dst:=o.dst) (e:=⟨.v (v ns),qAx psl s1.nx (out ns)⟩) hS1 (qJD hok) hp2
 rw[←St.fs_apply s1 o.dst _ nb] at hS2
 have hmem:(s1.apply o.dst ⟨.v (v ns),qAx psl s1.nx (out ns)⟩ nb).fs.mem=qAD s1.fs.mem (qAx psl s1.nx (out ns)):=by rw[St.fs_apply];rfl
 obtain⟨he3,hv3⟩:=he2 ns hns
 have:=qKr (n:=1) (P:=P) (ops:=ops) (Q:=fun e a' w'=>∃s',(∃ns:List Nat,ns.length=k∧e=Exit.normal∧s'=s2 ns)∧Sat ds nt s'.fs a' w'∧Adv s.fs.mem w s'.fs.mem w') (ks2.map (·.1)) [] (a1.put o.dst (v ns)) w2
  (qKN hd hQ ks2 hS2 (hmem▸hF1.adv hp2.adv) (fun ns2 hns2=>?_) fun ns2 vc s' a3 w3 hns2 hev _ hS3 hA3=>?_)
 ·rw[List.append_nil] at this;exact this
 ·have:ns2=[]:=List.eq_nil_of_length_eq_zero (by omega)
  subst this;exact⟨_,_,he3,hv3⟩
 ·have:ns2=[]:=List.eq_nil_of_length_eq_zero (by omega)
  subst this
  rw[he3] at hev
  injection hev with hev;injection hev with _ hs';subst hs'
  exact⟨_,⟨ns,hns,rfl,rfl⟩,hS3,hA1.trans (hp2.adv.trans (hmem▸hA3))⟩
def qEU (id:Nat):Code→Option Code
 |.region i ops d=>match Nat.beq i id with
  |true=>some (.region i ops d)
  |false=>none
 |.seq a b=>match qEU id a with
  |some c=>some c
  |none=>qEU id b
 |.block _ b=>qEU id b
 |.scope b=>qEU id b
 |.loop b=>qEU id b
 |.cond _ x y=>match qEU id x with
  |some c=>some c
  |none=>qEU id y
 |.rangeFunc _ _ a b=>match qEU id a with
  |some c=>some c
  |none=>qEU id b
 | _=>none
def qJo:Code→List Code
 |.seq a b=>qJo a++qJo b
 |.block _ b=>qJo b
 |.scope b=>qJo b
 |.loop b=>qJo b
 |.cond _ x y=>qJo x++qJo y
 |.rangeFunc g p a b=>[.rangeFunc g p a b]
 | _=>[]
def jEh (id:Nat) (c:Option Code):Code:=match c with
 |some c=>(qEU id c).getD .skip
 |none=>.skip
def rfC (k:Nat) (c:Option Code):Code:=match c with
 |some c=>(qJo c).getD k .skip
 |none=>.skip
def rfA:Code→Code
 |.rangeFunc _ _ a _=>a
 | _=>.skip
def rfB:Code→Code
 |.rangeFunc _ _ _ b=>b
 | _=>.skip
def rfP:Code→Array Tmp
 |.rangeFunc _ p _ _=>p
 | _=>#[]
def rfG:Code→Operand
 |.rangeFunc g _ _ _=>g
 | _=>.func 0
def qJv:Code→Array Oper
 |.region _ ops _=>ops
 | _=>#[]
def jEb:Code→Nat
 |.region i _ _=>i
 | _=>0
def qOK:Code→Bool
 |.region _ _ false=>true
 | _=>false
theorem qRE {c:Code} (h:qOK c=true):c=.region (jEb c) (qJv c) false:=by
 unfold qOK at h
 split at h
 ·rfl
 ·cases h
def jA4 (c:Code) (nt:Nat) (ks1:List (Nat×OpH)) (i:Nat) (ks2:List (Nat×OpH)) (psl:List (Nat×Bool)):Bool:=
 qOK c&&qEZ (qJv c)&&qTA (ks1++(i,.g)::ks2) 0 (qJv c).size&&Nat.beq (nnL ks1) 0&&Nat.beq (nnL ks2) 0&&qBg psl&&(match(qJv c)[i]?with
  |some o=>qUq nt o
  |none=>false)
def jAM (F:Blk→Prop) (P:Program) (nt:Nat) (c:Code) (ks1:List (Nat×OpH)) (i:Nat) (ks2:List (Nat×OpH)) (psl:List (Nat×Bool)) (k nb l:Nat) (args:List Value) (v:List Nat→Value) (out:List Nat→List (Option Blk))
  (ts ps:List Nat) (nx:Nat) (S:List Nat→St) (s:St):Prop:=match qB8 F P (qJv c) nt ks1 [] s with
 |some (vc1,s1)=>vc1∧match(qJv c)[i]?with
  |some o=>qIc s1.fs.env o.op.operands.toList=true∧qG5 s1.fs.env o.op.operands.toList∧jCJ (qJv c) s1.fs.env o=true∧execOp (rho s1.fs.env) o=Instr.yield l args.toArray∧
    (∀ns:List Nat,ns.length=k→Nat.ble psl.length (out ns).length=true)∧qWT F P l args (qB1 s1.fs.mem psl) k v out∧
    ∀ns:List Nat,ns.length=k→match qB8 F P (qJv c) nt ks2 [] (s1.apply o.dst ⟨.v (v ns),qAx psl s1.nx (out ns)⟩ nb) with
     |some (vc2,s2)=>vc2∧s2.keep ts ps nx=S ns
     |none=>False
  |none=>False
 |none=>False
theorem qZ9 {F:Blk→Prop} {P:Program} {nt:Nat} {c:Code} {s:St} (ks1:List (Nat×OpH)) (i:Nat) (ks2:List (Nat×OpH)) (psl:List (Nat×Bool)) (k nb l:Nat) (args:List Value) (v:List Nat→Value) (out:List Nat→List (Option Blk))
  (ts ps:List Nat) (nx:Nat) (S:List Nat→St) (hok:jA4 c nt ks1 i ks2 psl=true) (hev:jAM F P nt c ks1 i ks2 psl k nb l args v out ts ps nx S s):
  ∀ds,jAg F ds P nt c s (fun e s'=>∃x:List Nat,x.length=k∧e=Exit.normal∧Le (S x).fs s'.fs):=by
 intro ds
 unfold jA4 at hok
 simp only[Bool.and_eq_true] at hok
 obtain⟨⟨⟨⟨⟨⟨h1,h2⟩,h3⟩,h4⟩,h5⟩,h6⟩,h7⟩:=hok
 unfold jAM at hev
 split at hev
 ·rename_i vc1 s1 he1
  obtain⟨hv1,hev⟩:=hev
  split at hev
  ·rename_i o ho
   rw[ho] at h7
   simp only at h7
   obtain⟨k1,k2,hg,k3,k4,k5,k6⟩:=hev
   have hidx:=(qDi _ 0 (qJv c).size h3).1
   rw[Nat.sub_zero,←List.range_eq_range',List.map_append,List.map_cons] at hidx
   have key:=qR6 (ds:=ds) (F:=F) (P:=P) (nt:=nt) (id:=jEb c) (ops:=qJv c) (s:=s) (s1:=s1) (ks1:=ks1) (ks2:=ks2) (i:=i) (o:=o) (l:=l) (args:=args) (psl:=psl) (k:=k) (nb:=nb) (v:=v) (out:=out)
    h2 hidx (Nat.eq_of_beq_eq_true h4) (Nat.eq_of_beq_eq_true h5) he1 hv1 ho h7 hg k1 k2 (fun w=>by rw[k3]) h6 (fun ns hns=>Nat.le_of_ble_eq_true (k4 ns hns)) k5
    (fun ns=>match qB8 F P (qJv c) nt ks2 [] (s1.apply o.dst ⟨.v (v ns),qAx psl s1.nx (out ns)⟩ nb) with|some (vc2,_)=>vc2|none=>False)
    (fun ns=>match qB8 F P (qJv c) nt ks2 [] (s1.apply o.dst ⟨.v (v ns),qAx psl s1.nx (out ns)⟩ nb) with|some (_,s2)=>s2|none=>s1)
    (fun ns hns=>by
     have:=k6 ns hns
     split at this
     ·rename_i vc2 s2 he2
      rw[he2];exact⟨rfl,this.1⟩
     ·exact this.elim)
   rw[qRE h1]
   intro a w hs hF
   refine wp_mono (key a w hs hF) ?_
   rintro e a' w' ⟨s',⟨ns,hns,he,rfl⟩,hS,hA⟩
   refine⟨_,⟨ns,hns,he,?_⟩,hS,hA⟩
   have:=k6 ns hns
   split at this
   ·rename_i vc2 s2 he2
    rw[←this.2];exact qDK s2 ts ps nx
   ·exact this.elim
  ·exact hev.elim
 ·exact hev.elim
theorem qXF {F:Blk→Prop} {P:Program} {nt:Nat} {c:Code} {s:St} (gf:Nat) (caps:List Value) (psl:List (Nat×Bool)) (k nb:Nat) (v:List Nat→Value) (out:List Nat→List (Option Blk)) (pe:Option Code) (E:Exit)
  (ts ps:List Nat) (nx:Nat) (S:List Nat→St) (hc:c=.rangeFunc (rfG c) (rfP c) (rfA c) (rfB c)) (hg:qEW s.fs.env (rfG c)=some (.v (.func (.func gf) #[] caps.toArray))) (eg:∀args w,(callFunc gf args).run P w=.ok (.enter gf args) w)
  (hn:qBg psl=true) (hlen:∀ns:List Nat,ns.length=k→Nat.ble psl.length (out ns).length=true) (hpe:pe=none∧E=.normal∨pe=some .ret∧E=.ret∨∃id,pe=some (.exit id)∧E=.exit id)
  (hr:∀l D fn tm,jAo nt s.fs.env tm→qAb F P gf (yv l::caps) (some (qD4 l (qGb .ready none fn tm (rfP c) (rfA c) (rfB c) D))::qB1 s.fs.mem psl) k v
   (fun ns=>some (qD4 l (qGb (stL pe) pe fn tm (rfP c) (rfA c) (rfB c) D))::out ns))
  (hS:∀ns:List Nat,ns.length=k→(St.mk s.env (qAx psl s.nx (out ns)++s.mem) (s.nx+nb)).keep ts ps nx=S ns):
  ∀ds,jAg F ds P nt c s (fun e s'=>∃x:List Nat,x.length=k∧e=E∧Le (S x).fs s'.fs):=by
 intro ds a w hs hF
 have key:=qMh (ds:=ds) (nt:=nt) (ps:=rfP c) (asg:=rfA c) (bd:=rfB c) hg eg hn (fun ns hns=>Nat.le_of_ble_eq_true (hlen ns hns)) hpe nb hr a w hs hF
 rw[←hc] at key
 refine wp_mono key ?_
 rintro e a' w' ⟨s',⟨ns,hns,he,rfl⟩,hS',hA⟩
 exact⟨_,⟨ns,hns,he,hS ns hns▸qDK _ ts ps nx⟩,hS',hA⟩
end Go.Eng
end
section
namespace Go.Proofs.YtmdpendnbkajdaaDoor
open Go Go.Eng
abbrev qE7 (a:Fst) (b:List Nat) (c:Nat):=qC8 d0 a (pk b a.length c)
theorem jCP:qQj TP 75 3 61 int qDF (fun _=>0) eqI:=qQz (by kernel_rfl) (by kernel_rfl) fun w=>qAO (show qAa TP (zeroValue 61)=some (qDF fun _=>0) by kernel_rfl) w
theorem jEu:qQj TP 76 3 90 int ev0 () eqI:=qQz (by kernel_rfl) (by kernel_rfl) fun w=>qAO (show qAa TP (zeroValue 90)=some (ev0 ()) by kernel_rfl) w
theorem jC1:qQj TP 112 4 30 Value.bool u64 0 eqT:=qUE (by kernel_rfl) (by kernel_rfl) fun w=>qAO (show qAa TP (zeroValue 30)=some (u64 0) by kernel_rfl) w
theorem jD5:Tryd.prog.underlying 61=some (.array 32 5):=by kernel_rfl
theorem jDU:Tryd.prog.underlying 5=some (.int .u8):=by kernel_rfl
theorem jD2:qBZ TP 5=some 1:=by kernel_rfl
theorem jDZ:Tryd.prog.eqGuardType Tryd.prog.depth 61=false:=by kernel_rfl
theorem qRy (x y:UInt64):qEs TP 62 [(u64 x),(u64 y)] (qG7 (qLl (qBc x) (qBc y)).lo):=
 qAj mix Tryd.func62 rfl rfl 400 (.regn (rg [.new]) (more (fun n1=>fun _=>(.regn (rg [.g,(.call [] 0 0 (fun _=>(Value.agg #[(u64 x),(u64 0),(u64 0),(u64 0)])) (fun _=>[])),.g,(.call [] 0 0 (fun _=>(Value.agg #[(u64 y),(u64 0),(u64 0),(u64 0)])) (fun _=>[])),(.call [] 0 0 (fun _=>(qZe (qLl (N4.mk x 0 0 0) (N4.mk y 0 0 0)))) (fun _=>[])),.new,(.st 1 (.lit 0))]) (more (fun n2=>fun _=>(.reg (rg [.g,.g,(.ld 1 (.lit 0)),(.st 0 (.lit 0))]) .done))))))) [(0,0)]
  (Eq.mp (by kernel_rfl) (fun(n1:Nat)=>aI kV1 (fun(n2:Nat)=>aI (sk (aI (aT (qFr x)) (sk (aI (aT (qFr y)) (aI (aT (qWG (N4.mk x 0 0 0) (N4.mk y 0 0 0))) (sk (aI (aT (ad n2 0)) tV))))))) (aI (sK2 (aI (aT (ad n2 0)) (aI (aT (ad n1 0)) tV))) (aI (aI (@rfl Value (ptr n1 0)) tV) (@rfl Value (qG7 (qLl (qBc x) (qBc y)).lo)))))))
theorem qTx (x y:UInt64):qEs TP 39 [(u64 x),(u64 y)] (Value.bool (qGd x y)):=
 qAj mix Tryd.func39 rfl rfl 400 (.reg (rg [.g]) (.reg (rg [.g,(.call [] 0 0 (fun _=>(qG7 ((qLl (qBc x) (qBc 3)).lo))) (fun _=>[])),.g,(.call [] 0 0 (fun _=>(Value.agg #[(u64 y),(u64 0),(u64 0),(u64 0)])) (fun _=>[])),(.call [] 0 0 (fun _=>(int (qOg ((qLl (qBc x) (qBc 3)).lo) (N4.mk y 0 0 0)))) (fun _=>[])),.g,.g]) .done)) []
  (Eq.mp (by kernel_rfl) (aI kV1 (aI (sk (aI (aT (qRy x 3)) (sk (aI (aT (qFr y)) (aI (aT (qVj ((qLl (qBc x) (qBc 3)).lo) (N4.mk y 0 0 0))) kV2))))) (aT ((show(vB (decide (((qOg ((qLl (qBc x) (qBc 3)).lo) (N4.mk y 0 0 0)):Int)>0)))=vB (qGd x y) from congrArg vB qWw))))))
theorem qR8 (vb:Nat) (v w:Nat→UInt8):qBp TP 64 [(qCt 32 (fun k=>u8 (v k))),(ptr vb 0)] [⟨vb,false,0,(qDL 32 (fun k=>u8 (w k)))⟩] 0 (fun _=>Value.bool (sR v w)) (fun _=>[some ⟨vb,false,0,(qDL 32 (fun k=>u8 (w k)))⟩]):=
 qAh mix Tryd.func64 rfl rfl 400 (.regn (rg [.new,.g]) (more (fun n1=>fun _=>(.reg (rg [(.ld 1 (.lit 0)),(.ld 0 (.lit 0)),(.as (vB (sR v w))),.g]) .done)))) [] [] rfl
  (Eq.mp (by kernel_rfl) (fun(n1:Nat)=>aI kV2 (aI (aI (aT (ad n1 0)) (aI (aT (ad vb 0)) (aI (aT (qTv (P:=TP) (t:=61) (t':=61) (x:=(.tmp 4)) (y:=(.tmp 5)) jD5 jDU jD2 jDZ v w)) kV1))) (aT (eX (fun(ns:List Nat)=>ns.length=0∧((vB (sR v w)):Value)=(fun _=>vB (sR v w)) ns∧([some ⟨vb,false,0,(qDL 32 (fun k=>u8 (w k)))⟩]:List (Option Blk))=(fun _=>[some ⟨vb,false,0,(qDL 32 (fun k=>u8 (w k)))⟩]) ns) [] (aI (@rfl Nat 0) (aI (@rfl Value (vB (sR v w))) (@rfl (List (Option Blk)) [some ⟨vb,false,0,(qDL 32 (fun k=>u8 (w k)))⟩]))))))))
def qFU (t:Nat) (sp:Nat) (sc:Nat) (fm:Nat) (am:Nat) (n:Nat) (s:Nat→UInt64) (F:Fst) (vb:Nat) (w:Nat→UInt8) (n1:Nat) (n2:Nat) (x1:(List Nat)×(List (Bool×UInt64))):St:=⟨[(0,.v (ptr t 0)),(1,.v (Value.func (.func 64) #[] #[(ptr vb 0)])),(5,.v (vM (some n1))),(13,.v (ptr n2 0))],[(0,some ⟨t,false,0,(.lit [(vS (some ⟨sp,0,none⟩) n sc),(u64 ((qBm s n).a)),(vM (some fm)),(vM (some am))])⟩),(1,some ⟨sp,false,0,(qAd n (fun k=>u64 (s k)))⟩),(2,some ⟨fm,false,0,(qBM F)⟩),(3,some ⟨vb,false,0,(qDL 32 (fun k=>u8 (w k)))⟩),(4,some ⟨n1,true,0,(qWh x1.2)⟩),(5,some ⟨n2,true,0,(itC fm F.length x1.1)⟩)],6⟩
def qC0 (t:Nat) (sp:Nat) (sc:Nat) (fm:Nat) (am:Nat) (n:Nat) (s:Nat→UInt64) (F:Fst) (vb:Nat) (w:Nat→UInt8) (n1:Nat) (n2:Nat) (x1:(List Nat)×(List (Bool×UInt64))):Prop:=(qIw F.length x1.1)∧(x1.2=qTd s F w x1.1)
def qDp (t:Nat) (sp:Nat) (sc:Nat) (fm:Nat) (am:Nat) (n:Nat) (s:Nat→UInt64) (F:Fst) (vb:Nat) (w:Nat→UInt8) (n1:Nat) (n2:Nat) (x1:(List Nat)×(List (Bool×UInt64))):Nat:=qEX x1.1 F.length
theorem qRq (t sp sc fm am n:Nat) (s:Nat→UInt64) (F:Fst) (vb:Nat) (w:Nat→UInt8) (hV:VOk n s F):qBp TP 63 [(ptr t 0),(Value.func (.func 64) #[] #[(ptr vb 0)])] [⟨t,false,0,(.lit [(Value.slice (some ⟨sp,0,none⟩) n sc),(u64 (qBm s n).a),(Value.map (some fm)),(Value.map (some am))])⟩,⟨sp,false,0,(qAd n (fun k=>u64 (s k)))⟩,⟨fm,false,0,(qBM F)⟩,⟨vb,false,0,(qDL 32 (fun k=>u8 (w k)))⟩] 2 (fun(ns:List Nat)=>(Value.map (some (ns.getD 0 0)))) (fun(ns:List Nat)=>[some ⟨t,false,0,(.lit [(Value.slice (some ⟨sp,0,none⟩) n sc),(u64 (qBm s n).a),(Value.map (some fm)),(Value.map (some am))])⟩,some ⟨sp,false,0,(qAd n (fun k=>u64 (s k)))⟩,some ⟨fm,false,0,(qBM F)⟩,some ⟨vb,false,0,(qDL 32 (fun k=>u8 (w k)))⟩,some ⟨(ns.getD 0 0),true,0,(qWh (qTd s F w (qVO F.length (ns.getD 1 0))))⟩]):=
 qAh mix Tryd.func63 rfl rfl 400 (.reg (rg [.g]) (.regn (rg [(.oth [] 1 1 (fun ns=>vM (some (g0 ns))) (fun ns=>[some ⟨ns.getD 0 0,true,0,qWh []⟩])),.g]) (more (fun n1=>fun _=>(.regn (rg [.g,.g,.g,(.ld 0 (.lit 2)),(.othB [(2,true)] 1 1 (fun ns=>ptr (g0 ns) 0) (fun bs ns=>[none,some ⟨(g0 ns),true,0,itB bs⟩]))]) (more (fun n2=>fun _=>(.inv [0,1,5,13] [0,1,2,3,4,5] 6 (qC0 t sp sc fm am n s F vb w n1 n2) (qFU t sp sc fm am n s F vb w n1 n2) (qDp t sp sc fm am n s F vb w n1 n2) ((([]),([])):(List Nat)×(List (Bool×UInt64))) (fun(x1:(List Nat)×(List (Bool×UInt64)))=>(.both (qBe x1.1 F.length) (.regn (rg [(.oth [(5,false),(2,true)] 1 0 (fun ns=>(vT #[(vB true),(int (qC8 d0 F (pk x1.1 F.length (g0 ns))).1),(qCt 32 (fun k=>u8 ((qC8 d0 F (pk x1.1 F.length (g0 ns))).2 k)))])) (fun ns=>[some ⟨n2,true,0,(itC fm F.length (x1.1++[pk x1.1 F.length (g0 ns)]))⟩,none])),.g]) (more (fun n3=>fun _=>(.yes (.regn (rg [(.oth [(5,true),(2,true)] 0 0 (fun _=>(vT #[(int (qE7 F x1.1 n3).1),(qCt 32 (fun k=>u8 ((qE7 F x1.1 n3).2 k)))])) (fun _=>[none,none])),.g,.g,.new,.g,(.st 6 (.lit 0))]) (more (fun n4=>fun _=>(.reg (rg [.g,.g,(.ld 6 (.lit 0)),(.call [(3,true)] 0 0 (fun _=>(vB (sR (qE7 F x1.1 n3).2 w))) (fun _=>[none])),(.oth [(4,true)] 0 0 (fun _=>(u64 ((qAr eqT (sR (qE7 F x1.1 n3).2 w) x1.2).getD 0))) (fun _=>[none])),.g,.g,.g,(.ld 0 (.lit 0)),(.as (nat ((qE7 F x1.1 n3).1).toNat)),(.as (ptr sp (0+(((qE7 F x1.1 n3).1).toNat)*1))),(.ld 1 (.tab ((qE7 F x1.1 n3).1).toNat 0)),(.as (u64 (((qAr eqT (sR (qE7 F x1.1 n3).2 w) x1.2).getD 0)+(s ((qE7 F x1.1 n3).1).toNat)))),(.upd 4 (qWh (qCj eqT (sR (qE7 F x1.1 n3).2 w) (((qAr eqT (sR (qE7 F x1.1 n3).2 w) x1.2).getD 0)+(s ((qE7 F x1.1 n3).1).toNat)) x1.2)))]) .done)))))))) (.reg (rg [(.oth [(5,true),(2,true)] 0 0 (fun _=>vT #[.bool false]) (fun _=>[none,none])),.g]) (.no (.reg (rg [.g,.g]) .done))))))))))))) [] [4] rfl
  (Eq.mp (by kernel_rfl) (aI kV1 (fun(n1:Nat)=>aI (aI (aT (qGW (P:=TP) (kv:=vB) (ev:=u64) 112)) kV1) (fun(n2:Nat)=>aI (sK3 (aI (aT (ad t 2)) (aI (aT (qAz.dark [true] (qP9 (P:=TP) (mt:=75) (kv:=int) (ev:=qDF) jCP.hm fm false F))) tV))) (aI (show(qC0 t sp sc fm am n s F vb w n1 n2) ((([]),([])):(List Nat)×(List (Bool×UInt64))) from(show(qIw F.length ([]))∧(([])=qTd s F w ([])) from by exact⟨qIw.nil _,rfl⟩)) (aI (@rfl St ((qFU t sp sc fm am n s F vb w n1 n2) ((([]),([])):(List Nat)×(List (Bool×UInt64))))) (fun(x1:(List Nat)×(List (Bool×UInt64))) (hx1:(qC0 t sp sc fm am n s F vb w n1 n2) x1)=>have B0:qIw F.length x1.1:=hx1.1;have B1:x1.2=qTd s F w x1.1:=hx1.2;aI (fun(h1:(qBe x1.1 F.length)=true)=>fun(n3:Nat)=>aI (aI (aT (qAz.dark [false,true] (qQA (P:=TP) (kv:=int) (ev:=qDF) 0 n2 fm false F x1.1 d0 h1))) kV1) ((have f3:(pk x1.1 F.length n3)<F.length:=((qDH h1 n3)).1;have f4:0≤(qE7 F x1.1 n3).1∧(qE7 F x1.1 n3).1.toNat<n:=(hV.key (pk x1.1 F.length n3) ((qDH h1 n3)).1);aT (aI (@rfl Bool true) (fun(n4:Nat)=>aI (aI (aT (qP7 (P:=TP) (kv:=int) (ev:=qDF) n2 fm false false F x1.1 (pk x1.1 F.length n3) d0 (show pk x1.1 F.length n3<F.length from by omega))) (sK4 (aI (aT (ad n4 0)) tV))) (aI (sK2 (aI (aT (ad n4 0)) (aI (aT (qBp.dark [true] (qR8 vb (qE7 F x1.1 n3).2 w))) (aI (aT (qIO (P:=TP) jC1 n1 false x1.2 (sR (qE7 F x1.1 n3).2 w))) (sK3 (aI (aT (ad t 0)) (aI (aT (@qCh TP (.tmp 6) (qE7 F x1.1 n3).1 ((qE7 F x1.1 n3).1).toNat (show(((qE7 F x1.1 n3).1):Int)=((((qE7 F x1.1 n3).1).toNat:Nat):Int) from by omega))) (aI (aT (@qAf TP 22 30 (.tmp 27) (.tmp 28) 1 (by kernel_rfl) (by kernel_rfl) sp 0 n sc ((qE7 F x1.1 n3).1).toNat (show((qE7 F x1.1 n3).1).toNat<n from by omega))) (aI (aT (aI (show((qE7 F x1.1 n3).1).toNat<n from by omega) (@rfl Value (ptr sp (0+(((qE7 F x1.1 n3).1).toNat)*1))))) (aI (aT (@qBv TP 30 30 (.tmp 23) (.tmp 30) ((qAr eqT (sR (qE7 F x1.1 n3).2 w) x1.2).getD 0) (s ((qE7 F x1.1 n3).1).toNat))) (aI (aT (qGX (P:=TP) jC1 n1 x1.2 (sR (qE7 F x1.1 n3).2 w) (((qAr eqT (sR (qE7 F x1.1 n3).2 w) x1.2).getD 0)+(s ((qE7 F x1.1 n3).1).toNat)))) tV))))))))))) ((rnd (qC0 t sp sc fm am n s F vb w n1 n2) (qFU t sp sc fm am n s F vb w n1 n2) (qDp t sp sc fm am n s F vb w n1 n2) x1 (((x1.1++[pk x1.1 F.length n3]),(qCj eqT (sR (qE7 F x1.1 n3).2 w) (((qAr eqT (sR (qE7 F x1.1 n3).2 w) x1.2).getD 0)+(s ((qE7 F x1.1 n3).1).toNat)) x1.2)):(List Nat)×(List (Bool×UInt64))) (show(qC0 t sp sc fm am n s F vb w n1 n2) (((x1.1++[pk x1.1 F.length n3]),(qCj eqT (sR (qE7 F x1.1 n3).2 w) (((qAr eqT (sR (qE7 F x1.1 n3).2 w) x1.2).getD 0)+(s ((qE7 F x1.1 n3).1).toNat)) x1.2)):(List Nat)×(List (Bool×UInt64)))∧(qDp t sp sc fm am n s F vb w n1 n2) (((x1.1++[pk x1.1 F.length n3]),(qCj eqT (sR (qE7 F x1.1 n3).2 w) (((qAr eqT (sR (qE7 F x1.1 n3).2 w) x1.2).getD 0)+(s ((qE7 F x1.1 n3).1).toNat)) x1.2)):(List Nat)×(List (Bool×UInt64)))<(qDp t sp sc fm am n s F vb w n1 n2) x1 from(show((qIw F.length (x1.1++[pk x1.1 F.length n3]))∧((qCj eqT (sR (qE7 F x1.1 n3).2 w) (((qAr eqT (sR (qE7 F x1.1 n3).2 w) x1.2).getD 0)+(s ((qE7 F x1.1 n3).1).toNat)) x1.2)=qTd s F w (x1.1++[pk x1.1 F.length n3])))∧(qEX (x1.1++[pk x1.1 F.length n3]) F.length)<(qEX x1.1 F.length) from by exact⟨⟨B0.snoc h1 _,by rw[B1];exact(qZr eqT (fun i=>sR (vF F i) w) (sF s F) _ _).symm⟩,qGO (qDH h1 _).1 (qDH h1 _).2⟩)))))))))) (fun(h1:(qBe x1.1 F.length)=false)=>aI (aI (aT (qNz (P:=TP) (kv:=int) (ev:=qDF) 0 n2 fm false false F x1.1 h1)) kV1) (aT (aI (@rfl Bool false) (aI kV2 (aT (eX (fun(ns:List Nat)=>ns.length=2∧((vM (some n1)):Value)=(fun(ns:List Nat)=>(vM (some (g0 ns)))) ns∧([some ⟨t,false,0,(.lit [(vS (some ⟨sp,0,none⟩) n sc),(u64 (qBm s n).a),(vM (some fm)),(vM (some am))])⟩,some ⟨sp,false,0,(qAd n (fun k=>u64 (s k)))⟩,some ⟨fm,false,0,(qBM F)⟩,some ⟨vb,false,0,(qDL 32 (fun k=>u8 (w k)))⟩,some ⟨n1,true,0,(qWh x1.2)⟩]:List (Option Blk))=(fun(ns:List Nat)=>[some ⟨t,false,0,(.lit [(vS (some ⟨sp,0,none⟩) n sc),(u64 (qBm s n).a),(vM (some fm)),(vM (some am))])⟩,some ⟨sp,false,0,(qAd n (fun k=>u64 (s k)))⟩,some ⟨fm,false,0,(qBM F)⟩,some ⟨vb,false,0,(qDL 32 (fun k=>u8 (w k)))⟩,some ⟨(g0 ns),true,0,(qWh (qTd s F w (qVO F.length (g1 ns))))⟩]) ns) [n1,(qUT x1.1)] (aI (@rfl Nat 2) (aI (@rfl Value (vM (some n1))) ((show([some ⟨t,false,0,(.lit [(vS (some ⟨sp,0,none⟩) n sc),(u64 (qBm s n).a),(vM (some fm)),(vM (some am))])⟩,some ⟨sp,false,0,(qAd n (fun k=>u64 (s k)))⟩,some ⟨fm,false,0,(qBM F)⟩,some ⟨vb,false,0,(qDL 32 (fun k=>u8 (w k)))⟩,some ⟨n1,true,0,(qWh x1.2)⟩]:List (Option Blk))=[some ⟨t,false,0,(.lit [(vS (some ⟨sp,0,none⟩) n sc),(u64 (qBm s n).a),(vM (some fm)),(vM (some am))])⟩,some ⟨sp,false,0,(qAd n (fun k=>u64 (s k)))⟩,some ⟨fm,false,0,(qBM F)⟩,some ⟨vb,false,0,(qDL 32 (fun k=>u8 (w k)))⟩,some ⟨n1,true,0,(qWh (qTd s F w (qVO F.length (qUT x1.1))))⟩] from by rw[qVb (show qUv F.length x1.1 from⟨B0,h1⟩) (Nat.le_trans hV.len (by decide)),←B1])))))))))))))))))
theorem qV3 (t sp sc fm am n:Nat) (s:Nat→UInt64) (F:Fst) (v:Nat→UInt8) (hV:VOk n s F):qBp TP 40 [(ptr t 0),(qCt 32 (fun k=>u8 (v k)))] [⟨t,false,0,(.lit [(Value.slice (some ⟨sp,0,none⟩) n sc),(u64 ((qBm s n).a)),(Value.map (some fm)),(Value.map (some am))])⟩,⟨sp,false,0,(qAd n (fun k=>u64 (s k)))⟩,⟨fm,false,0,(qBM F)⟩] 0 (fun _=>u64 (forV s F v)) (fun _=>[some ⟨t,false,0,(.lit [(Value.slice (some ⟨sp,0,none⟩) n sc),(u64 ((qBm s n).a)),(Value.map (some fm)),(Value.map (some am))])⟩,some ⟨sp,false,0,(qAd n (fun k=>u64 (s k)))⟩,some ⟨fm,false,0,(qBM F)⟩]):=
 qAh mix Tryd.func40 rfl rfl 400 (.regn (rg [.new,.g]) (more (fun n1=>fun _=>(.regn (rg [.g,.g,(.call [(0,true),(1,true),(2,true),(3,true)] 2 1 (fun ns=>vM (some (g0 ns))) (fun ns=>[none,none,none,none,some ⟨(g0 ns),true,0,(qWh (qTd s F v (qVO F.length (g1 ns))))⟩])),(.oth [(4,true)] 0 0 (fun _=>(u64 (forV s F v))) (fun _=>[none])),.g]) (more (fun n2=>more (fun n3=>fun _=>.done))))))) [] [] rfl
  (Eq.mp (by kernel_rfl) (fun(n1:Nat)=>aI kV2 (fun(n2 n3:Nat)=>aI (sK2 (aI (aT (qBp.dark [true,true,true,true] (qRq t sp sc fm am n s F n1 v hV))) (aI (aT (qAz.valE (qIO (P:=TP) jC1 n2 false (qTd s F v (qVO F.length n3)) true) (congrArg u64 (qYV hV v (qZJ _ _))))) kV1))) (aT (eX (fun(ns:List Nat)=>ns.length=0∧((u64 (forV s F v)):Value)=(fun _=>u64 (forV s F v)) ns∧([some ⟨t,false,0,(.lit [(vS (some ⟨sp,0,none⟩) n sc),(u64 (qBm s n).a),(vM (some fm)),(vM (some am))])⟩,some ⟨sp,false,0,(qAd n (fun k=>u64 (s k)))⟩,some ⟨fm,false,0,(qBM F)⟩]:List (Option Blk))=(fun _=>[some ⟨t,false,0,(.lit [(vS (some ⟨sp,0,none⟩) n sc),(u64 (qBm s n).a),(vM (some fm)),(vM (some am))])⟩,some ⟨sp,false,0,(qAd n (fun k=>u64 (s k)))⟩,some ⟨fm,false,0,(qBM F)⟩]) ns) [] (aI (@rfl Nat 0) (aI (@rfl Value (u64 (forV s F v))) (@rfl (List (Option Blk)) [some ⟨t,false,0,(.lit [(vS (some ⟨sp,0,none⟩) n sc),(u64 (qBm s n).a),(vM (some fm)),(vM (some am))])⟩,some ⟨sp,false,0,(qAd n (fun k=>u64 (s k)))⟩,some ⟨fm,false,0,(qBM F)⟩]))))))))
theorem qRi (t sp sc fm am n:Nat) (s:Nat→UInt64) (F:Fst) (v:Nat→UInt8) (hV:VOk n s F):qBp TP 22 [(ptr t 0),(qCt 32 (fun k=>u8 (v k)))] [⟨t,false,0,(.lit [(Value.slice (some ⟨sp,0,none⟩) n sc),(u64 ((qBm s n).a)),(Value.map (some fm)),(Value.map (some am))])⟩,⟨sp,false,0,(qAd n (fun k=>u64 (s k)))⟩,⟨fm,false,0,(qBM F)⟩] 0 (fun _=>Value.bool (qGd (forV s F v) (qBm s n).a)) (fun _=>[some ⟨t,false,0,(.lit [(Value.slice (some ⟨sp,0,none⟩) n sc),(u64 ((qBm s n).a)),(Value.map (some fm)),(Value.map (some am))])⟩,some ⟨sp,false,0,(qAd n (fun k=>u64 (s k)))⟩,some ⟨fm,false,0,(qBM F)⟩]):=
 qAh mix Tryd.func22 rfl rfl 400 (.regn (rg [.new,.g]) (more (fun n1=>fun _=>(.reg (rg [.g,(.ld 3 (.lit 0)),(.call [(0,true),(1,true),(2,true)] 0 0 (fun _=>(u64 (forV s F v))) (fun _=>[none,none,none])),.g,.g,.g,(.ld 0 (.lit 1)),(.call [] 0 0 (fun _=>(vB (qGd (forV s F v) ((qBm s n).a)))) (fun _=>[])),.g]) .done)))) [] [] rfl
  (Eq.mp (by kernel_rfl) (fun(n1:Nat)=>aI kV2 (aI (sk (aI (aT (ad n1 0)) (aI (aT (qBp.dark [true,true,true] (qV3 t sp sc fm am n s F v hV))) (sK3 (aI (aT (ad t 1)) (aI (aT (qTx (forV s F v) (qBm s n).a)) kV1)))))) (aT (eX (fun(ns:List Nat)=>ns.length=0∧((vB (qGd (forV s F v) (qBm s n).a)):Value)=(fun _=>vB (qGd (forV s F v) (qBm s n).a)) ns∧([some ⟨t,false,0,(.lit [(vS (some ⟨sp,0,none⟩) n sc),(u64 (qBm s n).a),(vM (some fm)),(vM (some am))])⟩,some ⟨sp,false,0,(qAd n (fun k=>u64 (s k)))⟩,some ⟨fm,false,0,(qBM F)⟩]:List (Option Blk))=(fun _=>[some ⟨t,false,0,(.lit [(vS (some ⟨sp,0,none⟩) n sc),(u64 (qBm s n).a),(vM (some fm)),(vM (some am))])⟩,some ⟨sp,false,0,(qAd n (fun k=>u64 (s k)))⟩,some ⟨fm,false,0,(qBM F)⟩]) ns) [] (aI (@rfl Nat 0) (aI (@rfl Value (vB (qGd (forV s F v) (qBm s n).a))) (@rfl (List (Option Blk)) [some ⟨t,false,0,(.lit [(vS (some ⟨sp,0,none⟩) n sc),(u64 (qBm s n).a),(vM (some fm)),(vM (some am))])⟩,some ⟨sp,false,0,(qAd n (fun k=>u64 (s k)))⟩,some ⟨fm,false,0,(qBM F)⟩]))))))))
theorem qQU (t sp sc fm am n:Nat) (s:Nat→UInt64) (F:Fst) (who:Int):qBp TP 38 [(ptr t 0),(int who)] [⟨t,false,0,(.lit [(Value.slice (some ⟨sp,0,none⟩) n sc),(u64 ((qBm s n).a)),(Value.map (some fm)),(Value.map (some am))])⟩,⟨fm,false,0,(qBM F)⟩] 0 (fun _=>Value.tuple #[qDF ((qAr eqI who F).getD (fun _=>0)),.bool (qAr eqI who F).isSome]) (fun _=>[some ⟨t,false,0,(.lit [(Value.slice (some ⟨sp,0,none⟩) n sc),(u64 ((qBm s n).a)),(Value.map (some fm)),(Value.map (some am))])⟩,some ⟨fm,false,0,(qBM F)⟩]):=
 qAh mix Tryd.func38 rfl rfl 400 (.regn (rg [.new,.g]) (more (fun n1=>fun _=>(.regn (rg [.g,.g,.g,(.ld 0 (.lit 2)),.g,(.oth [(1,true)] 0 0 (fun _=>(vT #[(qCt 32 (fun k=>u8 ((qAr eqI who F).getD (fun _=>0) k))),(vB ((qAr eqI who F).isSome))])) (fun _=>[none])),.g,.g,.g,.new,(.st 3 (.lit 0)),.g]) (more (fun n2=>fun _=>(.reg (rg [(.ld 3 (.lit 0)),.g,(.st 2 (.lit 0)),.g]) .done))))))) [(2,0)] [] rfl
  (Eq.mp (by kernel_rfl) (fun(n1:Nat)=>aI kV2 (fun(n2:Nat)=>aI (sK3 (aI (aT (ad t 2)) (sk (aI (aT (qSw (P:=TP) jCP fm false F who)) (sK4 (aI (aT (ad n2 0)) kV1)))))) (aI (aI (aT (ad n2 0)) (sk (aI (aT (ad n1 0)) kV1))) (aI (aI (@rfl Value (ptr n1 0)) tV) (eX (fun(ns:List Nat)=>ns.length=0∧((vT #[(qCt 32 (fun k=>u8 ((qAr eqI who F).getD (fun _=>0) k))),(vB ((qAr eqI who F).isSome))]):Value)=(fun _=>vT #[qDF ((qAr eqI who F).getD (fun _=>0)),.bool (qAr eqI who F).isSome]) ns∧([some ⟨t,false,0,(.lit [(vS (some ⟨sp,0,none⟩) n sc),(u64 (qBm s n).a),(vM (some fm)),(vM (some am))])⟩,some ⟨fm,false,0,(qBM F)⟩]:List (Option Blk))=(fun _=>[some ⟨t,false,0,(.lit [(vS (some ⟨sp,0,none⟩) n sc),(u64 (qBm s n).a),(vM (some fm)),(vM (some am))])⟩,some ⟨fm,false,0,(qBM F)⟩]) ns) [] (aI (@rfl Nat 0) (aI (@rfl Value (vT #[qDF ((qAr eqI who F).getD (fun _=>0)),.bool (qAr eqI who F).isSome])) (@rfl (List (Option Blk)) [some ⟨t,false,0,(.lit [(vS (some ⟨sp,0,none⟩) n sc),(u64 (qBm s n).a),(vM (some fm)),(vM (some am))])⟩,some ⟨fm,false,0,(qBM F)⟩])))))))))
abbrev qTM (a:Int):=decide ((a:Int)<0)
def vz (sp n sc:Nat) (s:Nat→UInt64) (fm am:Nat):qAI:=.lit [(Value.slice (some ⟨sp,0,none⟩) n sc),(u64 ((qBm s n).a)),(Value.map (some fm)),(Value.map (some am))]
theorem qHV (t sp sc fm am n:Nat) (s:Nat→UInt64) (F:Fst) (A:List (Int×Unit)) (who:Int) (v:Nat→UInt8) (hn:n≤40):qBp TP 20 [(ptr t 0),(int who),(qCt 32 (fun k=>u8 (v k)))] [⟨t,false,0,(vz sp n sc s fm am)⟩,⟨sp,false,0,(qAd n (fun k=>u64 (s k)))⟩,⟨fm,true,0,(qBM F)⟩,⟨am,true,0,(qDT A)⟩] 0 (fun _=>int (qAF n s F who v)) (fun _=>[some ⟨t,false,0,(vz sp n sc s fm am)⟩,some ⟨sp,false,0,(qAd n (fun k=>u64 (s k)))⟩,some ⟨fm,true,0,(qBM (qBj n s F who v))⟩,some ⟨am,true,0,(qDT (qBK n s F A who v))⟩]):=
 qAh mix Tryd.func20 rfl rfl 400 (.regn (rg [.new,.g]) (more (fun n1=>fun _=>(.reg (rg [.g,.g,.g,(.opt .g),(.opt .g),(.opt .g),(.opt .g),(.opt (.ld 0 (.lit 0))),(.opt (.as (nat n))),(.opt .g),.pk]) (.br (.reg (rg [.g]) .done) (.reg (rg [.g,.g,.g,(.ld 0 (.lit 0)),(.as (nat who.toNat)),(.as (ptr sp (0+who.toNat*1))),(.ld 1 (.tab who.toNat 0)),(.as (vB ((s who.toNat)==0)))]) (.br (.reg (rg [.g]) .done) (.regn (rg [.g,.g,(.call [(0,true),(2,true)] 0 0 (fun _=>(vT #[(qCt 32 (fun k=>u8 ((qAr eqI who F).getD (fun _=>0) k))),(vB ((qAr eqI who F).isSome))])) (fun _=>[none,none])),.g,.g,.g,.new,(.st 5 (.lit 0)),.g]) (more (fun n2=>fun _=>(.reg (rg [.g,.g,.g]) (.br (.reg (rg [.g,.g,.g,(.ld 0 (.lit 2)),.g,(.ld 4 (.lit 0)),(.upd 2 (qBM (qCj eqI who v F)))]) (.reg (rg [.g]) .done)) (.reg (rg [(.ld 5 (.lit 0)),(.ld 4 (.lit 0)),(.as (vB (sR ((qAr eqI who F).getD (fun _=>0)) v))),.g]) (.br (.reg (rg [.g]) .done) (.reg (rg [.g,.g,.g,(.ld 0 (.lit 3)),.g,.g,(.upd 3 (qDT (qCj eqI who () A)))]) (.reg (rg [.g]) .done)))))))))))))))) [] [] rfl
  (Eq.mp (by kernel_rfl) (fun(n1:Nat)=>aI kV2 (aI (sK3 (aI (fun(hg:(sB (qTM who) false)=true)=>t2) (aI (fun(hg:(sB (qTM who) false)=true)=>t2) (aI (fun(hg:(sB (qTM who) false)=true)=>(aI (aI hg tV) tV)) (aI (fun(hg:(sB (qTM who) false)=true)=>(aI (aI hg tV) tV)) (aI (fun(hg:(sB (qTM who) false)=true)=>(aI (aI hg tV) (ad t 0))) (aI (fun(hg:(sB (qTM who) false)=true)=>have f1:¬((who:Int)<0):=(oF (qBF hg));(aI (aI hg tV) (@qAw TP 22 30 (.tmp 16) (by kernel_rfl) (some ⟨sp,0,none⟩) n sc))) (aI (fun(hg:(sB (qTM who) false)=true)=>(aI (aI hg (aI hg tV)) tV)) (aI (aT (aI (fun(_:(qTM who)=true)=>tV) (fun(hp:(qTM who)=false)=>(qBf hp)))) tV))))))))) (aT (aI (fun(h1:(qA1 (qTM who) true (decide ((who:Int)≥((n:Nat):Int))))=true)=>have f1:(((who:Int)<0))∨(((who:Int)≥((n:Nat):Int))):=(Or.imp (fun h=>(oT h)) (fun h=>(oT h)) (qKV h1));aI kV1 (aT (eX (fun(ns:List Nat)=>ns.length=0∧((int 1):Value)=(fun _=>int (qAF n s F who v)) ns∧([some ⟨t,false,0,(vz sp n sc s fm am)⟩,some ⟨sp,false,0,(qAd n (fun k=>u64 (s k)))⟩,some ⟨fm,true,0,(qBM F)⟩,some ⟨am,true,0,(qDT A)⟩]:List (Option Blk))=(fun _=>[some ⟨t,false,0,(vz sp n sc s fm am)⟩,some ⟨sp,false,0,(qAd n (fun k=>u64 (s k)))⟩,some ⟨fm,true,0,(qBM (qBj n s F who v))⟩,some ⟨am,true,0,(qDT (qBK n s F A who v))⟩]) ns) [] (aI (@rfl Nat 0) (aI ((show(int 1)=int (qAF n s F who v) from by rw[qSU (by omega)])) ((show([some ⟨t,false,0,(vz sp n sc s fm am)⟩,some ⟨sp,false,0,(qAd n (fun k=>u64 (s k)))⟩,some ⟨fm,true,0,(qBM F)⟩,some ⟨am,true,0,(qDT A)⟩]:List (Option Blk))=[some ⟨t,false,0,(vz sp n sc s fm am)⟩,some ⟨sp,false,0,(qAd n (fun k=>u64 (s k)))⟩,some ⟨fm,true,0,(qBM (qBj n s F who v))⟩,some ⟨am,true,0,(qDT (qBK n s F A who v))⟩] from by rw[(qGQ (A:=A) (qSU (by omega)) (by decide) (by decide)).1,(qGQ (A:=A) (qSU (by omega)) (by decide) (by decide)).2]))))))) (fun(h1:(qA1 (qTM who) true (decide ((who:Int)≥((n:Nat):Int))))=false)=>have f1:¬((who:Int)<0):=(oF (qFu h1));have f2:¬((who:Int)≥((n:Nat):Int)):=(oF (qFf h1));aI (sK3 (aI (aT (ad t 0)) (aI (aT (@qCh TP (.tmp 1) who who.toNat (show(who:Int)=((who.toNat:Nat):Int) from by omega))) (aI (aT (@qAf TP 22 30 (.tmp 23) (.tmp 24) 1 (by kernel_rfl) (by kernel_rfl) sp 0 n sc who.toNat (show who.toNat<n from by omega))) (aI (aT (aI (show who.toNat<n from by omega) (@rfl Value (ptr sp (0+who.toNat*1))))) (aI (aT (@qJZ TP 30 30 (.tmp 26) (.const (.int .u64 0)) (s who.toNat) 0)) tV)))))) (aT (aI (fun(h2:((s who.toNat)==0)=true)=>aI kV1 (aT (eX (fun(ns:List Nat)=>ns.length=0∧((int 51):Value)=(fun _=>int (qAF n s F who v)) ns∧([some ⟨t,false,0,(vz sp n sc s fm am)⟩,some ⟨sp,false,0,(qAd n (fun k=>u64 (s k)))⟩,some ⟨fm,true,0,(qBM F)⟩,some ⟨am,true,0,(qDT A)⟩]:List (Option Blk))=(fun _=>[some ⟨t,false,0,(vz sp n sc s fm am)⟩,some ⟨sp,false,0,(qAd n (fun k=>u64 (s k)))⟩,some ⟨fm,true,0,(qBM (qBj n s F who v))⟩,some ⟨am,true,0,(qDT (qBK n s F A who v))⟩]) ns) [] (aI (@rfl Nat 0) (aI ((show(int 51)=int (qAF n s F who v) from by rw[qOR (by omega) h2])) ((show([some ⟨t,false,0,(vz sp n sc s fm am)⟩,some ⟨sp,false,0,(qAd n (fun k=>u64 (s k)))⟩,some ⟨fm,true,0,(qBM F)⟩,some ⟨am,true,0,(qDT A)⟩]:List (Option Blk))=[some ⟨t,false,0,(vz sp n sc s fm am)⟩,some ⟨sp,false,0,(qAd n (fun k=>u64 (s k)))⟩,some ⟨fm,true,0,(qBM (qBj n s F who v))⟩,some ⟨am,true,0,(qDT (qBK n s F A who v))⟩] from by rw[(qGQ (A:=A) (qOR (by omega) h2) (by decide) (by decide)).1,(qGQ (A:=A) (qOR (by omega) h2) (by decide) (by decide)).2]))))))) (fun(h2:((s who.toNat)==0)=false)=>fun(n2:Nat)=>aI (sK2 (aI (aT (qBp.dark [true,true] (qQU t sp sc fm am n s F who))) (sK4 (aI (aT (ad n2 0)) kV1)))) (aI kV3 (aT (aI (fun(h3:(!((qAr eqI who F).isSome))=true)=>have f4:((qAr eqI who F).isSome)=false:=(qBh h3);aI (sK3 (aI (aT (ad t 2)) (sk (aI (aT (ad n1 0)) (aI (aT (qGX (P:=TP) jCP fm F who v)) tV))))) (aI kV1 (aT (eX (fun(ns:List Nat)=>ns.length=0∧((int 0):Value)=(fun _=>int (qAF n s F who v)) ns∧([some ⟨t,false,0,(vz sp n sc s fm am)⟩,some ⟨sp,false,0,(qAd n (fun k=>u64 (s k)))⟩,some ⟨fm,true,0,(qBM (qCj eqI who v F))⟩,some ⟨am,true,0,(qDT A)⟩]:List (Option Blk))=(fun _=>[some ⟨t,false,0,(vz sp n sc s fm am)⟩,some ⟨sp,false,0,(qAd n (fun k=>u64 (s k)))⟩,some ⟨fm,true,0,(qBM (qBj n s F who v))⟩,some ⟨am,true,0,(qDT (qBK n s F A who v))⟩]) ns) [] (aI (@rfl Nat 0) (aI ((show(int 0)=int (qAF n s F who v) from by rw[qUy (by omega) h2 (qBh h3)])) ((show([some ⟨t,false,0,(vz sp n sc s fm am)⟩,some ⟨sp,false,0,(qAd n (fun k=>u64 (s k)))⟩,some ⟨fm,true,0,(qBM (qCj eqI who v F))⟩,some ⟨am,true,0,(qDT A)⟩]:List (Option Blk))=[some ⟨t,false,0,(vz sp n sc s fm am)⟩,some ⟨sp,false,0,(qAd n (fun k=>u64 (s k)))⟩,some ⟨fm,true,0,(qBM (qBj n s F who v))⟩,some ⟨am,true,0,(qDT (qBK n s F A who v))⟩] from by rw[(qOy (A:=A) (qUy (by omega) h2 (qBh h3))).1,(qOy (A:=A) (qUy (by omega) h2 (qBh h3))).2])))))))) (fun(h3:(!((qAr eqI who F).isSome))=false)=>have f4:((qAr eqI who F).isSome)=true:=(qAY h3);aI (aI (aT (ad n2 0)) (aI (aT (ad n1 0)) (aI (aT (qTv (P:=TP) (t:=61) (t':=61) (x:=(.tmp 44)) (y:=(.tmp 45)) jD5 jDU jD2 jDZ ((qAr eqI who F).getD (fun _=>0)) v)) kV1))) (aT (aI (fun(h4:(sR ((qAr eqI who F).getD (fun _=>0)) v)=true)=>aI kV1 (aT (eX (fun(ns:List Nat)=>ns.length=0∧((int 13):Value)=(fun _=>int (qAF n s F who v)) ns∧([some ⟨t,false,0,(vz sp n sc s fm am)⟩,some ⟨sp,false,0,(qAd n (fun k=>u64 (s k)))⟩,some ⟨fm,true,0,(qBM F)⟩,some ⟨am,true,0,(qDT A)⟩]:List (Option Blk))=(fun _=>[some ⟨t,false,0,(vz sp n sc s fm am)⟩,some ⟨sp,false,0,(qAd n (fun k=>u64 (s k)))⟩,some ⟨fm,true,0,(qBM (qBj n s F who v))⟩,some ⟨am,true,0,(qDT (qBK n s F A who v))⟩]) ns) [] (aI (@rfl Nat 0) (aI ((show(int 13)=int (qAF n s F who v) from by rw[qOk (by omega) h2 (qAY h3) h4])) ((show([some ⟨t,false,0,(vz sp n sc s fm am)⟩,some ⟨sp,false,0,(qAd n (fun k=>u64 (s k)))⟩,some ⟨fm,true,0,(qBM F)⟩,some ⟨am,true,0,(qDT A)⟩]:List (Option Blk))=[some ⟨t,false,0,(vz sp n sc s fm am)⟩,some ⟨sp,false,0,(qAd n (fun k=>u64 (s k)))⟩,some ⟨fm,true,0,(qBM (qBj n s F who v))⟩,some ⟨am,true,0,(qDT (qBK n s F A who v))⟩] from by rw[(qGQ (A:=A) (qOk (by omega) h2 (qAY h3) h4) (by decide) (by decide)).1,(qGQ (A:=A) (qOk (by omega) h2 (qAY h3) h4) (by decide) (by decide)).2]))))))) (fun(h4:(sR ((qAr eqI who F).getD (fun _=>0)) v)=false)=>aI (sK3 (aI (aT (ad t 3)) (sK2 (aI (aT (qGX (P:=TP) jEu am A who ())) tV)))) (aI kV1 (aT (eX (fun(ns:List Nat)=>ns.length=0∧((int 52):Value)=(fun _=>int (qAF n s F who v)) ns∧([some ⟨t,false,0,(vz sp n sc s fm am)⟩,some ⟨sp,false,0,(qAd n (fun k=>u64 (s k)))⟩,some ⟨fm,true,0,(qBM F)⟩,some ⟨am,true,0,(qDT (qCj eqI who () A))⟩]:List (Option Blk))=(fun _=>[some ⟨t,false,0,(vz sp n sc s fm am)⟩,some ⟨sp,false,0,(qAd n (fun k=>u64 (s k)))⟩,some ⟨fm,true,0,(qBM (qBj n s F who v))⟩,some ⟨am,true,0,(qDT (qBK n s F A who v))⟩]) ns) [] (aI (@rfl Nat 0) (aI ((show(int 52)=int (qAF n s F who v) from by rw[qPg (by omega) h2 (qAY h3) h4])) ((show([some ⟨t,false,0,(vz sp n sc s fm am)⟩,some ⟨sp,false,0,(qAd n (fun k=>u64 (s k)))⟩,some ⟨fm,true,0,(qBM F)⟩,some ⟨am,true,0,(qDT (qCj eqI who () A))⟩]:List (Option Blk))=[some ⟨t,false,0,(vz sp n sc s fm am)⟩,some ⟨sp,false,0,(qAd n (fun k=>u64 (s k)))⟩,some ⟨fm,true,0,(qBM (qBj n s F who v))⟩,some ⟨am,true,0,(qDT (qBK n s F A who v))⟩] from by rw[(qMf (A:=A) (qPg (by omega) h2 (qAY h3) h4)).1,(qMf (A:=A) (qPg (by omega) h2 (qAY h3) h4)).2])))))))))))))))))))))))
theorem jBG (ao:Option Addr) (c:Nat):qBp TP 15 [(Value.slice ao 0 c)] [] 0 (fun _=>Value.tuple #[.pointer none,int 2]) (fun _=>[]):=
 qAh mix Tryd.func15 rfl rfl 400 (.reg (rg [.g,.g]) (.reg (rg [.g,(.as (int 0)),.g,.g,.skip,.skip,.skip,.pk]) (.yes (.reg (rg [.g,.g]) .done)))) [] [] rfl
  (Eq.mp (by kernel_rfl) (aI kV2 (aI (sk (aI (aT (@qAw TP 22 30 (.tmp 5) (by kernel_rfl) ao 0 c)) (sK2 (aI (@rfl Bool false) (aI (@rfl Bool false) (aI (@rfl Bool false) (aI (aT (aI (fun(_:true=true)=>tV) (fun(_:true=false)=>tV))) tV))))))) (aT (aI (@rfl Bool true) (aI kV2 (aT (eX (fun(ns:List Nat)=>ns.length=0∧((vT #[(Value.pointer none),(int 2)]):Value)=(fun _=>vT #[.pointer none,int 2]) ns∧([]:List (Option Blk))=(fun _=>[]) ns) [] (aI (@rfl Nat 0) (aI (@rfl Value (vT #[.pointer none,int 2])) (@rfl (List (Option Blk)) [])))))))))))
theorem qVX (p o n c:Nat) (f:Nat→UInt64) (hp:0<n) (hn:n≤9223372036854775807) (hg:¬qGa n f):qBp TP 15 [(Value.slice (some ⟨p,o,none⟩) n c)] [⟨p,false,o,(qAd n (fun k=>u64 (f k)))⟩] 0 (fun _=>Value.tuple #[.pointer none,int (qMX n f)]) (fun _=>[some ⟨p,false,o,(qAd n (fun k=>u64 (f k)))⟩]):=
 qAh mix Tryd.func15 rfl rfl 400 (.reg (rg [.g,.g]) (.reg (rg [.g,(.as (nat n)),(.as (vB (decide (n<1)))),.g,(.opt .g),(.opt (.as (nat n))),(.opt (.as (vB (decide (40<n))))),.pk]) (.br (.reg (rg [.g,.g]) .done) (.regn (rg [.g,(.call [(0,true)] 0 0 (fun _=>(qG7 (qBm f n))) (fun _=>[none])),.new,(.st 1 (.lit 0))]) (more (fun n1=>fun _=>(.reg (rg [(.ld 1 (.lit 0)),(.call [] 0 0 (fun _=>(nat (qEe (qBm f n)))) (fun _=>[])),(.as (vB (decide (63<(qEe (qBm f n))))))]) (.yes (.reg (rg [.g,.g]) .done))))))))) [] [] rfl
  (Eq.mp (by kernel_rfl) (aI kV2 (aI (sk (aI (aT (@qAw TP 22 30 (.tmp 5) (by kernel_rfl) (some ⟨p,o,none⟩) n c)) (aI (aT (@qAN TP 3 3 (.tmp 6) (.const (.int .i64 1))  n 1)) (sk (aI (fun(hg:(sB (decide (n<1)) false)=true)=>t2) (aI (fun(hg:(sB (decide (n<1)) false)=true)=>have f2:¬(n<1):=(oF (qBF hg));(aI (aI hg tV) (@qAw TP 22 30 (.tmp 9) (by kernel_rfl) (some ⟨p,o,none⟩) n c))) (aI (fun(hg:(sB (decide (n<1)) false)=true)=>(aI (aI hg tV) (@qA5 TP 3 3 (.tmp 10) (.const (.int .i64 40))  n 40))) (aI (aT (aI (fun(_:(decide (n<1))=true)=>tV) (fun(hp:(decide (n<1))=false)=>(qBf hp)))) tV)))))))) (aT (aI (fun(h1:(qA1 (decide (n<1)) true (decide (40<n)))=true)=>have f2:((n<1))∨((40<n)):=(Or.imp (fun h=>(oT h)) (fun h=>(oT h)) (qKV h1));aI kV2 (aT (eX (fun(ns:List Nat)=>ns.length=0∧((vT #[(Value.pointer none),(int 2)]):Value)=(fun _=>vT #[.pointer none,int (qMX n f)]) ns∧([some ⟨p,false,o,(qAd n (fun k=>u64 (f k)))⟩]:List (Option Blk))=(fun _=>[some ⟨p,false,o,(qAd n (fun k=>u64 (f k)))⟩]) ns) [] (aI (@rfl Nat 0) (aI ((show(vT #[(Value.pointer none),(int 2)])=vT #[.pointer none,int (qMX n f)] from by unfold qMX;rw[if_pos (by omega)]<;>rfl)) (@rfl (List (Option Blk)) [some ⟨p,false,o,(qAd n (fun k=>u64 (f k)))⟩])))))) (fun(h1:(qA1 (decide (n<1)) true (decide (40<n)))=false)=>have f2:¬(n<1):=(oF (qFu h1));have f3:¬(40<n):=(oF (qFf h1));fun(n1:Nat)=>aI (sk (aI (aT (qBp.dark [true] (qLK p o n c f (show n≤9223372036854775807 from by omega)))) (sk (aI (aT (ad n1 0)) tV)))) (aI (aI (aT (ad n1 0)) (aI (aT (qQB (qBm f n))) (aI (aT (@qA5 TP 3 3 (.tmp 16) (.const (.int .i64 63))  (qEe (qBm f n)) 63)) tV))) ((fun(hp2:(decide (63<(qEe (qBm f n))))=true)=>have f4:=(oT hp2);aT (aI hp2 (aI kV2 (aT (eX (fun(ns:List Nat)=>ns.length=0∧((vT #[(Value.pointer none),(int 10)]):Value)=(fun _=>vT #[.pointer none,int (qMX n f)]) ns∧([some ⟨p,false,o,(qAd n (fun k=>u64 (f k)))⟩]:List (Option Blk))=(fun _=>[some ⟨p,false,o,(qAd n (fun k=>u64 (f k)))⟩]) ns) [] (aI (@rfl Nat 0) (aI ((show(vT #[(Value.pointer none),(int 10)])=vT #[.pointer none,int (qMX n f)] from by unfold qMX;rw[if_neg (by omega)]<;>rfl)) (@rfl (List (Option Blk)) [some ⟨p,false,o,(qAd n (fun k=>u64 (f k)))⟩])))))))) (show(decide (63<(qEe (qBm f n))))=true from by exact decide_eq_true (Decidable.byContradiction fun h=>hg ⟨by omega,by omega⟩))))))))))
theorem qK8 (p o n c:Nat) (f:Nat→UInt64) (hp:0<n) (hg:qGa n f):qBp TP 15 [(Value.slice (some ⟨p,o,none⟩) n c)] [⟨p,false,o,(qAd n (fun k=>u64 (f k)))⟩] 5 (fun(ns:List Nat)=>(Value.tuple #[(ptr (ns.getD 0 0) 0),(int 0)])) (fun(ns:List Nat)=>[some ⟨p,false,o,(qAd n (fun k=>u64 (f k)))⟩,some ⟨(ns.getD 0 0),true,0,(.lit [(Value.slice (some ⟨(ns.getD 1 0),0,none⟩) n (n+(ns.getD 2 0))),(u64 ((qBm f n).a)),(Value.map (some (ns.getD 3 0))),(Value.map (some (ns.getD 4 0)))])⟩,some ⟨(ns.getD 1 0),true,0,(qAd n (fun k=>u64 (f k)))⟩,some ⟨(ns.getD 3 0),true,0,(qBM ([]))⟩,some ⟨(ns.getD 4 0),true,0,(qDT ([]))⟩]):=
 qAh mix Tryd.func15 rfl rfl 400 (.reg (rg [.g,.g]) (.reg (rg [.g,(.as (nat n)),(.as (vB (decide (n<1)))),.g,(.opt .g),(.opt (.as (nat n))),(.opt (.as (vB (decide (40<n))))),.pk]) (.no (.regn (rg [.g,(.call [(0,true)] 0 0 (fun _=>(qG7 (qBm f n))) (fun _=>[none])),.new,(.st 1 (.lit 0))]) (more (fun n1=>fun _=>(.reg (rg [(.ld 1 (.lit 0)),(.call [] 0 0 (fun _=>(nat (qEe (qBm f n)))) (fun _=>[])),(.as (vB (decide (63<(qEe (qBm f n))))))]) (.no (.regn (rg [.g,(.call [(0,true)] 2 1 (fun ns=>vS (some ⟨(g0 ns),0,none⟩) n (n+(g1 ns))) (fun ns=>[none,some ⟨(g0 ns),true,0,(qAd n (fun k=>u64 (f k)))⟩])),.g,(.ld 1 (.lit 0)),(.oth [] 1 1 (fun ns=>vM (some (g0 ns))) (fun ns=>[some ⟨ns.getD 0 0,true,0,qBM []⟩])),(.oth [] 1 1 (fun ns=>vM (some (g0 ns))) (fun ns=>[some ⟨ns.getD 0 0,true,0,qDT []⟩])),.g,.new,.g,.g]) (more (fun n2=>more (fun n3=>more (fun n4=>more (fun n5=>more (fun n6=>fun _=>.done))))))))))))))) [] [5,2,3,4] rfl
  (have f1:=hg.1;Eq.mp (by kernel_rfl) (aI kV2 (aI (sk (aI (aT (@qAw TP 22 30 (.tmp 5) (by kernel_rfl) (some ⟨p,o,none⟩) n c)) (aI (aT (@qAN TP 3 3 (.tmp 6) (.const (.int .i64 1))  n 1)) (sk (aI (fun(hg:(sB (decide (n<1)) false)=true)=>t2) (aI (fun(hg:(sB (decide (n<1)) false)=true)=>have f2:¬(n<1):=(oF (qBF hg));(aI (aI hg tV) (@qAw TP 22 30 (.tmp 9) (by kernel_rfl) (some ⟨p,o,none⟩) n c))) (aI (fun(hg:(sB (decide (n<1)) false)=true)=>(aI (aI hg tV) (@qA5 TP 3 3 (.tmp 10) (.const (.int .i64 40))  n 40))) (aI (aT (aI (fun(_:(decide (n<1))=true)=>tV) (fun(hp:(decide (n<1))=false)=>(qBf hp)))) tV)))))))) ((fun(hp1:(qA1 (decide (n<1)) true (decide (40<n)))=false)=>have f2:¬(n<1):=(oF (qFu hp1));have f3:¬(40<n):=(oF (qFf hp1));aT (aI hp1 (fun(n1:Nat)=>aI (sk (aI (aT (qBp.dark [true] (qLK p o n c f (show n≤9223372036854775807 from by omega)))) (sk (aI (aT (ad n1 0)) tV)))) (aI (aI (aT (ad n1 0)) (aI (aT (qQB (qBm f n))) (aI (aT (@qA5 TP 3 3 (.tmp 16) (.const (.int .i64 63))  (qEe (qBm f n)) 63)) tV))) ((fun(hp2:(decide (63<(qEe (qBm f n))))=false)=>have f4:=(oF hp2);aT (aI hp2 (fun(n2 n3 n4 n5 n6:Nat)=>aI (sk (aI (aT (qBp.dark [true] (qKd p o n c f (show 0<n∧n≤40 from by omega)))) (sk (aI (aT (ad n1 0)) (aI (aT (qGW (P:=TP) (kv:=int) (ev:=qDF) 75)) (aI (aT (qGW (P:=TP) (kv:=int) (ev:=ev0) 76)) kV4)))))) (aT (eX (fun(ns:List Nat)=>ns.length=5∧((vT #[(ptr n6 0),(int 0)]):Value)=(fun(ns:List Nat)=>(vT #[(ptr (g0 ns) 0),(int 0)])) ns∧([some ⟨p,false,o,(qAd n (fun k=>u64 (f k)))⟩,some ⟨n6,true,0,(.lit [(vS (some ⟨n2,0,none⟩) n (n+n3)),(u64 (qBm f n).a),(vM (some n4)),(vM (some n5))])⟩,some ⟨n2,true,0,(qAd n (fun k=>u64 (f k)))⟩,some ⟨n4,true,0,(qBM ([]))⟩,some ⟨n5,true,0,(qDT ([]))⟩]:List (Option Blk))=(fun(ns:List Nat)=>[some ⟨p,false,o,(qAd n (fun k=>u64 (f k)))⟩,some ⟨(g0 ns),true,0,(.lit [(vS (some ⟨(g1 ns),0,none⟩) n (n+(g2 ns))),(u64 (qBm f n).a),(vM (some (g3 ns))),(vM (some (g4 ns)))])⟩,some ⟨(g1 ns),true,0,(qAd n (fun k=>u64 (f k)))⟩,some ⟨(g3 ns),true,0,(qBM ([]))⟩,some ⟨(g4 ns),true,0,(qDT ([]))⟩]) ns) [n6,n2,n3,n4,n5] (aI (@rfl Nat 5) (aI (@rfl Value (vT #[(ptr n6 0),(int 0)])) (@rfl (List (Option Blk)) [some ⟨p,false,o,(qAd n (fun k=>u64 (f k)))⟩,some ⟨n6,true,0,(.lit [(vS (some ⟨n2,0,none⟩) n (n+n3)),(u64 (qBm f n).a),(vM (some n4)),(vM (some n5))])⟩,some ⟨n2,true,0,(qAd n (fun k=>u64 (f k)))⟩,some ⟨n4,true,0,(qBM ([]))⟩,some ⟨n5,true,0,(qDT ([]))⟩])))))))) (show(decide (63<(qEe (qBm f n))))=false from by exact decide_eq_false (by have:=hg.2;omega))))))) (show(qA1 (decide (n<1)) true (decide (40<n)))=false from by simp only[qDU,qCX,Bool.or_eq_true,Bool.or_eq_false_iff,Bool.and_eq_true,Bool.and_eq_false_iff,decide_eq_true_eq,decide_eq_false_iff_not];omega)))))
end Go.Proofs.YtmdpendnbkajdaaDoor
end
