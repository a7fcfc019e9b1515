/- What the law's proof needs, part 4. -/
import Derived.Test.YtmdpendnbkajdaaGreatDoorZt3
import Derived.Below
import Derived.RangeFuncFrom
import Derived.ChangeSame
import Derived.LaidLaws
import Derived.LaidMore
import Derived.OpenShut
import Derived.Stop.Joined
import Derived.ChangeArms
import Derived.Laws.BytesString
set_option linter.defProp false
set_option linter.unusedVariables false
set_option linter.unusedSimpArgs false
set_option maxRecDepth 100000
set_option maxHeartbeats 1000000
noncomputable section
section
namespace Go.Eng
variable {ds:Nat}
def jCo (nt:Nat) (env:Nat→Option EV) (tm:Array Value):Prop:=tm.size=nt∧∀t e,env t=some e→tm[t]?=some e.den
def yv (l:Nat):Value:=.func (.yield l) #[] #[]
def qGw (st:LoopState) (pe:Option Code) (fn:FuncId) (tm:Array Value) (ps:Array Tmp) (asg bd:Code) (D:Nat):Loop:=
 {state:=st,pending:=pe,fn,tmps:=tm,params:=ps,assign:=asg,body:=bd,defers:=D}
def stL (pe:Option Code):LoopState:=match pe with|none=>.ready|some _=>.done
def qEV (l:Nat) (L:Loop):Blk:=⟨l,true,0,.map (.o (.loop L)) 0⟩
theorem qK3 {l:Nat} {L:Loop} {w:World} (h:w.heap[l]?=some (.loop L)):qAn (qEV l L) w:=
 ⟨(Array.getElem?_eq_some_iff.1 h).1,(fun o v ho=>by cases ho),(fun _ o v ho=>by cases ho),h⟩
def shB (x:Option Blk) (m:Nat→Option Blk):Nat→Option Blk
 |0=>x
 |p+1=>m p
def shP (ps:List (Nat×Bool)):List (Nat×Bool):=ps.map fun x=>(x.1+1,x.2)
theorem qQ1 (x:Option Blk) (m:Nat→Option Blk):∀ps:List (Nat×Bool),qCn (shB x m) (shP ps)=qCn m ps
 |[]=>rfl
 |(p,ro)::r=>by
  show _ ::qCn (shB x m) (shP r)=_ ::qCn m r;rw[qQ1 x m r];rfl
theorem qNQ:∀(ps:List (Nat×Bool)) (nx:Nat) (out:List (Option Blk)) (p:Nat),look (qAB (shP ps) (nx+1) out) (p+1)=look (qAB ps nx out) p
 |[],nx,[],p=>rfl
 |[],nx,b::out,p=>by
  show look ((nx+1,b)::qAB [] (nx+1+1) out) (p+1)=look ((nx,b)::qAB [] (nx+1) out) p;rw[qAx,qAx];have:=qNQ [] (nx+1) out p;by_cases h:nx=p
  ·rw[if_pos h,if_pos (by omega)]
  ·rw[if_neg h,if_neg (by omega)];exact this
 |(q,ro)::r,nx,[],p=>rfl
 |(q,true)::r,nx,b::out,p=>qNQ r nx out p
 |(q,false)::r,nx,b::out,p=>by
  show look ((q+1,b)::qAB (shP r) (nx+1) out) (p+1)=look ((q,b)::qAB r nx out) p;rw[qAx,qAx];by_cases h:q=p
  ·rw[if_pos h,if_pos (by omega)]
  ·rw[if_neg h,if_neg (by omega)];exact qNQ r nx out p
theorem qXg (x x':Option Blk) (m:Nat→Option Blk) (ps:List (Nat×Bool)) (nx:Nat) (out:List (Option Blk)):
  qAG (shB x m) (qAB ((0,false)::shP ps) (nx+1) (x'::out))=shB x' (qAG m (qAB ps nx out)):=by
 funext p;show(match look ((0,x')::qAB (shP ps) (nx+1) out) p with|some ob=>ob|none=>shB x m p)=_
 rw[qAx];cases p with
 |zero=>rfl
 |succ p=>
  rw[if_neg (by omega),qNQ]
  rfl
theorem qTP (l r:List (Nat×Option Blk)):qCk (l++r)=qAG (qCk r) l:=by
 funext p;unfold qCk qAG;induction l with
 |nil=>rfl
 |cons x l ih=>
  obtain⟨q,b⟩:=x;simp only[List.cons_append,qAx];by_cases h:q=p
  ·simp[h]
  ·simp only[h,if_false];exact ih
theorem qNy {x:Option Blk} {m:Nat→Option Blk} {k:Nat} (h:qDr (shB x m) k):(∃b,x=some b∧b.own=true∧b.has k)∨qDr m k:=by
 obtain⟨p,b,h1,h2,h3⟩:=h;cases p with
 |zero=>exact .inl ⟨b,h1,h2,h3⟩
 |succ p=>exact .inr ⟨p,b,h1,h2,h3⟩
theorem qNL {F:Blk→Prop} {P:Program} {nt:Nat} {g:Operand} {ps:Array Tmp} {asg bd:Code} {s:St} {gf:Nat} {caps:List Value} {psl:List (Nat×Bool)} {k:Nat} {v:List Nat→Value}
  {out:List Nat→List (Option Blk)} {pe:Option Code} {E:Exit} (hg:qFt s.fs.env g=some (.v (.func (.func gf) #[] caps.toArray))) (eg:∀args w,(callFunc gf args).run P w=.ok (.enter gf args) w)
  (hn:qBv psl=true) (hlen:∀ns,ns.length=k→psl.length≤(out ns).length) (hpe:pe=none∧E=.normal∨pe=some .ret∧E=.ret∨∃id,pe=some (.exit id)∧E=.exit id) (nb:Nat)
  (hc:∀l D fn tm,jCo nt s.fs.env tm→qAc F P gf (yv l::caps) (some (qEV l (qGw .ready none fn tm ps asg bd D))::qCn s.fs.mem psl) k v
   (fun ns=>some (qEV l (qGw (stL pe) pe fn tm ps asg bd D))::out ns)):
  jB7 F ds P nt (.rangeFunc g ps asg bd) s (fun e s'=>∃ns:List Nat,ns.length=k∧e=E∧s'=⟨s.env,qAB psl s.nx (out ns)++s.mem,s.nx+nb⟩):=by
 intro a w hs hF;refine(wpIn_wide (n:=1)).1 (wpIn_rangeFunc (F:=Fence.wide) (n:=1) ?_);intro fn _;obtain⟨l,hl⟩:∃l,l=w.heap.size+1:=⟨_,rfl⟩;obtain⟨W1,hW1⟩:∃W1,(w.alloc (.deferred (some []))).alloc (.loop (qGw .ready none fn a.tmps ps asg bd w.heap.size))=W1:=⟨_,rfl⟩;have hL1:W1.heap[l]?=some (.loop (qGw .ready none fn a.tmps ps asg bd w.heap.size)):=by
  rw[←hW1,hl];have:=World.alloc_heap_new (w.alloc (.deferred (some []))) (.loop (qGw .ready none fn a.tmps ps asg bd w.heap.size));rwa[World.size_alloc] at this
 have hK1:W1.heap[w.heap.size]?=some (.deferred (some [])):=by
  rw[←hW1];exact(Go.RowKit.Below.heap_alloc _ _ _ (by simp)).trans (World.alloc_heap_new w _)
 have hsz:W1.heap.size=w.heap.size+2:=by rw[←hW1];simp
 have hold:∀q,q<w.heap.size→W1.heap[q]?=w.heap[q]?:=fun q hq=>by
  rw[←hW1];exact(Go.RowKit.Below.heap_alloc _ _ _ (by simp;omega)).trans (Go.RowKit.Below.heap_alloc _ _ _ hq)
 have hev:a.eval g=.func (.func gf) #[] caps.toArray:=qGj hs hg;refine⟨l,[{target:=.collected w.heap.size,args:=#[]}],W1,{target:=.fn (.func gf) caps.toArray,args:=#[.func (.yield l) #[] #[]]},W1,gf,
  #[.func (.yield l) #[] #[]]++caps.toArray,W1,?_,?_,fun _ _=>trivial,?_,fun _=>Nat.le_refl _,?_⟩
 ·rw[←hW1,hl];exact run_enterLoop_outer _ _ _ _ _
 ·simp only[resolve,hev]
  simp[go_sem]
 ·simp[invoke,go_sem,eg]
 have hm1:∀p b,shB (some (qEV l (qGw .ready none fn a.tmps ps asg bd w.heap.size))) s.fs.mem p=some b→qAn b W1:=fun p b hb=>by
  cases p with
  |zero=>injection hb with hb;subst hb;exact qK3 hL1
  |succ p=>have:=hs.mem p b hb;exact this.of_heap (by omega) fun k hk=>hold _ (this.has_lt hk)
 have ha1:qCJ (shB (some (qEV l (qGw .ready none fn a.tmps ps asg bd w.heap.size))) s.fs.mem):=fun p q b c hpq hb hc ho=>by
  cases p with
  |zero=>
   cases q with
   |zero=>exact absurd rfl hpq
   |succ q=>injection hb with hb;subst hb;intro k k1 k2;have:=(hs.mem q c hc).has_lt k2;have:l=k:=k1;omega
  |succ p=>
   cases q with
   |zero=>injection hc with hc;subst hc;intro k k1 k2;have:=(hs.mem p b hb).has_lt k1;have:l=k:=k2;omega
   |succ q=>exact hs.apart p q b c (by omega) hb hc ho
 have hF1:Fam F (shB (some (qEV l (qGw .ready none fn a.tmps ps asg bd w.heap.size))) s.fs.mem) W1:=fun b hb=>by
  obtain⟨h1,h2,h3⟩:=hF b hb;refine⟨h1.of_heap (by omega) fun k hk=>hold _ (h1.has_lt hk),h2,fun k hk ho=>?_⟩
  rcases qNy ho with⟨c,e,_,h5⟩|h4
  ·injection e with e;subst e;have:=h1.has_lt hk;have:l=k:=h5;omega
  ·exact h3 k hk h4
 have hn1:qBv ((0,false)::shP psl)=true:=by
  have h1:∀qs:List (Nat×Bool),qBv qs=true→qBv (shP qs)=true:=by
   intro qs;induction qs with
   |nil=>intro _;rfl
   |cons x r ih=>
    intro h;simp only[qBv,Bool.and_eq_true,List.all_eq_true] at h;show((shP r).all _ &&qBv (shP r))=true;rw[ih h.2,Bool.and_true,List.all_eq_true];intro y hy;obtain⟨z,hz,rfl⟩:=List.mem_map.1 hy;exact h.1 z hz
  show((shP psl).all _ &&qBv (shP psl))=true;rw[h1 psl hn,Bool.and_true,List.all_eq_true];intro y hy;obtain⟨z,hz,rfl⟩:=List.mem_map.1 hy;rfl
 have hlend:qCn (shB (some (qEV l (qGw .ready none fn a.tmps ps asg bd w.heap.size))) s.fs.mem) ((0,false)::shP psl)=some (qEV l (qGw .ready none fn a.tmps ps asg bd w.heap.size))::qCn s.fs.mem psl:=by
  show _ ::qCn _ (shP psl)=_;rw[qQ1];rfl
 have hcall:=hc l w.heap.size fn a.tmps ⟨hs.size,hs.env⟩ W1 (by rw[←hlend];exact qDJ hm1) (by rw[←hlend];exact qDD ha1 hn1) (by rw[←hlend];exact qIL hF1)
 have hargs:(yv l::caps).toArray=#[.func (.yield l) #[] #[]]++caps.toArray:=by simp[yv]
 rw[hargs] at hcall;refine callsIn_wide.2 (Calls.mono hcall ?_);rintro e W2 ⟨ns,hns,rfl,hp⟩
 have hl0:=(hp.holds 0 _ rfl).objm rfl;have hl2:W2.heap[l]?=some (.loop (qGw (stL pe) pe fn a.tmps ps asg bd w.heap.size)):=hl0;have hp1:=qDA (nx:=s.nx+1) (out:=some (qEV l (qGw (stL pe) pe fn a.tmps ps asg bd w.heap.size))::out ns) hm1 ha1 (ps:=(0,false)::shP psl) (by simp[shP];exact hlen ns hns) (by rw[hlend];exact hp)
 rw[qXg] at hp1;obtain⟨W4,hW4⟩:∃W4,W2.putObj l (.loop {qGw (stL pe) pe fn a.tmps ps asg bd w.heap.size with state:=.exhausted})=W4:=⟨_,rfl⟩;have hoth:∀q,q≠l→W4.heap[q]?=W2.heap[q]?:=fun q hq=>by rw[←hW4];exact World.putObj_heap_other hq
 have hsz4:W4.heap.size=W2.heap.size:=by rw[←hW4];simp[World.putObj]
 have hname:∀p b,qAG s.fs.mem (qAB psl s.nx (out ns)) p=some b→¬b.has l:=fun p b hb e=>by
  cases ho:b.own with
  |true=>exact hp1.apart (p+1) 0 b _ (by omega) hb rfl ho l e rfl
  |false=>have h1:=hp1.adv.ro (p+1) b hb ho;have:=(hs.mem p b h1).has_lt e;omega
 have hnames:∀q,qDr (qAG s.fs.mem (qAB psl s.nx (out ns))) q→qDr s.fs.mem q∨w.heap.size+2≤q:=fun q hq=>by
  obtain⟨p,b,h1,h2,h3⟩:=hq;rcases hp1.adv.names q ⟨p+1,b,h1,h2,h3⟩ with h4|h4
  ·rcases qNy h4 with⟨c,e,_,h5⟩|h5
   ·injection e with e;subst e;have:l=q:=h5;subst this;exact absurd h3 (hname p b h1)
   ·exact .inl h5
  ·exact .inr (by omega)
 have hkeep:∀q,q<W1.heap.size→q≠l→¬qDr s.fs.mem q→W4.heap[q]?=W1.heap[q]?:=fun q hq hql hno=>by
  rw[hoth q hql];refine hp1.adv.heap q hq fun ho=>?_
  rcases qNy ho with⟨c,e,_,h5⟩|h5
  ·injection e with e;subst e;exact hql h5.symm
  ·exact hno h5
 obtain⟨hB,D,hD1,hD2,hD3⟩:=hs.defers;have hfs:(St.mk s.env (qAB psl s.nx (out ns)++s.mem) (s.nx+nb)).fs.mem=qAG s.fs.mem (qAB psl s.nx (out ns)):=qTP _ _;have hmk:w.heap.size∉D:=fun h=>by
  have:=(Array.getElem?_eq_some_iff.1 (hD3 _ h).2.1).1;omega
 have hno0:¬qDr s.fs.mem w.heap.size:=fun⟨p,b,h1,_,h3⟩=>by have:=(hs.mem p b h1).has_lt h3;omega
 have hsat:Sat ds nt (St.mk s.env (qAB psl s.nx (out ns)++s.mem) (s.nx+nb)).fs {a with defers:=[{target:=.collected w.heap.size,args:=#[]}]++a.defers} W4:=by
  refine⟨⟨?_,w.heap.size::D,List.nodup_cons.2 ⟨hmk,hD1⟩,by simp[hD2],fun r hr=>?_⟩,hs.size,hs.env,fun p b hb=>?_,?_⟩
  ·have:=hp1.adv.size;omega
  ·rw[hfs]
   rcases List.mem_cons.1 hr with rfl|hr
   ·refine⟨hB,(hkeep _ (by omega) (by omega) hno0).trans hK1,fun ho=>?_⟩
    rcases hnames _ ho with h4|h4
    ·exact hno0 h4
    ·omega
   ·obtain⟨k1,k2,k3⟩:=hD3 r hr
    have hlt:=(Array.getElem?_eq_some_iff.1 k2).1;refine⟨k1,((hkeep r (by omega) (by omega) k3).trans (hold r hlt)).trans k2,fun ho=>?_⟩
    rcases hnames _ ho with h4|h4
    ·exact k3 h4
    ·omega
  ·rw[hfs] at hb
   exact(hp1.holds (p+1) b hb).of_heap (by omega) fun k hk=>hoth _ fun e=>hname p b hb (e▸hk)
  ·rw[hfs]
   exact fun p q b c hpq hb hc ho=>hp1.apart (p+1) (q+1) b c (by omega) hb hc ho
 have hadv:Adv s.fs.mem w (St.mk s.env (qAB psl s.nx (out ns)++s.mem) (s.nx+nb)).fs.mem W4:=by
  rw[hfs];refine⟨?_,?_,?_,?_,fun q hq hno=>?_,fun q hq=>?_,fun p b hb ho=>hp1.adv.ro (p+1) b hb ho⟩
  ·rw[←hW4];exact hp1.adv.os.trans (by rw[←hW1];rfl)
  ·rw[←hW4];exact hp1.adv.output.trans (by rw[←hW1];rfl)
  ·rw[←hW4];exact hp1.adv.tape.trans (by rw[←hW1];rfl)
  ·have:=hp1.adv.size;omega
  ·exact(hkeep q (by omega) (by omega) hno).trans (hold q hq)
  ·rcases hnames q hq with h4|h4
   ·exact .inl h4
   ·exact .inr (by omega)
 have hend:(Instr.endLoop l).run P W2=.ok pe W4:=by
  have:=run_endLoop (P:=P) hl2 (by cases pe<;>simp[qGw,stL])
  rw[←hW4];exact this
 refine⟨pe,W4,hend,?_⟩;rcases hpe with⟨rfl,rfl⟩|⟨rfl,rfl⟩|⟨id,rfl,rfl⟩
 ·exact⟨_,⟨ns,hns,rfl,rfl⟩,hsat,hadv⟩
 ·exact wpIn_wide.2 (wp_ret ⟨_,⟨ns,hns,rfl,rfl⟩,hsat,hadv⟩)
 ·exact wpIn_wide.2 (wp_exit ⟨_,⟨ns,hns,rfl,rfl⟩,hsat,hadv⟩)
theorem lmS {o:Option Blk} {r:List (Option Blk)} (p:Nat):lM (o::r) (p+1)=lM r p:=by simp[lM]
theorem qLQ:∀(l:List (Option Blk)) (i p:Nat),qCk (qEM l i) p=if i≤p then lM l (p-i) else none
 |[],i,p=>by simp[qEM,qCk,look,lM]
 |b::r,i,p=>by
  have:=qLQ r (i+1) p;simp only[qCk] at this;simp only[qEM,qCk,qAx];by_cases hip:i=p
  ·subst hip;simp[lM]
  ·simp only[hip,if_false]
   rw[this];by_cases hle:i≤p
   ·rw[if_pos hle,if_pos (by omega),show p-i=(p-(i+1))+1 by omega];simp[lM]
   ·rw[if_neg hle,if_neg (by omega)]
theorem qSD (env:List (Nat×EV)) (bs:List (Option Blk)):(St.mk env (qEM bs 0) bs.length).fs.mem=lM bs:=by
 funext p;show qCk (qEM bs 0) p=_;rw[qLQ];simp
theorem qLN {w:World} {l:Nat} {o:Obj} (h:l<w.heap.size):(w.putObj l o).heap[l]?=some o:=World.putObj_heap_same h
def jAA (l:Nat) (m:Nat→Option Blk):Prop:=∀p b,m p=some b→¬b.has l
theorem jAA.adv {l:Nat} {m m':Nat→Option Blk} {w w':World} (h:jAA l m) (hl:l<w.heap.size) (ha:Adv m w m' w'):jAA l m':=fun p b hb e=>by
 cases ho:b.own with
 |true=>
  rcases ha.names l ⟨p,b,hb,ho,e⟩ with⟨q,c,h1,_,h3⟩|h1
  ·exact h q c h1 h3
  ·omega
 |false=>exact h p b (ha.ro p b hb ho) e
theorem jAA.owns {l:Nat} {m:Nat→Option Blk} (h:jAA l m):¬qDr m l:=fun⟨p,b,h1,_,h3⟩=>h p b h1 h3
theorem Sat.put {nt:Nat} {s:FSt} {a:Act} {w:World} (h:Sat ds nt s a w) {l:Nat} {L:Loop} {o:Obj} (hl:w.heap[l]?=some (.loop L)) (hf:jAA l s.mem):Sat ds nt s a (w.putObj l o):=by
 refine⟨?_,h.size,h.env,fun p b hb=>(h.mem p b hb).of_heap (by simp[World.putObj]) (fun k hk=>World.putObj_heap_other fun e=>hf p b hb (e▸hk)),h.apart⟩
 obtain⟨h0,D,h1,h2,h3⟩:=h.defers;refine⟨by simpa[World.putObj] using h0,D,h1,h2,fun r hr=>?_⟩
 obtain⟨k1,k2,k3⟩:=h3 r hr;have hne:r≠l:=fun e=>by subst e;rw[hl] at k2;cases k2
 exact⟨k1,(World.putObj_heap_other hne).trans k2,k3⟩
def qXj (F:Blk→Prop) (P:Program) (l:Nat) (args:List Value) (bs:List (Option Blk)) (k:Nat) (v:List Nat→Value) (out:List Nat→List (Option Blk)):Prop:=
 ∀w,(∀p b,lM bs p=some b→qAn b w)→qCJ (lM bs)→Fam F (lM bs) w→
  ∃fn tmps asg bd,(Instr.yield l args.toArray).run P w=.ok (.round l fn tmps asg bd) w∧∀m,RoundIn Fence.wide m P l fn tmps asg bd w fun e w'=>
   ∃ns,ns.length=k∧e=.returned (v ns)∧qC4 (lM bs) w (lM (out ns)) w'
def qDi:List Tmp→List Value→List (Nat×EV)
 |p::ps,x::xs=>(p,.v x)::qDi ps xs
 | _,_=>[]
theorem qRg (nt:Nat):∀(ps:List Tmp) (xs:List Value) (tm:Array Value) (t:Nat) (e:EV),ps.Nodup→(∀p∈ps,p<tm.size)→look (qDi ps xs) t=some e→((ps.zip xs).foldl (fun t (p,v)=>t.setIfInBounds p v) tm)[t]?=some e.den
 |[],xs,tm,t,e,_,_,h=>by cases h
 |p::ps,[],tm,t,e,_,_,h=>by cases h
 |p::ps,x::xs,tm,t,e,hn,hp,h=>by
  rw[List.nodup_cons] at hn;simp only[List.zip_cons_cons,List.foldl_cons];by_cases hin:∃e',look (qDi ps xs) t=some e'
  ·obtain⟨e',he'⟩:=hin
   have hmem:∀(qs:List Tmp) (ys:List Value) (t:Nat) (e:EV),look (qDi qs ys) t=some e→t∈qs:=by
    intro qs;induction qs with
    |nil=>intro ys t e h;cases h
    |cons q qs ih=>
     intro ys t e h;cases ys with
     |nil=>cases h
     |cons y ys=>
      rw[qDi,qAx] at h;split at h
      ·rename_i e1;subst e1;simp
      ·exact List.mem_cons_of_mem _ (ih ys t e h)
   have htp:p≠t:=fun e1=>hn.1 (by subst e1;exact hmem ps xs _ _ he')
   rw[qDi,qAx,if_neg htp] at h;exact qRg nt ps xs _ t e hn.2 (fun q hq=>by simpa using hp q (by simp[hq])) h
  ·rw[qDi,qAx] at h
   have key:∀(qs:List Tmp) (ys:List Value) (tm:Array Value),look (qDi qs ys) t=none→((qs.zip ys).foldl (fun t (p,v)=>t.setIfInBounds p v) tm)[t]?=tm[t]?:=by
    intro qs;induction qs with
    |nil=>intro ys tm _;rfl
    |cons q qs ih=>
     intro ys tm hq;cases ys with
     |nil=>rfl
     |cons y ys=>
      rw[qDi,qAx] at hq;split at hq
      ·cases hq
      ·rename_i hne
       simp only[List.zip_cons_cons,List.foldl_cons];rw[ih ys _ hq,Array.getElem?_setIfInBounds_ne hne]
   have hnone:look (qDi ps xs) t=none:=by
    cases hk:look (qDi ps xs) t with
    |none=>rfl
    |some e'=>exact absurd ⟨e',hk⟩ hin
   rw[key ps xs _ hnone];split at h
   ·rename_i e1;subst e1
    injection h with h;subst h;rw[Array.getElem?_setIfInBounds_self_of_lt (hp p (by simp))];rfl
   ·rw[hnone] at h;cases h
theorem qRX:∀(ps:List Tmp) (xs:List Value) (tm:Array Value) (t:Nat),look (qDi ps xs) t=none→ps.length≤xs.length→((ps.zip xs).foldl (fun t (p,v)=>t.setIfInBounds p v) tm)[t]?=tm[t]?
 |[],xs,tm,t,_,_=>rfl
 |p::ps,[],tm,t,_,h=>by simp at h
 |p::ps,x::xs,tm,t,hq,hl=>by
  rw[qDi,qAx] at hq;split at hq
  ·cases hq
  ·rename_i hne
   simp only[List.zip_cons_cons,List.foldl_cons];rw[qRX ps xs _ t hq (by simpa using hl),Array.getElem?_setIfInBounds_ne hne]
theorem qOe:∀(ps:List Tmp) (xs:List Value) (tm:Array Value),((ps.zip xs).foldl (fun t (p,v)=>t.setIfInBounds p v) tm).size=tm.size
 |[],_,_=>rfl
 | _ :: _,[],_=>rfl
 |p::ps,x::xs,tm=>by simp only[List.zip_cons_cons,List.foldl_cons];rw[qOe ps xs];simp
theorem qYp (l r:List (Nat×EV)) (t:Nat):look (l++r) t=match look l t with
  |some e=>some e
  |none=>look r t:=by
 induction l with
 |nil=>rfl
 |cons x l ih=>
  obtain⟨q,b⟩:=x;simp only[List.cons_append,qAx];by_cases h:q=t
  ·simp[h]
  ·simp only[h,if_false];exact ih
def qYG (mk:LoopState→Option Code→Blk) (ps:List Nat) (k:Nat) (v:List Nat→Value) (out:List Nat→List (Option Blk)) (nb:Nat):Exit→St→Prop:=fun e s=>match e with
 |.normal=>∃ns,ns.length=k∧Value.bool true=v ns∧some (mk .ready none)::qNW s (List.range nb++ps)=out ns
 |.ret=>∃ns,ns.length=k∧Value.bool false=v ns∧some (mk .done (some .ret))::qNW s (List.range nb++ps)=out ns
 |.exit id=>∃ns,ns.length=k∧Value.bool false=v ns∧some (mk .done (some (.exit id)))::qNW s (List.range nb++ps)=out ns
 | _=>False
theorem qP3 {F:Blk→Prop} {P:Program} {nt l D:Nat} {fn:FuncId} {tm:Array Value} {pars:Array Tmp} {asg bd:Code} {env:List (Nat×EV)} {args:List Value} {bs:List (Option Blk)} {k:Nat} {v:List Nat→Value}
  {out:List Nat→List (Option Blk)} (hmix:P.follows .mixedOrders=true) (htm:jCo nt (fun t=>look env t) tm) (hpn:pars.toList.Nodup) (hlen:args.length=pars.size) (hlt:∀p∈pars.toList,p<nt)
  (hC1:qS3 asg=true) (hC2:qS3 bd=true) (n:Nat) (h:H) (ps:List Nat) (hps:(qKa (List.range bs.length++ps)&&ps.all (fun p=>Nat.ble bs.length p))=true)
  (hev:evF F P nt n false asg ⟨qDi pars.toList args++env,qEM bs 0,bs.length⟩ h fun e s h'=>match e with
   |.normal=>evF F P nt n false bd s h' fun e s _=>qYG (fun st pe=>qEV l (qGw st pe fn tm pars asg bd D)) ps k v out bs.length e s
   | _=>False):
  qXj F P l args (some (qEV l (qGw .ready none fn tm pars asg bd D))::bs) k v out:=by
 intro w hm ha hF;simp only[Bool.and_eq_true,List.all_eq_true] at hps;have hl:w.heap[l]?=some (.loop (qGw .ready none fn tm pars asg bd D)):=(hm 0 _ rfl).objm rfl;have hlw:l<w.heap.size:=(Array.getElem?_eq_some_iff.1 hl).1;have hmem:(St.mk (qDi pars.toList args++env) (qEM bs 0) bs.length).fs.mem=lM bs:=qSD _ _;have hfree:jAA l (lM bs):=fun p b hb e=>ha 0 (p+1) _ b (by omega) rfl (by rw[lmS];exact hb) rfl l rfl e
 have hfold:(pars.zip args.toArray).foldl (fun t (p,v)=>t.setIfInBounds p v) tm=(pars.toList.zip args).foldl (fun t (p,v)=>t.setIfInBounds p v) tm:=by
  rw[←Array.foldl_toList];simp
 have hs:Sat 0 nt (St.mk (qDi pars.toList args++env) (qEM bs 0) bs.length).fs {tmps:=(pars.zip args.toArray).foldl (fun t (p,v)=>t.setIfInBounds p v) tm,defers:=[]} w:=by
  rw[hfold];refine⟨.none (Nat.zero_le _),(qOe _ _ _).trans htm.1,fun t e ht=>?_,fun p b hb=>?_,?_⟩
  ·have ht2:look (qDi pars.toList args++env) t=some e:=ht
   rw[qYp] at ht2;cases hk:look (qDi pars.toList args) t with
   |some e'=>rw[hk] at ht2;injection ht2 with ht2;subst ht2;exact qRg nt _ _ _ t _ hpn (fun p hp=>by rw[htm.1];exact hlt p hp) hk
   |none=>rw[hk] at ht2;exact(qRX _ _ _ t hk (by simp[hlen])).trans (htm.2 t e ht2)
  ·rw[hmem] at hb;exact hm (p+1) b (by rw[lmS];exact hb)
  ·rw[hmem];exact fun p q b c hpq hb hc ho=>ha (p+1) (q+1) b c (by omega) (by rw[lmS];exact hb) (by rw[lmS];exact hc) ho
 have hF0:Fam F (St.mk (qDi pars.toList args++env) (qEM bs 0) bs.length).fs.mem w:=fun b hb=>by
  obtain⟨h1,h2,h3⟩:=hF b hb;rw[hmem];exact⟨h1,h2,fun k hk ⟨p,c,k1,k2,k3⟩=>h3 k hk ⟨p+1,c,by rw[lmS];exact k1,k2,k3⟩⟩
 have hFl:∀b,F b→∀k,b.has k→k≠l:=fun b hb k hk e=>(hF b hb).2.2 k hk ⟨0,_,rfl,rfl,e.symm⟩
 refine⟨fn,_,asg,bd,run_yield hl (by simpa[qGw] using hlen),fun m=>roundIn_of_wpIn trivial ?_⟩
 refine wpIn_mono (qA2 (l:=l) hmix n asg _ h _ _ w (fun _ _ h=>h) hC1 hev hs hF0) ?_
 rintro e a1 w1 ⟨s1,h1,hK1,hS1,hA1⟩
 cases e with
 |normal=>
  rw[hmem] at hA1;have hl1:w1.heap[l]?=some (.loop (qGw .ready none fn tm pars asg bd D)):=(hA1.heap l hlw hfree.owns).trans hl;have hf1:=hfree.adv hlw hA1;obtain⟨w2,hw2⟩:∃w2,w1.putObj l (.loop {qGw .ready none fn tm pars asg bd D with state:=.busy})=w2:=⟨_,rfl⟩;have hlw1:l<w1.heap.size:=(Array.getElem?_eq_some_iff.1 hl1).1;have hl2:w2.heap[l]?=some (.loop {qGw .ready none fn tm pars asg bd D with state:=.busy}):=by rw[←hw2];exact qLN hlw1
  have hS2:Sat 0 nt s1.fs a1 w2:=by rw[←hw2];exact hS1.put hl1 hf1
  have hF2:Fam F s1.fs.mem w2:=fun b hb=>by
   obtain⟨k1,k2,k3⟩:=hF0.adv (hmem▸hA1) b hb;exact⟨k1.of_heap (by rw[←hw2];simp[World.putObj]) (by rw[←hw2];exact fun k hk=>World.putObj_heap_other (hFl b hb k hk)),k2,k3⟩
  refine⟨w2,by rw[←hw2];exact run_beginRound hl1 rfl,?_⟩
  refine wpIn_mono (qA2 (l:=l) hmix n bd s1 h1 _ a1 w2 (fun _ _ h=>h) hC2 hK1 hS2 hF2) ?_
  have hsz2:w2.heap.size=w1.heap.size:=by rw[←hw2];simp[World.putObj]
  have oth2:∀q,q≠l→w2.heap[q]?=w1.heap[q]?:=fun q hq=>by rw[←hw2];exact World.putObj_heap_other hq
  have fin:∀(jump:Option Code) (a3:Act) (w3:World) (s2:St),Sat 0 nt s2.fs a3 w3→Adv s1.fs.mem w2 s2.fs.mem w3→
    (Instr.endRound l jump).run P w3=.ok (.bool jump.isNone) (w3.putObj l (.loop (qGw (stL jump) jump fn tm pars asg bd D)))∧
    qC4 (lM (some (qEV l (qGw .ready none fn tm pars asg bd D))::bs)) w (lM (some (qEV l (qGw (stL jump) jump fn tm pars asg bd D))::qNW s2 (List.range bs.length++ps))) (w3.putObj l (.loop (qGw (stL jump) jump fn tm pars asg bd D))):=fun jump a3 w3 s2 hS3 hA3=>by
   have hl3:w3.heap[l]?=some (.loop {qGw .ready none fn tm pars asg bd D with state:=.busy}):=(hA3.heap l (by omega) hf1.owns).trans hl2
   have hlw3:=(Array.getElem?_eq_some_iff.1 hl3).1;have hf3:=hf1.adv (by omega) hA3
   obtain⟨w4,hw4⟩:∃w4,w3.putObj l (.loop (qGw (stL jump) jump fn tm pars asg bd D))=w4:=⟨_,rfl⟩;have oth4:∀q,q≠l→w4.heap[q]?=w3.heap[q]?:=fun q hq=>by rw[←hw4];exact World.putObj_heap_other hq
   have hsz4:w4.heap.size=w3.heap.size:=by rw[←hw4];simp[World.putObj]
   refine⟨?_,?_⟩
   ·have:=run_endRound (P:=P) jump hl3
    rw[this];cases jump<;>rfl
   rw[hw4];have hnm:∀q,qDr s2.fs.mem q→qDr (lM bs) q∨w.heap.size≤q:=fun q hq=>by
    rcases hA3.names q hq with h4|h4
    ·exact hA1.names q h4
    ·right;have:=hA1.size;omega
   have hget:∀p b,lM (some (qEV l (qGw (stL jump) jump fn tm pars asg bd D))::qNW s2 (List.range bs.length++ps)) (p+1)=some b→∃q,(List.range bs.length++ps)[p]?=some q∧s2.fs.mem q=some b:=fun p b hb=>by
    rw[lmS] at hb;exact qFG hb
   refine⟨fun p b hb=>?_,fun p q b c hpq hb hc ho=>?_,⟨?_,?_,?_,?_,fun q hq hno=>?_,fun q hq=>?_,fun p b hb ho=>?_⟩⟩
   ·cases p with
    |zero=>injection hb with hb;subst hb;exact qK3 (by rw[←hw4];exact qLN hlw3)
    |succ p=>
     obtain⟨q,_,hq⟩:=hget p b hb;exact(hS3.mem q b hq).of_heap (by omega) fun k hk=>oth4 _ fun e=>hf3 q b hq (e▸hk)
   ·cases p with
    |zero=>
     cases q with
     |zero=>exact absurd rfl hpq
     |succ q=>
      injection hb with hb;subst hb;obtain⟨x,_,hx⟩:=hget q c hc;intro k k1 k2;have:l=k:=k1;subst this;exact hf3 x c hx k2
    |succ p=>
     obtain⟨x,hx1,hx2⟩:=hget p b hb;cases q with
     |zero=>injection hc with hc;subst hc;intro k k1 k2;have:l=k:=k2;subst this;exact hf3 x b hx2 k1
     |succ q=>
      obtain⟨y,hy1,hy2⟩:=hget q c hc;exact hS3.apart x y b c (qJx hps.1 p q x y hx1 hy1 (by omega)) hx2 hy2 ho
   ·rw[←hw4];exact hA3.os.trans ((by rw[←hw2];rfl:w2.os=w1.os).trans hA1.os)
   ·rw[←hw4];exact hA3.output.trans ((by rw[←hw2];rfl:w2.output=w1.output).trans hA1.output)
   ·rw[←hw4];exact hA3.tape.trans ((by rw[←hw2];rfl:w2.tape=w1.tape).trans hA1.tape)
   ·have:=hA1.size;have:=hA3.size;omega
   ·have hql:q≠l:=fun e=>hno ⟨0,_,rfl,rfl,e.symm⟩
    have hnb:¬qDr (lM bs) q:=fun⟨p,b,k1,k2,k3⟩=>hno ⟨p+1,b,by rw[lmS];exact k1,k2,k3⟩
    have hn1:¬qDr s1.fs.mem q:=fun ho=>by
     rcases hA1.names q ho with h4|h4
     ·exact hnb h4
     ·omega
    have:=hA1.size;exact(oth4 q hql).trans ((hA3.heap q (by omega) hn1).trans ((oth2 q hql).trans (hA1.heap q hq hnb)))
   ·obtain⟨p,b,hb,ho,hbq⟩:=hq
    cases p with
    |zero=>injection hb with hb;subst hb;exact .inl ⟨0,_,rfl,rfl,hbq⟩
    |succ p=>
     obtain⟨x,_,hx2⟩:=hget p b hb;rcases hnm q ⟨x,b,hx2,ho,hbq⟩ with⟨y,c,k1,k2,k3⟩|h4
     ·exact .inl ⟨y+1,c,by rw[lmS];exact k1,k2,k3⟩
     ·exact .inr h4
   ·cases p with
    |zero=>injection hb with hb;subst hb;cases ho
    |succ p=>
     obtain⟨x,hx1,hx2⟩:=hget p b hb;have hro:=hA1.ro x b (hA3.ro x b hx2 ho) ho;have hx:x=p:=by
      by_cases hi:p<bs.length
      ·rw[List.getElem?_append_left (by simpa using hi),List.getElem?_range hi] at hx1
       injection hx1 with hx1;exact hx1.symm
      ·rw[List.getElem?_append_right (by simp;omega)] at hx1
       have:=Nat.le_of_ble_eq_true (hps.2 x (List.mem_of_getElem? hx1));have:bs[x]?=none:=List.getElem?_eq_none (by omega)
       simp[lM,this] at hro
     subst hx;rw[lmS];exact hro
  rintro e a3 w3 ⟨s2,h2,hK2,hS3,hA3⟩
  cases e with
  |normal=>
   obtain⟨ns,hns,hv,ho⟩:=hK2;obtain⟨f1,f2⟩:=fin none a3 w3 s2 hS3 hA3;exact⟨_,_,f1,ns,hns,by rw[←hv];rfl,by rw[←ho];exact f2⟩
  |ret=>
   obtain⟨ns,hns,hv,ho⟩:=hK2;obtain⟨f1,f2⟩:=fin (some .ret) a3 w3 s2 hS3 hA3;exact⟨_,_,f1,ns,hns,by rw[←hv];rfl,by rw[←ho];exact f2⟩
  |exit id=>
   obtain⟨ns,hns,hv,ho⟩:=hK2;obtain⟨f1,f2⟩:=fin (some (.exit id)) a3 w3 s2 hS3 hA3;exact⟨_,_,f1,ns,hns,by rw[←hv];rfl,by rw[←ho];exact f2⟩
  | _=>exact hK2.elim
 | _=>exact hK1.elim
theorem qU1 {n:Nat} {P:Program} {row:String} {args:Array Value} {w:World} {R:Value→World→Prop} (h:Rows P row args w R):RowsIn Fence.wide n P row args w R:=
 fun c cs _=>let⟨v,w',r,s⟩:=h c cs;⟨v,w',r,(stepsIn_wide (P:=P)).2 s⟩
theorem jAs {n:Nat} {P:Program} {o:Oper} {a:Act} {w:World} {K:Act→World→Prop} {Q:Exit→Act→World→Prop} (hd:∀c,o.op≠.defer c) (hQ:¬LetsOut Q)
  (h:o.wp P a w K Q∨(o.asks P a w∧LetsOut Q)):o.wpIn Fence.wide n P a w K Q:=by
 have h:=h.resolve_right fun h=>hQ h.2
 refine⟨fun _ _=>trivial,?_⟩
 rw[Oper.semAt_eq _ _ _ hd];unfold Oper.wp at h;generalize(execOp a.eval o).run P w=r at h ⊢;unfold Oper.upon at h;unfold Oper.uponIn;split at h
 ·exact h
 ·exact h
 ·exact h
 ·exact⟨fun h=>by simp[Fence.wide] at h,callsIn_wide.2 h⟩
 ·exact⟨fun h=>by simp[Fence.wide] at h,qU1 h⟩
 ·exact h
 ·exact h.elim
theorem qUZ {n:Nat} {P:Program} {ops:Array Oper} {Q:Exit→Act→World→Prop} {i:Nat} {K:Act→World→Prop} {a:Act} {w:World} (hd:qFs ops=true) (hQ:¬LetsOut Q)
  (h:wpOp P ops Q i K a w):wpOpIn Fence.wide n P ops Q i K a w:=by
 unfold wpOp at h;unfold wpOpIn;cases ho:ops[i]?with
 |none=>rw[ho] at h;exact h
 |some o=>
  rw[ho] at h;simp only at h ⊢;split at h
  ·rename_i hw;rw[if_pos hw];exact jAs (qIr hd ho) hQ h
  ·rename_i hw;rw[if_neg hw];exact⟨fun _ _=>trivial,h⟩
def qRT (n:Nat) (P:Program) (ops:Array Oper) (Q:Exit→Act→World→Prop):List Nat→(Act→World→Prop)→Act→World→Prop
 |[],K,a,w=>K a w
 |i::r,K,a,w=>wpOpIn Fence.wide n P ops Q i (qRT n P ops Q r K) a w
theorem qLm {n:Nat} {P:Program} {ops:Array Oper} {Q:Exit→Act→World→Prop}:∀(is js:List Nat) (a:Act) (w:World),qRT n P ops Q is (wpOpsIn Fence.wide n P ops Q js) a w→wpOpsIn Fence.wide n P ops Q (is++js) a w
 |[],_,_,_,h=>h
 |i::r,js,a,w,h=>by
  show wpOpsIn Fence.wide n P ops Q (i::(r++js)) a w;rw[wpOpsIn_cons];exact wpOpIn_mono (fun a w=>qLm r js a w) h
theorem qLu {F:Blk→Prop} {P:Program} {ops:Array Oper} {nt m:Nat} {Q:Exit→Act→World→Prop} {K:Act→World→Prop} (hd:qFs ops=true) (hQ:¬LetsOut Q):∀(ks:(List (Nat×OpH))) {s:St} {a:Act} {w:World},Sat ds nt s.fs a w→Fam F s.fs.mem w→
  (∀ns,ns.length=nnL ks→∃vc s',qCs F P ops nt ks ns s=some (vc,s')∧vc)→
  (∀ns vc s' a' w',ns.length=nnL ks→qCs F P ops nt ks ns s=some (vc,s')→vc→Sat ds nt s'.fs a' w'→Adv s.fs.mem w s'.fs.mem w'→K a' w')→
  qRT m P ops Q (ks.map (·.1)) K a w
 |[],s,a,w,hs,hF,hall,hK=>hK [] True s a w rfl rfl trivial hs (.refl _ _)
 |(i,h)::ks,s,a,w,hs,hF,hall,hK=>by
  obtain⟨vc,s',hev,hvc⟩:=hall (List.replicate _ 0) List.length_replicate;obtain⟨o,vc1,e,vc2,ho,hok,he,hr,hv⟩:=qCq hev;show wpOpIn Fence.wide m P ops Q i (qRT m P ops Q (ks.map (·.1)) K) a w
  refine qUZ hd hQ (qNd (nx:=s.nx) (h:=h) ho hs hF (qFa hok) (fun ns hns=>?_) (fun ns vc1' e' w' hns hev' hvc1 hp=>?_))
  ·obtain⟨vc,s',hev,hvc⟩:=hall (ns++List.replicate (nnL ks) 0) (by simp[nnL,hns])
   obtain⟨o',vc1,e,vc2,ho',hok,he,hr,rfl⟩:=qCq hev;rw[ho] at ho';injection ho' with ho';subst ho';rw[List.take_left' hns] at he;exact⟨vc1,e,he,hvc.1⟩
  ·have hsat:=qIQ hs (qKU hok) hp
   rw[←St.fs_apply s o.dst e' h.nb] at hsat;have hmem:(s.apply o.dst e' h.nb).fs.mem=qAG s.fs.mem e'.upd:=by rw[St.fs_apply];rfl
   refine qLu hd hQ ks hsat (hmem▸hF.adv hp.adv) (fun ns2 hns2=>?_) (fun ns2 vc2 s2 a2 w2 hns2 hev2 hvc2 hsat2 hadv2=>?_)
   ·obtain⟨vc,s',hev,hvc⟩:=hall (ns++ns2) (by simp[nnL,hns,hns2])
    obtain⟨o',vc1,e,vc2,ho',hok,he,hr,rfl⟩:=qCq hev;rw[ho] at ho';injection ho' with ho';subst ho';rw[List.take_left' hns,hev'] at he;injection he with he;injection he with h1 h2;subst h2;rw[List.drop_left' hns] at hr;exact⟨vc2,s',hr,hvc.2⟩
   ·refine hK (ns++ns2) (vc1'∧vc2) s2 a2 w2 (by simp[nnL,hns,hns2]) ?_ ⟨hvc1,hvc2⟩ hsat2 ((hp.adv).trans (hmem▸hadv2))
    exact qNT ho hok (by rw[List.take_left' hns];exact hev') (by rw[List.drop_left' hns];exact hev2)
def jEP (ops:Array Oper) (env:Nat→Option EV) (o:Oper):Bool:=match o.guard with
 |none=>true
 |some (j,want)=>match qXu ops env j want with
  |some b=>b
  |none=>false
theorem qPI {ops:Array Oper} {nt:Nat} {s:FSt} {a:Act} {w:World} (hs:Sat ds nt s a w) {o:Oper} (h:jEP ops s.env o=true):Region.wanted o (yielded ops a.tmps)=true:=by
 unfold jEP at h;cases hg:o.guard with
 |none=>unfold Region.wanted;rw[hg]
 |some jw=>
  obtain⟨j,want⟩:=jw;rw[hg] at h;simp only at h;cases hb:qXu ops s.env j want with
  |none=>rw[hb] at h;cases h
  |some b=>rw[hb] at h;simp only at h;rw[qPn hs hg hb];exact h
theorem qT1 {F:Blk→Prop} {P:Program} {nt id:Nat} {ops:Array Oper} {s s1:St} {ks1 ks2:List (Nat×OpH)} {i:Nat} {o:Oper} {vc1:Prop} {l:Nat} {args:List Value} {psl:List (Nat×Bool)} {k nb:Nat}
  {v:List Nat→Value} {out:List Nat→List (Option Blk)} (hd:qFs ops=true) (hidx:ks1.map (·.1)++i::ks2.map (·.1)=List.range ops.size) (hn1:nnL ks1=0) (hn2:nnL ks2=0)
  (he1:qCs F P ops nt ks1 [] s=some (vc1,s1)) (hv1:vc1) (ho:ops[i]?=some o) (hok:qUc nt o=true) (hg:jEP ops s1.fs.env o=true) (hk:qJb s1.fs.env o.op.operands.toList=true) (hc:qHE s1.fs.env o.op.operands.toList)
  (hex:∀w,(execOp (rho s1.fs.env) o).run P w=(Instr.yield l args.toArray).run P w) (hn:qBv psl=true) (hlen:∀ns,ns.length=k→psl.length≤(out ns).length) (hy:qXj F P l args (qCn s1.fs.mem psl) k v out)
  (vc2:List Nat→Prop) (s2:List Nat→St) (he2:∀ns,ns.length=k→qCs F P ops nt ks2 [] (s1.apply o.dst ⟨.v (v ns),qAB psl s1.nx (out ns)⟩ nb)=some (vc2 ns,s2 ns)∧vc2 ns):
  jB7 F ds P nt (.region id ops false) s (fun e s'=>∃ns:List Nat,ns.length=k∧e=.normal∧s'=s2 ns):=by
 intro a w hs hF;have hQ:¬LetsOut (fun e a' w'=>∃s',(∃ns:List Nat,ns.length=k∧e=Exit.normal∧s'=s2 ns)∧Sat ds nt s'.fs a' w'∧Adv s.fs.mem w s'.fs.mem w'):=fun⟨_,_,_,⟨_,_,h,_⟩,_⟩=>by cases h
 refine(wpIn_wide (n:=1)).1 (wpIn_region ?_);rw[←hidx];refine qLm _ _ _ _ (qLu hd hQ ks1 hs hF (fun ns hns=>?_) fun ns vc s' a1 w1 hns hev _ hS1 hA1=>?_)
 ·have:ns=[]:=List.eq_nil_of_length_eq_zero (by omega)
  subst this;exact⟨vc1,s1,he1,hv1⟩
 have hnil:ns=[]:=List.eq_nil_of_length_eq_zero (by omega)
 subst hnil;rw[he1] at hev;injection hev with hev;injection hev with _ hs';subst hs';have hF1:=hF.adv hA1;obtain⟨fn,tmps,asg,bd,hrun,hR⟩:=hy w1 (qDJ hS1.mem) (qDD hS1.apart hn) (qIL hF1);rw[wpOpsIn_cons];unfold wpOpIn;rw[ho];have hw:Region.wanted o (yielded ops a1.tmps)=true:=qPI hS1 hg;simp only[hw,if_true];refine⟨fun _ _=>trivial,?_⟩
 rw[Oper.semAt_eq _ _ _ (qIr hd ho),qV2 hS1 (qFa hok) hk hc,hex,hrun];refine⟨fun h=>by simp[Fence.wide] at h,(hR _).mono ?_⟩
 rintro e w2 ⟨ns,hns,rfl,hp⟩
 have hp2:=qDA (nx:=s1.nx) hS1.mem hS1.apart (hlen ns hns) hp;have hS2:=qIQ (dst:=o.dst) (e:=⟨.v (v ns),qAB psl s1.nx (out ns)⟩) hS1 (qKU hok) hp2;rw[←St.fs_apply s1 o.dst _ nb] at hS2;have hmem:(s1.apply o.dst ⟨.v (v ns),qAB psl s1.nx (out ns)⟩ nb).fs.mem=qAG s1.fs.mem (qAB psl s1.nx (out ns)):=by rw[St.fs_apply];rfl
 obtain⟨he3,hv3⟩:=he2 ns hns;have:=qLm (n:=1) (P:=P) (ops:=ops) (Q:=fun e a' w'=>∃s',(∃ns:List Nat,ns.length=k∧e=Exit.normal∧s'=s2 ns)∧Sat ds nt s'.fs a' w'∧Adv s.fs.mem w s'.fs.mem w') (ks2.map (·.1)) [] (a1.put o.dst (v ns)) w2
  (qLu hd hQ ks2 hS2 (hmem▸hF1.adv hp2.adv) (fun ns2 hns2=>?_) fun ns2 vc s' a3 w3 hns2 hev _ hS3 hA3=>?_)
 ·rw[List.append_nil] at this;exact this
 ·have:ns2=[]:=List.eq_nil_of_length_eq_zero (by omega)
  subst this;exact⟨_,_,he3,hv3⟩
 ·have:ns2=[]:=List.eq_nil_of_length_eq_zero (by omega)
  subst this;rw[he3] at hev;injection hev with hev;injection hev with _ hs';subst hs';exact⟨_,⟨ns,hns,rfl,rfl⟩,hS3,hA1.trans (hp2.adv.trans (hmem▸hA3))⟩
def qFp (id:Nat):Code→Option Code
 |.region i ops d=>match Nat.beq i id with
  |true=>some (.region i ops d)
  |false=>none
 |.seq a b=>match qFp id a with
  |some c=>some c
  |none=>qFp id b
 |.block _ b=>qFp id b
 |.scope b=>qFp id b
 |.loop b=>qFp id b
 |.cond _ x y=>match qFp id x with
  |some c=>some c
  |none=>qFp id y
 |.rangeFunc _ _ a b=>match qFp id a with
  |some c=>some c
  |none=>qFp id b
 | _=>none
def qKe:Code→List Code
 |.seq a b=>qKe a++qKe b
 |.block _ b=>qKe b
 |.scope b=>qKe b
 |.loop b=>qKe b
 |.cond _ x y=>qKe x++qKe y
 |.rangeFunc g p a b=>[.rangeFunc g p a b]
 | _=>[]
def jGq (id:Nat) (c:Option Code):Code:=match c with
 |some c=>(qFp id c).getD .skip
 |none=>.skip
def rfC (k:Nat) (c:Option Code):Code:=match c with
 |some c=>(qKe c).getD k .skip
 |none=>.skip
def rfA:Code→Code
 |.rangeFunc _ _ a _=>a
 | _=>.skip
def rfB:Code→Code
 |.rangeFunc _ _ _ b=>b
 | _=>.skip
def rfP:Code→Array Tmp
 |.rangeFunc _ p _ _=>p
 | _=>#[]
def rfG:Code→Operand
 |.rangeFunc g _ _ _=>g
 | _=>.func 0
def qKm:Code→Array Oper
 |.region _ ops _=>ops
 | _=>#[]
def jGk:Code→Nat
 |.region i _ _=>i
 | _=>0
def qQq:Code→Bool
 |.region _ _ false=>true
 | _=>false
theorem qSn {c:Code} (h:qQq c=true):c=.region (jGk c) (qKm c) false:=by
 unfold qQq at h;split at h
 ·rfl
 ·cases h
def jDU (c:Code) (nt:Nat) (ks1:List (Nat×OpH)) (i:Nat) (ks2:List (Nat×OpH)) (psl:List (Nat×Bool)):Bool:=
 qQq c&&qFs (qKm c)&&qVr (ks1++(i,.g)::ks2) 0 (qKm c).size&&Nat.beq (nnL ks1) 0&&Nat.beq (nnL ks2) 0&&qBv psl&&(match(qKm c)[i]?with
  |some o=>qUc nt o
  |none=>false)
def jDp (F:Blk→Prop) (P:Program) (nt:Nat) (c:Code) (ks1:List (Nat×OpH)) (i:Nat) (ks2:List (Nat×OpH)) (psl:List (Nat×Bool)) (k nb l:Nat) (args:List Value) (v:List Nat→Value) (out:List Nat→List (Option Blk))
  (ts ps:List Nat) (nx:Nat) (S:List Nat→St) (s:St):Prop:=match qCs F P (qKm c) nt ks1 [] s with
 |some (vc1,s1)=>vc1∧match(qKm c)[i]?with
  |some o=>qJb s1.fs.env o.op.operands.toList=true∧qHE s1.fs.env o.op.operands.toList∧jEP (qKm c) s1.fs.env o=true∧execOp (rho s1.fs.env) o=Instr.yield l args.toArray∧
    (∀ns:List Nat,ns.length=k→Nat.ble psl.length (out ns).length=true)∧qXj F P l args (qCn s1.fs.mem psl) k v out∧
    ∀ns:List Nat,ns.length=k→match qCs F P (qKm c) nt ks2 [] (s1.apply o.dst ⟨.v (v ns),qAB psl s1.nx (out ns)⟩ nb) with
     |some (vc2,s2)=>vc2∧s2.keep ts ps nx=S ns
     |none=>False
  |none=>False
 |none=>False
theorem jBm {F:Blk→Prop} {P:Program} {nt:Nat} {c:Code} {s:St} (ks1:List (Nat×OpH)) (i:Nat) (ks2:List (Nat×OpH)) (psl:List (Nat×Bool)) (k nb l:Nat) (args:List Value) (v:List Nat→Value) (out:List Nat→List (Option Blk))
  (ts ps:List Nat) (nx:Nat) (S:List Nat→St) (hok:jDU c nt ks1 i ks2 psl=true) (hev:jDp F P nt c ks1 i ks2 psl k nb l args v out ts ps nx S s):
  ∀ds,jB7 F ds P nt c s (fun e s'=>∃x:List Nat,x.length=k∧e=Exit.normal∧Le (S x).fs s'.fs):=by
 intro ds;unfold jDU at hok;simp only[Bool.and_eq_true] at hok;obtain⟨⟨⟨⟨⟨⟨h1,h2⟩,h3⟩,h4⟩,h5⟩,h6⟩,h7⟩:=hok;unfold jDp at hev;split at hev
 ·rename_i vc1 s1 he1
  obtain⟨hv1,hev⟩:=hev;split at hev
  ·rename_i o ho
   rw[ho] at h7;simp only at h7;obtain⟨k1,k2,hg,k3,k4,k5,k6⟩:=hev;have hidx:=(qDw _ 0 (qKm c).size h3).1;rw[Nat.sub_zero,←List.range_eq_range',List.map_append,List.map_cons] at hidx;have key:=qT1 (ds:=ds) (F:=F) (P:=P) (nt:=nt) (id:=jGk c) (ops:=qKm c) (s:=s) (s1:=s1) (ks1:=ks1) (ks2:=ks2) (i:=i) (o:=o) (l:=l) (args:=args) (psl:=psl) (k:=k) (nb:=nb) (v:=v) (out:=out)
    h2 hidx (Nat.eq_of_beq_eq_true h4) (Nat.eq_of_beq_eq_true h5) he1 hv1 ho h7 hg k1 k2 (fun w=>by rw[k3]) h6 (fun ns hns=>Nat.le_of_ble_eq_true (k4 ns hns)) k5
    (fun ns=>match qCs F P (qKm c) nt ks2 [] (s1.apply o.dst ⟨.v (v ns),qAB psl s1.nx (out ns)⟩ nb) with|some (vc2,_)=>vc2|none=>False)
    (fun ns=>match qCs F P (qKm c) nt ks2 [] (s1.apply o.dst ⟨.v (v ns),qAB psl s1.nx (out ns)⟩ nb) with|some (_,s2)=>s2|none=>s1)
    (fun ns hns=>by
     have:=k6 ns hns;split at this
     ·rename_i vc2 s2 he2
      rw[he2];exact⟨rfl,this.1⟩
     ·exact this.elim)
   rw[qSn h1];intro a w hs hF;refine wp_mono (key a w hs hF) ?_;rintro e a' w' ⟨s',⟨ns,hns,he,rfl⟩,hS,hA⟩
   refine⟨_,⟨ns,hns,he,?_⟩,hS,hA⟩;have:=k6 ns hns;split at this
   ·rename_i vc2 s2 he2
    rw[←this.2];exact qEa s2 ts ps nx
   ·exact this.elim
  ·exact hev.elim
 ·exact hev.elim
theorem qZx {F:Blk→Prop} {P:Program} {nt:Nat} {c:Code} {s:St} (gf:Nat) (caps:List Value) (psl:List (Nat×Bool)) (k nb:Nat) (v:List Nat→Value) (out:List Nat→List (Option Blk)) (pe:Option Code) (E:Exit)
  (ts ps:List Nat) (nx:Nat) (S:List Nat→St) (hc:c=.rangeFunc (rfG c) (rfP c) (rfA c) (rfB c)) (hg:qFt s.fs.env (rfG c)=some (.v (.func (.func gf) #[] caps.toArray))) (eg:∀args w,(callFunc gf args).run P w=.ok (.enter gf args) w)
  (hn:qBv psl=true) (hlen:∀ns:List Nat,ns.length=k→Nat.ble psl.length (out ns).length=true) (hpe:pe=none∧E=.normal∨pe=some .ret∧E=.ret∨∃id,pe=some (.exit id)∧E=.exit id)
  (hr:∀l D fn tm,jCo nt s.fs.env tm→qAc F P gf (yv l::caps) (some (qEV l (qGw .ready none fn tm (rfP c) (rfA c) (rfB c) D))::qCn s.fs.mem psl) k v
   (fun ns=>some (qEV l (qGw (stL pe) pe fn tm (rfP c) (rfA c) (rfB c) D))::out ns))
  (hS:∀ns:List Nat,ns.length=k→(St.mk s.env (qAB psl s.nx (out ns)++s.mem) (s.nx+nb)).keep ts ps nx=S ns):
  ∀ds,jB7 F ds P nt c s (fun e s'=>∃x:List Nat,x.length=k∧e=E∧Le (S x).fs s'.fs):=by
 intro ds a w hs hF;have key:=qNL (ds:=ds) (nt:=nt) (ps:=rfP c) (asg:=rfA c) (bd:=rfB c) hg eg hn (fun ns hns=>Nat.le_of_ble_eq_true (hlen ns hns)) hpe nb hr a w hs hF
 rw[←hc] at key;refine wp_mono key ?_;rintro e a' w' ⟨s',⟨ns,hns,he,rfl⟩,hS',hA⟩
 exact⟨_,⟨ns,hns,he,hS ns hns▸qEa _ ts ps nx⟩,hS',hA⟩
end Go.Eng
end
section
namespace Go.Proofs.YtmdpendnbkajdaaGreatDoor
open Go Go.Eng
def jE9:MapT TP 82 3 48 int qDf (fun _=>0) eqI:=qQZ (by kernel_rfl) (by kernel_rfl) fun w=>qAW (show qAb TP (zeroValue 48)=some (qDf fun _=>0) by kernel_rfl) w
def jGp:MapT TP 83 3 97 int ev0 () eqI:=qQZ (by kernel_rfl) (by kernel_rfl) fun w=>qAW (show qAb TP (zeroValue 97)=some (ev0 ()) by kernel_rfl) w
def jFF:MapT TP 124 4 23 Value.bool u64 0 eqT:=qT2 (by kernel_rfl) (by kernel_rfl) fun w=>qAW (show qAb TP (zeroValue 23)=some (u64 0) by kernel_rfl) w
def jGi:Tryz.prog.underlying 48=some (.array 32 5):=by kernel_rfl
def jGh:Tryz.prog.underlying 5=some (.int .u8):=by kernel_rfl
def jGa:qBT TP 5=some 1:=by kernel_rfl
def jGb:Tryz.prog.eqGuardType Tryz.prog.depth 48=false:=by kernel_rfl
abbrev qHL (a:Fst) (b:List Nat) (c:Nat):=qBp d0 a (pk b a.length c)
def v2X(y:UInt64):OpH:=.call [] 0 0 (fun _=>(Value.agg #[(u64 y),(u64 0),(u64 0),(u64 0)])) (fun _=>[])
def v5F(y:UInt64):=N4.mk y 0 0 0
def qSX (x y:UInt64):qDt TP 72 [(u64 x),(u64 y)] (qIb (qMi (qBq x) (qBq y)).lo):=
 qAg mix Tryz.func72 rfl rfl 400 (.regn v1f (more (fun n1=>fun _=>(.regn (rg [.g,(.call [] 0 0 (fun _=>(Value.agg #[(u64 x),(u64 0),(u64 0),(u64 0)])) (fun _=>[])),.g,(v2X y),(.call [] 0 0 (fun _=>(jBJ (qMi (N4.mk x 0 0 0) (v5F y)))) (fun _=>[])),.new,v15]) (more (fun n2=>fun _=>(.reg (rg [.g,.g,v0H,v19]) .done))))))) [(0,0)]
  (Eq.mp (by kernel_rfl) (fun(n1:Nat)=>aI kV1 (fun(n2:Nat)=>aI (sk (aI (aT (qFQ x)) (sk (aI (aT (qFQ y)) (aI (aT (qXT (N4.mk x 0 0 0) (v5F y))) (sk (v6R n2))))))) (aI (sK2 (aI (v1t n2) (v6d n1))) (aI (v0z n1) (@rfl Value (qIb (qMi (qBq x) (qBq y)).lo)))))))
def v4L(x:UInt64):=qMi (qBq x) (qBq 3)
def qUq (x y:UInt64):qDt TP 47 [(u64 x),(u64 y)] (Value.bool (qF1 x y)):=
 qAg mix Tryz.func47 rfl rfl 400 (.reg (rg [.g]) (.reg (rg [.g,(.call [] 0 0 (fun _=>(qIb ((v4L x).lo))) (fun _=>[])),.g,(v2X y),(.call [] 0 0 (fun _=>(int (qPu ((v4L x).lo) (v5F y)))) (fun _=>[])),.g,.g]) .done)) []
  (Eq.mp (by kernel_rfl) (aI kV1 (aI (sk (aI (aT (qSX x 3)) (sk (aI (aT (qFQ y)) (aI (aT (qWK ((v4L x).lo) (v5F y))) kV2))))) (aT ((show(vB (decide (((qPu ((v4L x).lo) (v5F y)):Int)>0)))=vB (qF1 x y) from congrArg vB qW8))))))
def v2i(w:Nat→UInt8):=qDs 32 (fun k=>u8 (w k))
def qVg (vb:Nat) (v w:Nat→UInt8):qBI TP 74 [(qBJ 32 (fun k=>u8 (v k))),(ptr vb 0)] [⟨vb,false,0,(qDs 32 (fun k=>u8 (w k)))⟩] 0 (fun _=>Value.bool (sR v w)) (fun _=>[some ⟨vb,false,0,(qDs 32 (fun k=>u8 (w k)))⟩]):=
 qAl mix Tryz.func74 rfl rfl 400 (.regn v0T (more (fun n1=>fun _=>(.reg (rg [v0H,v0j,(aB (sR v w)),.g]) .done)))) [] [] rfl
  (Eq.mp (by kernel_rfl) (fun(n1:Nat)=>aI kV2 (aI (aI (v0I n1) (aI (aT (ad vb 0)) (aI (aT (qU2 (P:=TP) (t:=48) (t':=48) (x:=(.tmp 4)) (y:=(.tmp 5)) jGi jGh jGa jGb v w)) kV1))) (aT (eX (fun(ns:List Nat)=>ns.length=0∧((vB (sR v w)):Value)=(fun _=>vB (sR v w)) ns∧([some ⟨vb,false,0,(v2i w)⟩]:List (Option Blk))=(fun _=>[some ⟨vb,false,0,(v2i w)⟩]) ns) [] (aI v0b (aI (@rfl Value (vB (sR v w))) (@rfl (List (Option Blk)) [some ⟨vb,false,0,(v2i w)⟩]))))))))
def v0g(n:Nat)(s:Nat→UInt64):=qAd n (fun k=>u64 (s k))
def v0x(sp n sc:Nat):=vS (some ⟨sp,0,none⟩) n sc
def v39(fm:Nat):=vM (some fm)
def v3a(am:Nat):=vM (some am)
def qF6 (t:Nat) (sp:Nat) (sc:Nat) (fm:Nat) (am:Nat) (n:Nat) (s:Nat→UInt64) (F:Fst) (vb:Nat) (w:Nat→UInt8) (n1:Nat) (n2:Nat) (x1:(List Nat)×(List (Bool×UInt64))):St:=⟨[(0,.v (ptr t 0)),(1,.v (Value.func (.func 74) #[] #[(ptr vb 0)])),(5,.v (vM (some n1))),(13,.v (ptr n2 0))],[(0,some ⟨t,false,0,(.lit [(v0x sp n sc),(u64 ((qBM s n).a)),(v39 fm),(v3a am)])⟩),(1,some ⟨sp,false,0,(v0g n s)⟩),(2,some ⟨fm,false,0,(qB5 F)⟩),(3,some ⟨vb,false,0,(v2i w)⟩),(4,some ⟨n1,true,0,(qWN x1.2)⟩),(5,some ⟨n2,true,0,(itC fm F.length x1.1)⟩)],6⟩
def qDc (t:Nat) (sp:Nat) (sc:Nat) (fm:Nat) (am:Nat) (n:Nat) (s:Nat→UInt64) (F:Fst) (vb:Nat) (w:Nat→UInt8) (n1:Nat) (n2:Nat) (x1:(List Nat)×(List (Bool×UInt64))):Prop:=(OrdN F.length x1.1)∧(x1.2=qTD s F w x1.1)
def qDQ (t:Nat) (sp:Nat) (sc:Nat) (fm:Nat) (am:Nat) (n:Nat) (s:Nat→UInt64) (F:Fst) (vb:Nat) (w:Nat→UInt8) (n1:Nat) (n2:Nat) (x1:(List Nat)×(List (Bool×UInt64))):Nat:=qFv x1.1 F.length
def wY0(a b:Nat):=@qAk TP 35 23 (.tmp a) (.tmp b) 1 (by kernel_rfl) (by kernel_rfl)
def v16(s:Nat→UInt64)(n:Nat):=u64 (qBM s n).a
def v25:=rg [(.oth [(5,true),(2,true)] 0 0 (fun _=>vT #[.bool false]) (fun _=>[none,none])),.g]
def v2G:OpH:=.st 6 (.lit 0)
def v2H:OpH:=.ld 6 (.lit 0)
def v45(F:Fst)(x1:(List Nat)×(List (Bool×UInt64)))(n3:Nat)(w:Nat→UInt8):=qAs eqT (sR (qHL F x1.1 n3).2 w) x1.2
def qST (t sp sc fm am n:Nat) (s:Nat→UInt64) (F:Fst) (vb:Nat) (w:Nat→UInt8) (hV:VOk n s F):qBI TP 73 [(ptr t 0),(Value.func (.func 74) #[] #[(ptr vb 0)])] [⟨t,false,0,(.lit [(Value.slice (some ⟨sp,0,none⟩) n sc),(u64 (qBM s n).a),(Value.map (some fm)),(Value.map (some am))])⟩,⟨sp,false,0,(qAd n (fun k=>u64 (s k)))⟩,⟨fm,false,0,(qB5 F)⟩,⟨vb,false,0,(qDs 32 (fun k=>u8 (w k)))⟩] 2 (fun ns=>(Value.map (some (ns.getD 0 0)))) (fun ns=>[some ⟨t,false,0,(.lit [(Value.slice (some ⟨sp,0,none⟩) n sc),(u64 (qBM s n).a),(Value.map (some fm)),(Value.map (some am))])⟩,some ⟨sp,false,0,(qAd n (fun k=>u64 (s k)))⟩,some ⟨fm,false,0,(qB5 F)⟩,some ⟨vb,false,0,(qDs 32 (fun k=>u8 (w k)))⟩,some ⟨(ns.getD 0 0),true,0,(qWN (qTD s F w (qXO F.length (ns.getD 1 0))))⟩]):=
 qAl mix Tryz.func73 rfl rfl 400 (.reg (rg [.g]) (.regn (rg [(.oth [] 1 1 (fun ns=>vM (some (g0 ns))) (fun ns=>[some ⟨ns.getD 0 0,true,0,qWN []⟩])),.g]) (more (fun n1=>fun _=>(.regn (rg [.g,.g,.g,v1p,(.othB [(2,true)] 1 1 (fun ns=>ptr (g0 ns) 0) (fun bs ns=>[none,some ⟨(g0 ns),true,0,itB bs⟩]))]) (more (fun n2=>fun _=>(.inv [0,1,5,13] [0,1,2,3,4,5] 6 (qDc t sp sc fm am n s F vb w n1 n2) (qF6 t sp sc fm am n s F vb w n1 n2) (qDQ t sp sc fm am n s F vb w n1 n2) ((([]),([])):(List Nat)×(List (Bool×UInt64))) (fun(x1:(List Nat)×(List (Bool×UInt64)))=>(.both (qBs x1.1 F.length) (.regn (rg [(.oth [(5,false),(2,true)] 1 0 (fun ns=>(vT #[(vB true),(int (qBp d0 F (pk x1.1 F.length (g0 ns))).1),(qBJ 32 (fun k=>u8 ((qBp d0 F (pk x1.1 F.length (g0 ns))).2 k)))])) (fun ns=>[some ⟨n2,true,0,(itC fm F.length (x1.1++[pk x1.1 F.length (g0 ns)]))⟩,none])),.g]) (more (fun n3=>fun _=>(.yes (.regn (rg [(.oth [(5,true),(2,true)] 0 0 (fun _=>(vT #[(int (qHL F x1.1 n3).1),(qBJ 32 (fun k=>u8 ((qHL F x1.1 n3).2 k)))])) (fun _=>[none,none])),.g,.g,.new,.g,v2G]) (more (fun n4=>fun _=>(.reg (rg [.g,.g,v2H,(.call [(3,true)] 0 0 (fun _=>(vB (sR (qHL F x1.1 n3).2 w))) (fun _=>[none])),(.oth [(4,true)] 0 0 (fun _=>(u64 ((v45 F x1 n3 w).getD 0))) (fun _=>[none])),.g,.g,.g,v0j,(aN ((qHL F x1.1 n3).1).toNat),(.as (ptr sp (0+(((qHL F x1.1 n3).1).toNat)*1))),(.ld 1 (.tab ((qHL F x1.1 n3).1).toNat 0)),(aQ (((v45 F x1 n3 w).getD 0)+(s ((qHL F x1.1 n3).1).toNat))),(.upd 4 (qWN (qCw eqT (sR (qHL F x1.1 n3).2 w) (((v45 F x1 n3 w).getD 0)+(s ((qHL F x1.1 n3).1).toNat)) x1.2)))]) .done)))))))) (.reg v25 (.no v5T)))))))))))) [] [4] rfl
  (Eq.mp (by kernel_rfl) (aI kV1 (fun(n1:Nat)=>aI (aI (aT (qHu (P:=TP) (kv:=vB) (ev:=u64) 124)) kV1) (fun(n2:Nat)=>aI (sK3 (aI (aT (ad t 2)) (aI (aT (qAu.dark [true] (qRd (P:=TP) (mt:=82) (kv:=int) (ev:=qDf) jE9.hm fm false F))) tV))) (aI (show(qDc t sp sc fm am n s F vb w n1 n2) ((([]),([])):(List Nat)×(List (Bool×UInt64))) from(show(OrdN F.length ([]))∧(([])=qTD s F w ([])) from by exact⟨OrdN.nil _,rfl⟩)) (aI (@rfl St ((qF6 t sp sc fm am n s F vb w n1 n2) ((([]),([])):(List Nat)×(List (Bool×UInt64))))) (fun(x1:(List Nat)×(List (Bool×UInt64))) (hx1:(qDc t sp sc fm am n s F vb w n1 n2) x1)=>have B0:OrdN F.length x1.1:=hx1.1;have B1:x1.2=qTD s F w x1.1:=hx1.2;aI (fun(h1:(qBs x1.1 F.length)=true)=>fun(n3:Nat)=>aI (aI (aT (qAu.dark [false,true] (qRG (P:=TP) (kv:=int) (ev:=qDf) 0 n2 fm false F x1.1 d0 h1))) kV1) ((have f3:(pk x1.1 F.length n3)<F.length:=((qD8 h1 n3)).1;have f4:0≤(qHL F x1.1 n3).1∧(qHL F x1.1 n3).1.toNat<n:=(hV.key (pk x1.1 F.length n3) ((qD8 h1 n3)).1);aT (aI v01 (fun(n4:Nat)=>aI (aI (aT (qQH (P:=TP) (kv:=int) (ev:=qDf) n2 fm false false F x1.1 (pk x1.1 F.length n3) d0 (show pk x1.1 F.length n3<F.length from by omega))) (sK4 (aI (v5O n4) tV))) (aI (sK2 (aI (v5O n4) (aI (aT (qBI.dark [true] (qVg vb (qHL F x1.1 n3).2 w))) (aI (aT (qJD (P:=TP) jFF n1 false x1.2 (sR (qHL F x1.1 n3).2 w))) (sK3 (aI (aT (ad t 0)) (aI (aT (@qCy TP (.tmp 6) (qHL F x1.1 n3).1 ((qHL F x1.1 n3).1).toNat (show(((qHL F x1.1 n3).1):Int)=((((qHL F x1.1 n3).1).toNat:Nat):Int) from by omega))) (aI (aT (@wY0 27 28 sp 0 n sc ((qHL F x1.1 n3).1).toNat (show((qHL F x1.1 n3).1).toNat<n from by omega))) (aI (aT (aI (show((qHL F x1.1 n3).1).toNat<n from by omega) (@rfl Value (ptr sp (0+(((qHL F x1.1 n3).1).toNat)*1))))) (aI (aT (@qBW TP 23 23 (.tmp 23) (.tmp 30) ((v45 F x1 n3 w).getD 0) (s ((qHL F x1.1 n3).1).toNat))) (aI (aT (qHn (P:=TP) jFF n1 x1.2 (sR (qHL F x1.1 n3).2 w) (((v45 F x1 n3 w).getD 0)+(s ((qHL F x1.1 n3).1).toNat)))) tV))))))))))) ((rnd (qDc t sp sc fm am n s F vb w n1 n2) (qF6 t sp sc fm am n s F vb w n1 n2) (qDQ t sp sc fm am n s F vb w n1 n2) x1 (((x1.1++[pk x1.1 F.length n3]),(qCw eqT (sR (qHL F x1.1 n3).2 w) (((v45 F x1 n3 w).getD 0)+(s ((qHL F x1.1 n3).1).toNat)) x1.2)):(List Nat)×(List (Bool×UInt64))) (show((OrdN F.length (x1.1++[pk x1.1 F.length n3]))∧((qCw eqT (sR (qBp d0 F (pk x1.1 F.length n3)).2 w) (((qAs eqT (sR (qBp d0 F (pk x1.1 F.length n3)).2 w) x1.2).getD 0)+(s ((qBp d0 F (pk x1.1 F.length n3)).1).toNat)) x1.2)=qTD s F w (x1.1++[pk x1.1 F.length n3])))∧(qFv (x1.1++[pk x1.1 F.length n3]) F.length)<(qFv x1.1 F.length) from by exact⟨⟨B0.snoc h1 _,by rw[B1];exact(jAU eqT (fun i=>sR (vF F i) w) (sF s F) _ _).symm⟩,qHx (qD8 h1 _).1 (qD8 h1 _).2⟩))))))))) (fun(h1:(qBs x1.1 F.length)=false)=>aI (aI (aT (qN5 (P:=TP) (kv:=int) (ev:=qDf) 0 n2 fm false false F x1.1 h1)) kV1) (aT (aI v05 (aI kV2 (aT (eX (fun(ns:List Nat)=>ns.length=2∧((vM (some n1)):Value)=(fun ns=>(vM (some (g0 ns)))) ns∧([some ⟨t,false,0,(.lit [(v0x sp n sc),(v16 s n),(v39 fm),(v3a am)])⟩,some ⟨sp,false,0,(v0g n s)⟩,some ⟨fm,false,0,(qB5 F)⟩,some ⟨vb,false,0,(v2i w)⟩,some ⟨n1,true,0,(qWN x1.2)⟩]:List (Option Blk))=(fun ns=>[some ⟨t,false,0,(.lit [(v0x sp n sc),(v16 s n),(v39 fm),(v3a am)])⟩,some ⟨sp,false,0,(v0g n s)⟩,some ⟨fm,false,0,(qB5 F)⟩,some ⟨vb,false,0,(v2i w)⟩,some ⟨(g0 ns),true,0,(qWN (qTD s F w (qXO F.length (g1 ns))))⟩]) ns) [n1,(qWk x1.1)] (aI v0W (aI (@rfl Value (vM (some n1))) ((show([some ⟨t,false,0,(.lit [(vS (some ⟨sp,0,none⟩) n sc),(u64 (qBM s n).a),(vM (some fm)),(vM (some am))])⟩,some ⟨sp,false,0,(qAd n (fun k=>u64 (s k)))⟩,some ⟨fm,false,0,(qB5 F)⟩,some ⟨vb,false,0,(qDs 32 (fun k=>u8 (w k)))⟩,some ⟨n1,true,0,(qWN x1.2)⟩]:List (Option Blk))=[some ⟨t,false,0,(.lit [(vS (some ⟨sp,0,none⟩) n sc),(u64 (qBM s n).a),(vM (some fm)),(vM (some am))])⟩,some ⟨sp,false,0,(qAd n (fun k=>u64 (s k)))⟩,some ⟨fm,false,0,(qB5 F)⟩,some ⟨vb,false,0,(qDs 32 (fun k=>u8 (w k)))⟩,some ⟨n1,true,0,(qWN (qTD s F w (qXO F.length (qWk x1.1))))⟩] from by rw[qWs (show qTn F.length x1.1 from⟨B0,h1⟩) (Nat.le_trans hV.len (by decide)),←B1])))))))))))))))))
def v5z:=m2 fun n2 n3=>.done
def v6j(t sp n sc:Nat)(s:Nat→UInt64)(fm am:Nat)(F:Fst):=@rfl (List (Option Blk)) [some ⟨t,false,0,(.lit [(v0x sp n sc),(v16 s n),(v39 fm),(v3a am)])⟩,some ⟨sp,false,0,(v0g n s)⟩,some ⟨fm,false,0,(qB5 F)⟩]
def qYm (t sp sc fm am n:Nat) (s:Nat→UInt64) (F:Fst) (v:Nat→UInt8) (hV:VOk n s F):qBI TP 48 [(ptr t 0),(qBJ 32 (fun k=>u8 (v k)))] [⟨t,false,0,(.lit [(Value.slice (some ⟨sp,0,none⟩) n sc),(u64 ((qBM s n).a)),(Value.map (some fm)),(Value.map (some am))])⟩,⟨sp,false,0,(qAd n (fun k=>u64 (s k)))⟩,⟨fm,false,0,(qB5 F)⟩] 0 (fun _=>u64 (forV s F v)) (fun _=>[some ⟨t,false,0,(.lit [(Value.slice (some ⟨sp,0,none⟩) n sc),(u64 ((qBM s n).a)),(Value.map (some fm)),(Value.map (some am))])⟩,some ⟨sp,false,0,(qAd n (fun k=>u64 (s k)))⟩,some ⟨fm,false,0,(qB5 F)⟩]):=
 qAl mix Tryz.func48 rfl rfl 400 (.regn v0T (more (fun n1=>fun _=>(.regn (rg [.g,.g,(.call [(0,true),(1,true),(2,true),(3,true)] 2 1 (fun ns=>vM (some (g0 ns))) (fun ns=>[none,none,none,none,some ⟨(g0 ns),true,0,(qWN (qTD s F v (qXO F.length (g1 ns))))⟩])),(.oth [(4,true)] 0 0 (fun _=>(u64 (forV s F v))) (fun _=>[none])),.g]) v5z)))) [] [] rfl
  (Eq.mp (by kernel_rfl) (fun(n1:Nat)=>aI kV2 (fun(n2 n3:Nat)=>aI (sK2 (aI (aT (qBI.dark [true,true,true,true] (qST t sp sc fm am n s F n1 v hV))) (aI (aT (qAu.valE (qJD (P:=TP) jFF n2 false (qTD s F v (qXO F.length n3)) true) (congrArg u64 (jAf hV v (jAJ _ _))))) kV1))) (aT (eX (fun(ns:List Nat)=>ns.length=0∧((u64 (forV s F v)):Value)=(fun _=>u64 (forV s F v)) ns∧([some ⟨t,false,0,(.lit [(v0x sp n sc),(v16 s n),(v39 fm),(v3a am)])⟩,some ⟨sp,false,0,(v0g n s)⟩,some ⟨fm,false,0,(qB5 F)⟩]:List (Option Blk))=(fun _=>[some ⟨t,false,0,(.lit [(v0x sp n sc),(v16 s n),(v39 fm),(v3a am)])⟩,some ⟨sp,false,0,(v0g n s)⟩,some ⟨fm,false,0,(qB5 F)⟩]) ns) [] (aI v0b (aI (@rfl Value (u64 (forV s F v))) (v6j t sp n sc s fm am F))))))))
def qR9 (t sp sc fm am n:Nat) (s:Nat→UInt64) (F:Fst) (v:Nat→UInt8) (hV:VOk n s F):qBI TP 28 [(ptr t 0),(qBJ 32 (fun k=>u8 (v k)))] [⟨t,false,0,(.lit [(Value.slice (some ⟨sp,0,none⟩) n sc),(u64 ((qBM s n).a)),(Value.map (some fm)),(Value.map (some am))])⟩,⟨sp,false,0,(qAd n (fun k=>u64 (s k)))⟩,⟨fm,false,0,(qB5 F)⟩] 0 (fun _=>Value.bool (qF1 (forV s F v) (qBM s n).a)) (fun _=>[some ⟨t,false,0,(.lit [(Value.slice (some ⟨sp,0,none⟩) n sc),(u64 ((qBM s n).a)),(Value.map (some fm)),(Value.map (some am))])⟩,some ⟨sp,false,0,(qAd n (fun k=>u64 (s k)))⟩,some ⟨fm,false,0,(qB5 F)⟩]):=
 qAl mix Tryz.func28 rfl rfl 400 (.regn v0T (more (fun n1=>fun _=>(.reg (rg [.g,v2f,(.call [(0,true),(1,true),(2,true)] 0 0 (fun _=>(u64 (forV s F v))) (fun _=>[none,none,none])),.g,.g,.g,v0o,(.call [] 0 0 (fun _=>(vB (qF1 (forV s F v) ((qBM s n).a)))) (fun _=>[])),.g]) .done)))) [] [] rfl
  (Eq.mp (by kernel_rfl) (fun(n1:Nat)=>aI kV2 (aI (sk (aI (v0I n1) (aI (aT (qBI.dark [true,true,true] (qYm t sp sc fm am n s F v hV))) (sK3 (aI (aT (ad t 1)) (aI (aT (qUq (forV s F v) (qBM s n).a)) kV1)))))) (aT (eX (fun(ns:List Nat)=>ns.length=0∧((vB (qF1 (forV s F v) (qBM s n).a)):Value)=(fun _=>vB (qF1 (forV s F v) (qBM s n).a)) ns∧([some ⟨t,false,0,(.lit [(v0x sp n sc),(v16 s n),(v39 fm),(v3a am)])⟩,some ⟨sp,false,0,(v0g n s)⟩,some ⟨fm,false,0,(qB5 F)⟩]:List (Option Blk))=(fun _=>[some ⟨t,false,0,(.lit [(v0x sp n sc),(v16 s n),(v39 fm),(v3a am)])⟩,some ⟨sp,false,0,(v0g n s)⟩,some ⟨fm,false,0,(qB5 F)⟩]) ns) [] (aI v0b (aI (@rfl Value (vB (qF1 (forV s F v) (qBM s n).a))) (v6j t sp n sc s fm am F))))))))
def v1m(who:Int)(F:Fst):=vT #[(qBJ 32 (fun k=>u8 ((qAs eqI who F).getD (fun _=>0) k))),(vB ((qAs eqI who F).isSome))]
def qSC (t sp sc fm am n:Nat) (s:Nat→UInt64) (F:Fst) (who:Int):qBI TP 43 [(ptr t 0),(int who)] [⟨t,false,0,(.lit [(Value.slice (some ⟨sp,0,none⟩) n sc),(u64 ((qBM s n).a)),(Value.map (some fm)),(Value.map (some am))])⟩,⟨fm,false,0,(qB5 F)⟩] 0 (fun _=>Value.tuple #[qDf ((qAs eqI who F).getD (fun _=>0)),.bool (qAs eqI who F).isSome]) (fun _=>[some ⟨t,false,0,(.lit [(Value.slice (some ⟨sp,0,none⟩) n sc),(u64 ((qBM s n).a)),(Value.map (some fm)),(Value.map (some am))])⟩,some ⟨fm,false,0,(qB5 F)⟩]):=
 qAl mix Tryz.func43 rfl rfl 400 (.regn v0T (more (fun n1=>fun _=>(.regn (rg [.g,.g,.g,v1p,.g,(.oth [(1,true)] 0 0 (fun _=>(v1m who F)) (fun _=>[none])),.g,.g,.g,.new,v4M,.g]) (more (fun n2=>fun _=>(.reg (rg [v2f,.g,v1V,.g]) .done))))))) [(2,0)] [] rfl
  (Eq.mp (by kernel_rfl) (fun(n1:Nat)=>aI kV2 (fun(n2:Nat)=>aI (sK3 (aI (aT (ad t 2)) (sk (aI (aT (qT4 (P:=TP) jE9 fm false F who)) (sK4 (aI (v1t n2) kV1)))))) (aI (aI (v1t n2) (sk (v6k n1))) (aI (v0z n1) (eX (fun(ns:List Nat)=>ns.length=0∧((v1m who F):Value)=(fun _=>vT #[qDf ((qAs eqI who F).getD (fun _=>0)),.bool (qAs eqI who F).isSome]) ns∧([some ⟨t,false,0,(.lit [(v0x sp n sc),(v16 s n),(v39 fm),(v3a am)])⟩,some ⟨fm,false,0,(qB5 F)⟩]:List (Option Blk))=(fun _=>[some ⟨t,false,0,(.lit [(v0x sp n sc),(v16 s n),(v39 fm),(v3a am)])⟩,some ⟨fm,false,0,(qB5 F)⟩]) ns) [] (aI v0b (aI (@rfl Value (vT #[qDf ((qAs eqI who F).getD (fun _=>0)),.bool (qAs eqI who F).isSome])) (@rfl (List (Option Blk)) [some ⟨t,false,0,(.lit [(v0x sp n sc),(v16 s n),(v39 fm),(v3a am)])⟩,some ⟨fm,false,0,(qB5 F)⟩])))))))))
def vz (sp n sc:Nat) (s:Nat→UInt64) (fm am:Nat):qAL:=.lit [(Value.slice (some ⟨sp,0,none⟩) n sc),(u64 ((qBM s n).a)),(Value.map (some fm)),(Value.map (some am))]
abbrev qUu (a:Int):=decide ((a:Int)<0)
def wZ0(a:Nat):=@qAo TP 35 23 (.tmp a) (by kernel_rfl)
def v0F:=rg [.g,.g,.g]
def qIN (t sp sc fm am n:Nat) (s:Nat→UInt64) (F:Fst) (A:List (Int×Unit)) (who:Int) (v:Nat→UInt8) (hn:n≤40):qBI TP 25 [(ptr t 0),(int who),(qBJ 32 (fun k=>u8 (v k)))] [⟨t,false,0,(vz sp n sc s fm am)⟩,⟨sp,false,0,(qAd n (fun k=>u64 (s k)))⟩,⟨fm,true,0,(qB5 F)⟩,⟨am,true,0,(qEj A)⟩] 0 (fun _=>int (qAJ n s F who v)) (fun _=>[some ⟨t,false,0,(vz sp n sc s fm am)⟩,some ⟨sp,false,0,(qAd n (fun k=>u64 (s k)))⟩,some ⟨fm,true,0,(qB5 (qBo n s F who v))⟩,some ⟨am,true,0,(qEj (qBX n s F A who v))⟩]):=
 qAl mix Tryz.func25 rfl rfl 400 (.regn v0T (more (fun n1=>fun _=>(.reg (rg [.g,.g,.g,(.opt .g),(.opt .g),(.opt .g),(.opt .g),(.opt v0j),(.opt (aN n)),(.opt .g),.pk]) (.br v0c (.reg (rg [.g,.g,.g,v0j,(aN who.toNat),(.as (ptr sp (0+who.toNat*1))),(.ld 1 (.tab who.toNat 0)),(aB ((s who.toNat)==0))]) (.br v0c (.regn (rg [.g,.g,(.call [(0,true),(2,true)] 0 0 (fun _=>(v1m who F)) (fun _=>[none,none])),.g,.g,.g,.new,v4T,.g]) (more (fun n2=>fun _=>(.reg v0F (.br (.reg (rg [.g,.g,.g,v1p,.g,v1L,(.upd 2 (qB5 (qCw eqI who v F)))]) v0c) (.reg (rg [(.ld 5 (.lit 0)),v1L,(aB (sR ((qAs eqI who F).getD (fun _=>0)) v)),.g]) (.br v0c (.reg (rg [.g,.g,.g,v1W,.g,.g,(.upd 3 (qEj (qCw eqI who () A)))]) v0c))))))))))))))) [] [] rfl
  (Eq.mp (by kernel_rfl) (fun(n1:Nat)=>aI kV2 (aI (sK3 (aI (fun(hg:(sB (qUu who) false)=true)=>t2) (aI (fun(hg:(sB (qUu who) false)=true)=>t2) (aI (fun(hg:(sB (qUu who) false)=true)=>(aI (aI hg tV) tV)) (aI (fun(hg:(sB (qUu who) false)=true)=>(aI (aI hg tV) tV)) (aI (fun(hg:(sB (qUu who) false)=true)=>(aI (aI hg tV) (ad t 0))) (aI (fun(hg:(sB (qUu who) false)=true)=>have f1:¬((who:Int)<0):=(oF (qAP hg));(aI (aI hg tV) (@wZ0 16 (some ⟨sp,0,none⟩) n sc))) (aI (fun(hg:(sB (qUu who) false)=true)=>(aI (aI hg (aI hg tV)) tV)) (aI (aT (aI (fun(_:(qUu who)=true)=>tV) (fun(hp:(qUu who)=false)=>(qAS hp)))) tV))))))))) (aT (aI (fun(h1:(qA0 (qUu who) true (decide ((who:Int)≥((n:Nat):Int))))=true)=>have f1:(((who:Int)<0))∨(((who:Int)≥((n:Nat):Int))):=(Or.imp (fun h=>(oT h)) (fun h=>(oT h)) (qG9 h1));aI kV1 (aT (eX (fun(ns:List Nat)=>ns.length=0∧((int 1):Value)=(fun _=>int (qAJ n s F who v)) ns∧([some ⟨t,false,0,(vz sp n sc s fm am)⟩,some ⟨sp,false,0,(v0g n s)⟩,some ⟨fm,true,0,(qB5 F)⟩,some ⟨am,true,0,(qEj A)⟩]:List (Option Blk))=(fun _=>[some ⟨t,false,0,(vz sp n sc s fm am)⟩,some ⟨sp,false,0,(v0g n s)⟩,some ⟨fm,true,0,(qB5 (qBo n s F who v))⟩,some ⟨am,true,0,(qEj (qBX n s F A who v))⟩]) ns) [] (aI v0b (aI ((show(int 1)=int (qAJ n s F who v) from by rw[qUm (by omega)])) ((show([some ⟨t,false,0,(vz sp n sc s fm am)⟩,some ⟨sp,false,0,(qAd n (fun k=>u64 (s k)))⟩,some ⟨fm,true,0,(qB5 F)⟩,some ⟨am,true,0,(qEj A)⟩]:List (Option Blk))=[some ⟨t,false,0,(vz sp n sc s fm am)⟩,some ⟨sp,false,0,(qAd n (fun k=>u64 (s k)))⟩,some ⟨fm,true,0,(qB5 (qBo n s F who v))⟩,some ⟨am,true,0,(qEj (qBX n s F A who v))⟩] from by rw[(qHo (A:=A) (qUm (by omega)) (by decide) (by decide)).1,(qHo (A:=A) (qUm (by omega)) (by decide) (by decide)).2]))))))) (fun(h1:(qA0 (qUu who) true (decide ((who:Int)≥((n:Nat):Int))))=false)=>have f1:¬((who:Int)<0):=(oF (qBj h1));have f2:¬((who:Int)≥((n:Nat):Int)):=(oF (qBK h1));aI (sK3 (aI (aT (ad t 0)) (aI (aT (@qCy TP (.tmp 1) who who.toNat (show(who:Int)=((who.toNat:Nat):Int) from by omega))) (aI (aT (@wY0 23 24 sp 0 n sc who.toNat (show who.toNat<n from by omega))) (aI (aT (aI (show who.toNat<n from by omega) (@rfl Value (ptr sp (0+who.toNat*1))))) (aI (aT (@qKF TP 23 23 (.tmp 26) (.const (.int .u64 0)) (s who.toNat) 0)) tV)))))) (aT (aI (fun(h2:((s who.toNat)==0)=true)=>aI kV1 (aT (eX (fun(ns:List Nat)=>ns.length=0∧((int 51):Value)=(fun _=>int (qAJ n s F who v)) ns∧([some ⟨t,false,0,(vz sp n sc s fm am)⟩,some ⟨sp,false,0,(v0g n s)⟩,some ⟨fm,true,0,(qB5 F)⟩,some ⟨am,true,0,(qEj A)⟩]:List (Option Blk))=(fun _=>[some ⟨t,false,0,(vz sp n sc s fm am)⟩,some ⟨sp,false,0,(v0g n s)⟩,some ⟨fm,true,0,(qB5 (qBo n s F who v))⟩,some ⟨am,true,0,(qEj (qBX n s F A who v))⟩]) ns) [] (aI v0b (aI ((show(int 51)=int (qAJ n s F who v) from by rw[qPR (by omega) h2])) ((show([some ⟨t,false,0,(vz sp n sc s fm am)⟩,some ⟨sp,false,0,(qAd n (fun k=>u64 (s k)))⟩,some ⟨fm,true,0,(qB5 F)⟩,some ⟨am,true,0,(qEj A)⟩]:List (Option Blk))=[some ⟨t,false,0,(vz sp n sc s fm am)⟩,some ⟨sp,false,0,(qAd n (fun k=>u64 (s k)))⟩,some ⟨fm,true,0,(qB5 (qBo n s F who v))⟩,some ⟨am,true,0,(qEj (qBX n s F A who v))⟩] from by rw[(qHo (A:=A) (qPR (by omega) h2) (by decide) (by decide)).1,(qHo (A:=A) (qPR (by omega) h2) (by decide) (by decide)).2]))))))) (fun(h2:((s who.toNat)==0)=false)=>fun(n2:Nat)=>aI (sK2 (aI (aT (qBI.dark [true,true] (qSC t sp sc fm am n s F who))) (sK4 (aI (v1t n2) kV1)))) (aI kV3 (aT (aI (fun(h3:(!((qAs eqI who F).isSome))=true)=>have f4:((qAs eqI who F).isSome)=false:=(qBr h3);aI (sK3 (aI (aT (ad t 2)) (sk (aI (v0I n1) (aI (aT (qHn (P:=TP) jE9 fm F who v)) tV))))) (aI kV1 (aT (eX (fun(ns:List Nat)=>ns.length=0∧((int 0):Value)=(fun _=>int (qAJ n s F who v)) ns∧([some ⟨t,false,0,(vz sp n sc s fm am)⟩,some ⟨sp,false,0,(v0g n s)⟩,some ⟨fm,true,0,(qB5 (qCw eqI who v F))⟩,some ⟨am,true,0,(qEj A)⟩]:List (Option Blk))=(fun _=>[some ⟨t,false,0,(vz sp n sc s fm am)⟩,some ⟨sp,false,0,(v0g n s)⟩,some ⟨fm,true,0,(qB5 (qBo n s F who v))⟩,some ⟨am,true,0,(qEj (qBX n s F A who v))⟩]) ns) [] (aI v0b (aI ((show(int 0)=int (qAJ n s F who v) from by rw[qUt (by omega) h2 (qBr h3)])) ((show([some ⟨t,false,0,(vz sp n sc s fm am)⟩,some ⟨sp,false,0,(qAd n (fun k=>u64 (s k)))⟩,some ⟨fm,true,0,(qB5 (qCw eqI who v F))⟩,some ⟨am,true,0,(qEj A)⟩]:List (Option Blk))=[some ⟨t,false,0,(vz sp n sc s fm am)⟩,some ⟨sp,false,0,(qAd n (fun k=>u64 (s k)))⟩,some ⟨fm,true,0,(qB5 (qBo n s F who v))⟩,some ⟨am,true,0,(qEj (qBX n s F A who v))⟩] from by rw[(qP4 (A:=A) (qUt (by omega) h2 (qBr h3))).1,(qP4 (A:=A) (qUt (by omega) h2 (qBr h3))).2])))))))) (fun(h3:(!((qAs eqI who F).isSome))=false)=>have f4:((qAs eqI who F).isSome)=true:=(qAQ h3);aI (aI (v1t n2) (aI (v0I n1) (aI (aT (qU2 (P:=TP) (t:=48) (t':=48) (x:=(.tmp 44)) (y:=(.tmp 45)) jGi jGh jGa jGb ((qAs eqI who F).getD (fun _=>0)) v)) kV1))) (aT (aI (fun(h4:(sR ((qAs eqI who F).getD (fun _=>0)) v)=true)=>aI kV1 (aT (eX (fun(ns:List Nat)=>ns.length=0∧((int 13):Value)=(fun _=>int (qAJ n s F who v)) ns∧([some ⟨t,false,0,(vz sp n sc s fm am)⟩,some ⟨sp,false,0,(v0g n s)⟩,some ⟨fm,true,0,(qB5 F)⟩,some ⟨am,true,0,(qEj A)⟩]:List (Option Blk))=(fun _=>[some ⟨t,false,0,(vz sp n sc s fm am)⟩,some ⟨sp,false,0,(v0g n s)⟩,some ⟨fm,true,0,(qB5 (qBo n s F who v))⟩,some ⟨am,true,0,(qEj (qBX n s F A who v))⟩]) ns) [] (aI v0b (aI ((show(int 13)=int (qAJ n s F who v) from by rw[qPE (by omega) h2 (qAQ h3) h4])) ((show([some ⟨t,false,0,(vz sp n sc s fm am)⟩,some ⟨sp,false,0,(qAd n (fun k=>u64 (s k)))⟩,some ⟨fm,true,0,(qB5 F)⟩,some ⟨am,true,0,(qEj A)⟩]:List (Option Blk))=[some ⟨t,false,0,(vz sp n sc s fm am)⟩,some ⟨sp,false,0,(qAd n (fun k=>u64 (s k)))⟩,some ⟨fm,true,0,(qB5 (qBo n s F who v))⟩,some ⟨am,true,0,(qEj (qBX n s F A who v))⟩] from by rw[(qHo (A:=A) (qPE (by omega) h2 (qAQ h3) h4) (by decide) (by decide)).1,(qHo (A:=A) (qPE (by omega) h2 (qAQ h3) h4) (by decide) (by decide)).2]))))))) (fun(h4:(sR ((qAs eqI who F).getD (fun _=>0)) v)=false)=>aI (sK3 (aI (aT (ad t 3)) (sK2 (aI (aT (qHn (P:=TP) jGp am A who ())) tV)))) (aI kV1 (aT (eX (fun(ns:List Nat)=>ns.length=0∧((int 52):Value)=(fun _=>int (qAJ n s F who v)) ns∧([some ⟨t,false,0,(vz sp n sc s fm am)⟩,some ⟨sp,false,0,(v0g n s)⟩,some ⟨fm,true,0,(qB5 F)⟩,some ⟨am,true,0,(qEj (qCw eqI who () A))⟩]:List (Option Blk))=(fun _=>[some ⟨t,false,0,(vz sp n sc s fm am)⟩,some ⟨sp,false,0,(v0g n s)⟩,some ⟨fm,true,0,(qB5 (qBo n s F who v))⟩,some ⟨am,true,0,(qEj (qBX n s F A who v))⟩]) ns) [] (aI v0b (aI ((show(int 52)=int (qAJ n s F who v) from by rw[qP1 (by omega) h2 (qAQ h3) h4])) ((show([some ⟨t,false,0,(vz sp n sc s fm am)⟩,some ⟨sp,false,0,(qAd n (fun k=>u64 (s k)))⟩,some ⟨fm,true,0,(qB5 F)⟩,some ⟨am,true,0,(qEj (qCw eqI who () A))⟩]:List (Option Blk))=[some ⟨t,false,0,(vz sp n sc s fm am)⟩,some ⟨sp,false,0,(qAd n (fun k=>u64 (s k)))⟩,some ⟨fm,true,0,(qB5 (qBo n s F who v))⟩,some ⟨am,true,0,(qEj (qBX n s F A who v))⟩] from by rw[(qM1 (A:=A) (qP1 (by omega) h2 (qAQ h3) h4)).1,(qM1 (A:=A) (qP1 (by omega) h2 (qAQ h3) h4)).2])))))))))))))))))))))))
def v1Q:=vT #[(Value.pointer none),(int 2)]
def v3U:=@rfl Value (vT #[.pointer none,int 2])
def v65:=aT (eX (fun(ns:List Nat)=>ns.length=0∧(v1Q:Value)=(fun _=>vT #[.pointer none,int 2]) ns∧([]:List (Option Blk))=(fun _=>[]) ns) [] (aI v0b (aI v3U v0f)))
def v6Z:H:=.yes v5T
def jDv (ao:Option Addr) (c:Nat):qBI TP 20 [(Value.slice ao 0 c)] [] 0 (fun _=>Value.tuple #[.pointer none,int 2]) (fun _=>[]):=
 qAl mix Tryz.func20 rfl rfl 400 (.reg v00 (.reg (rg [.g,(aJ 0),.g,.g,.skip,.skip,.skip,.pk]) v6Z)) [] [] rfl
  (Eq.mp (by kernel_rfl) (aI kV2 (aI (sk (aI (aT (@wZ0 5 ao 0 c)) (sK2 (aI v05 (aI v05 (aI v05 (aI (aT (aI (fun(_:true=true)=>tV) (fun(_:true=false)=>tV))) tV))))))) (aT (aI v01 (aI kV2 v65))))))
def v4c:=qB5 ([])
def v4d:=qEj ([])
def v6f(n:Nat)(f:Nat→UInt64):OpH:=.call [(0,true)] 2 1 (fun ns=>vS (some ⟨(g0 ns),0,none⟩) n (n+(g1 ns))) (fun ns=>[none,some ⟨(g0 ns),true,0,(v0q n f)⟩])
def qLA (p o n c:Nat) (f:Nat→UInt64) (hp:0<n) (hg:qJJ n f):qBI TP 20 [(Value.slice (some ⟨p,o,none⟩) n c)] [⟨p,false,o,(qAd n (fun k=>u64 (f k)))⟩] 5 (fun ns=>(Value.tuple #[(ptr (ns.getD 0 0) 0),(int 0)])) (fun ns=>[some ⟨p,false,o,(qAd n (fun k=>u64 (f k)))⟩,some ⟨(ns.getD 0 0),true,0,(.lit [(Value.slice (some ⟨(ns.getD 1 0),0,none⟩) n (n+(ns.getD 2 0))),(u64 ((qBM f n).a)),(Value.map (some (ns.getD 3 0))),(Value.map (some (ns.getD 4 0)))])⟩,some ⟨(ns.getD 1 0),true,0,(qAd n (fun k=>u64 (f k)))⟩,some ⟨(ns.getD 3 0),true,0,(qB5 ([]))⟩,some ⟨(ns.getD 4 0),true,0,(qEj ([]))⟩]):=
 qAl mix Tryz.func20 rfl rfl 400 (.reg v00 (.reg (rg [.g,(aN n),(aB (decide (n<1))),.g,(.opt .g),(.opt (aN n)),(.opt (aB (decide (40<n)))),.pk]) (.no (.regn (rg [.g,(.call [(0,true)] 0 0 (fun _=>(qIb (qBM f n))) (fun _=>[none])),.new,v15]) (more (fun n1=>fun _=>(.reg (rg [v0H,(.call [] 0 0 (fun _=>(nat (qFw (qBM f n)))) (fun _=>[])),(aB (decide (63<(qFw (qBM f n)))))]) (.no (.regn (rg [.g,(v6f n f),.g,v0H,(.oth [] 1 1 (fun ns=>vM (some (g0 ns))) (fun ns=>[some ⟨ns.getD 0 0,true,0,qB5 []⟩])),(.oth [] 1 1 (fun ns=>vM (some (g0 ns))) (fun ns=>[some ⟨ns.getD 0 0,true,0,qEj []⟩])),.g,.new,.g,.g]) (m5 fun n2 n3 n4 n5 n6=>.done)))))))))) [] [5,2,3,4] rfl
  (have f1:=hg.1;Eq.mp (by kernel_rfl) (aI kV2 (aI (sk (aI (aT (@wZ0 5 (some ⟨p,o,none⟩) n c)) (aI (aT (@qAC TP 3 3 (.tmp 6) (.const (.int .i64 1))  n 1)) (sk (aI (fun(hg:(sB (decide (n<1)) false)=true)=>t2) (aI (fun(hg:(sB (decide (n<1)) false)=true)=>have f2:¬(n<1):=(oF (qAP hg));(aI (aI hg tV) (@wZ0 9 (some ⟨p,o,none⟩) n c))) (aI (fun(hg:(sB (decide (n<1)) false)=true)=>(aI (aI hg tV) (@qBe TP 3 3 (.tmp 10) (.const (.int .i64 40))  n 40))) (aI (aT (aI (fun(_:(decide (n<1))=true)=>tV) (fun(hp:(decide (n<1))=false)=>(qAS hp)))) tV)))))))) ((fun(hp1:(qA0 (decide (n<1)) true (decide (40<n)))=false)=>have f2:¬(n<1):=(oF (qBj hp1));have f3:¬(40<n):=(oF (qBK hp1));aT (aI hp1 (fun(n1:Nat)=>aI (sk (aI (aT (qBI.dark [true] (qSx p o n c f (show n≤9223372036854775807 from by omega)))) (sk (v6d n1)))) (aI (aI (v0I n1) (aI (aT (qXi (qBM f n))) (aI (aT (@qBe TP 3 3 (.tmp 16) (.const (.int .i64 63))  (qFw (qBM f n)) 63)) tV))) ((fun(hp2:(decide (63<(qFw (qBM f n))))=false)=>have f4:=(oF hp2);aT (aI hp2 (fun(n2 n3 n4 n5 n6:Nat)=>aI (sk (aI (aT (qBI.dark [true] (qKZ p o n c f (show 0<n∧n≤40 from by omega)))) (sk (aI (v0I n1) (aI (aT (qHu (P:=TP) (kv:=int) (ev:=qDf) 82)) (aI (aT (qHu (P:=TP) (kv:=int) (ev:=ev0) 83)) kV4)))))) (aT (eX (fun(ns:List Nat)=>ns.length=5∧((vT #[(ptr n6 0),(int 0)]):Value)=(fun ns=>(vT #[(ptr (g0 ns) 0),(int 0)])) ns∧([some ⟨p,false,o,(v0q n f)⟩,some ⟨n6,true,0,(.lit [(vS (some ⟨n2,0,none⟩) n (n+n3)),(u64 (qBM f n).a),(vM (some n4)),(vM (some n5))])⟩,some ⟨n2,true,0,(v0q n f)⟩,some ⟨n4,true,0,v4c⟩,some ⟨n5,true,0,v4d⟩]:List (Option Blk))=(fun ns=>[some ⟨p,false,o,(v0q n f)⟩,some ⟨(g0 ns),true,0,(.lit [(vS (some ⟨(g1 ns),0,none⟩) n (n+(g2 ns))),(u64 (qBM f n).a),(vM (some (g3 ns))),(vM (some (g4 ns)))])⟩,some ⟨(g1 ns),true,0,(v0q n f)⟩,some ⟨(g3 ns),true,0,v4c⟩,some ⟨(g4 ns),true,0,v4d⟩]) ns) [n6,n2,n3,n4,n5] (aI (@rfl Nat 5) (aI (@rfl Value (vT #[(ptr n6 0),(int 0)])) (@rfl (List (Option Blk)) [some ⟨p,false,o,(v0q n f)⟩,some ⟨n6,true,0,(.lit [(vS (some ⟨n2,0,none⟩) n (n+n3)),(u64 (qBM f n).a),(vM (some n4)),(vM (some n5))])⟩,some ⟨n2,true,0,(v0q n f)⟩,some ⟨n4,true,0,v4c⟩,some ⟨n5,true,0,v4d⟩])))))))) (show(decide (63<(qFw (qBM f n))))=false from by exact decide_eq_false (by have:=hg.2;omega))))))) (show(qA0 (decide (n<1)) true (decide (40<n)))=false from by simp only[qCH,qCL,Bool.or_eq_true,Bool.or_eq_false_iff,Bool.and_eq_true,Bool.and_eq_false_iff,decide_eq_true_eq,decide_eq_false_iff_not];omega)))))
end Go.Proofs.YtmdpendnbkajdaaGreatDoor
end
section
namespace Go.Eng
open Go.RowKit Go.WideShapes Go.ChangeShapes Go.ChangeAt
def qZu (nm n c:Nat) (f:Nat→BytL):qA6:=⟨some ⟨nm,0,none⟩,n,c,nm,0,f⟩
def qXo (l:List BytL):Nat→BytL:=fun k=>l.getD k (qAf none 0)
def qUK {nm n c:Nat} {f:Nat→BytL} (h1:n≤c) (h2:n≤9223372036854775807) (h3:∀k,k<n→OkB (f k)):OkS (qZu nm n c f):=⟨h1,fun _=>rfl,h2,h3⟩
def qQ9 {P:Program} {W:World} {g t e:Nat} {n:Nat} {name:String} {zs:List Int} (hname:P.globalNamed name=some g) (hty:(P.globals[g]?).map (·.type)=some t) (ht:P.underlying t=some (.array n e)) (he:P.underlying e=some (.int .u32)) (hc:P.cellsOf e=1) (hlen:zs.length=n)
  (h:∃(g' t':Nat) (cs:Array Value) (fuel:Nat) (q:List MemPlace),P.globalNamed name=some g'∧(P.globals[g']?).map (·.type)=some t'∧W.var? P name=some cs∧DataW.trod (fun _=>()) P W 0 (fun _=>true) false fuel t' cs.toList=some (.agg (zs.map fun z=>.lit (.int .u32 z)),q)) (r:Nat) (hr:r<n):
  W.cell? ⟨g,r,none⟩=some (.int .u32 (zs.getD r 0)):=by
 obtain⟨g',t',cs,fuel,q,hg,htt,hv,hd⟩:=h;obtain rfl:=Option.some.inj (hname.symm.trans hg);obtain rfl:=Option.some.inj (hty.symm.trans htt);obtain⟨xs,m,_,ex,_,hl,hel⟩:=DataW.trod_array ht hd;have hE:=hel r hr;rw[hc,Nat.mul_one,List.getElem?_eq_getElem (by omega)] at hE
 obtain⟨z,e1,e2,_⟩:=DataW.trod_int he hE;have e3:(xs.map (·.1))=zs.map fun n=>.lit (.int .u32 n):=(DataW.agg.inj (Prod.mk.inj ex).1).symm
 have e4:(xs.map (·.1))[r]?=(zs.map fun n=>(DataW.lit (.int .u32 n):DataW Unit))[r]?:=by rw[e3]
 rw[List.getElem?_map,List.getElem?_map,List.getElem?_eq_getElem (by omega:r<xs.length),List.getElem?_eq_getElem (by omega:r<zs.length),e2] at e4
 have hz:z=zs.getD r 0:=by
  simp only[Option.map_some,Option.some.injEq,DataW.lit.injEq,Lit.int.injEq,true_and] at e4;rw[e4,List.getD,List.getElem?_eq_getElem (by omega:r<zs.length)];rfl
 rw[World.var?_cell hname hv r,←hz];have:cs.toList[r]?=some (.int .u32 z):=by
  have h0:((cs.toList.drop r).take 1)[0]?=some (.int .u32 z):=by rw[e1];rfl
  simpa using h0
 simpa using this
end Go.Eng
namespace Go.Eng
open Go.RowKit Go.WideShapes Go.ChangeShapes Go.ChangeAt Go.Deep
def jF7 (l:List Nat) (n:Nat) (hn:l.length=n) (hl:l.all (fun z=>decide (z<4294967296))=true) (r:Nat) (hr:r<n):Value.int .u32 ((l.map fun z:Nat=>(z:Int)).getD r 0)=u32 (UInt32.ofNat (l.getD r 0)):=by
 have h1:r<l.length:=by omega
 have h2:l[r]<4294967296:=by
  have:=List.all_eq_true.1 hl l[r] (List.getElem_mem h1);simpa using this
 simp only[List.getD,List.getElem?_map,List.getElem?_eq_getElem h1,Option.map_some,Option.getD_some];unfold u32;rw[UInt32.toNat_ofNat',Nat.mod_eq_of_lt (by simpa using h2)]
def qR2 {W:World} (h0:∀r,r<8→W.cell? ⟨1,r,none⟩=some (.int .u32 ((jC2.map fun z:Nat=>(z:Int)).getD r 0))) (h1:∀r,r<64→W.cell? ⟨2,r,none⟩=some (.int .u32 ((jCM.map fun z:Nat=>(z:Int)).getD r 0))):qCM qHU W:=fun b hb=>by
 rcases hb with rfl|rfl
 ·refine⟨⟨qFA (h0 0 (by omega)),fun o v ho=>?_,(fun h=>by cases h),qC8 rfl⟩,rfl⟩
  have ho':(qDs 8 fun k=>u32 (qQt k)).get o=some v:=ho
  rw[←qKG] at ho';by_cases hl:o<8
  ·rw[qAH hl] at ho'
   show W.cell? ⟨1,0+o,none⟩=some v;rw[Nat.zero_add,h0 o hl,←ho',jF7 jC2 8 rfl (by decide+kernel) o hl];rfl
  ·rw[qBf hl] at ho';cases ho'
 ·refine⟨⟨qFA (h1 0 (by omega)),fun o v ho=>?_,(fun h=>by cases h),qC8 rfl⟩,rfl⟩
  have ho':(qAd 64 fun k=>u32 (qHP k)).get o=some v:=ho
  by_cases hl:o<64
  ·rw[qAH hl] at ho'
   show W.cell? ⟨2,0+o,none⟩=some v;rw[Nat.zero_add,h1 o hl,←ho',jF7 jCM 64 rfl (by decide+kernel) o hl];rfl
  ·rw[qBf hl] at ho';cases ho'
end Go.Eng
namespace Go.Eng
def qOH {g:Nat→UInt8} {m:Nat} (hm:m<18446744073709551616):qC7 (wrH qKV g m) g m:=by
 have h:=(qSe g).write (g:=g) (m:=m) (by omega)
 rw[Nat.zero_add] at h;exact h.congr fun k _=>by unfold qAj;rw[if_neg (by omega),Nat.sub_zero]
end Go.Eng
end
section
namespace Go.Eng
def qBx (q:UInt64):Nat→UInt8:=fun k=>UInt8.ofNat (dig q.toNat (7-k))
def qLd (q:UInt64) {k:Nat} (hk:k<8):qA8 ⟨q,0,0,0⟩ (24+k)=qBx q k:=by
 have e:(⟨q,0,0,0⟩:N4).val=q.toNat:=by simp[N4.val]
 unfold qA8 qBx;rw[if_pos (by omega),e,show 31-(24+k)=7-k by omega]
def qSY {f f' g g':Nat→UInt8} {n m:Nat} (h1:∀k,k<n→f k=f' k) (h2:∀k,k<m→g k=g' k):∀k,k<n+m→qAj f n g k=qAj f' n g' k:=fun k hk=>by
 unfold qAj;by_cases h:k<n
 ·rw[if_pos h,if_pos h,h1 k h]
 ·rw[if_neg h,if_neg h,h2 (k-n) (by omega)]
def qSE {c:Nat} {g:Nat→UInt8} {w:World} (h:qAn ⟨c,false,0,qAd 32 fun k=>u8 (g k)⟩ w):qAn (qJz (qR5 c 24 8 8 g)) w:=by
 have h1:=qOq (k:=24) h (by decide)
 have e:(fun i=>u8 (g (i+24)))=fun i=>u8 (g (24+i)):=by funext i;rw[Nat.add_comm]
 have h2:qAn ⟨c,false,0+24,qAd (32-24) fun i=>u8 (g (24+i))⟩ w:=by rw[←e];exact h1
 exact h2
def jAT {n r:Nat} {f:Nat→Value} {z:Value}:∀j,j<n→(spr (n+r) n f z).get (0+j)=some (f j):=fun j hj=>by
 rw[Nat.zero_add,spr,qAH (by omega),if_pos hj]
def qB8 (l:List BytL) (b:Blk):Prop:=qHU b∨∃q∈l,qBi q b
def qNv {l:List BytL} (x:Blk) (h:qHU x):qB8 l x:=.inl h
def qQI {l:List BytL} {q:BytL} (hq:q∈l) (x:Blk) (h:qKp q x):qB8 l x:=Or.elim h .inl fun h=>.inr ⟨q,hq,h⟩
def qSF {F:Blk→Prop} (hT:∀x,qHU x→F x) {c:Nat} {g:Nat→UInt8}:∀w:World,qCM F w→(∀x∈[(⟨c,false,0,qAd 32 fun k=>u8 (g k)⟩:Blk)],qAn x w)→qCM (qKp (qR5 c 24 8 8 g)) w:=fun w hF hb=>
 qNf (fun x hx=>hF x (hT x hx)) fun x hx=>by
  obtain⟨_,rfl⟩:=hx;exact⟨qSE (hb _ (List.Mem.head _)),rfl⟩
def qR4 {F:Blk→Prop} (hT:∀x,qHU x→F x) {c:Nat} {g h:Nat→UInt8}:∀x,qKp (qR5 c 24 8 8 g) x→∀j,x.has j→(∃y,F y∧y.has j)∨∃b∈[(⟨c,false,0,qAd 32 fun k=>u8 (h k)⟩:Blk)],b.has j:=fun x hx j hj=>by
 rcases hx with hx|⟨_,rfl⟩
 ·exact .inl ⟨x,hT x hx,hj⟩
 ·exact .inr ⟨_,List.Mem.head _,hj⟩
def qPp {H:HS} {f:Nat→UInt8} {n:Nat} (q:UInt64) (h:qC7 H f n) (hn:n<1000000):qC7 (wrH H (fun k=>qA8 (N4.mk q 0 0 0) (24+k)) 8) (qAj f n (qBx q)) (n+8):=
 (h.write (g:=fun k=>qA8 (N4.mk q 0 0 0) (24+k)) (m:=8) (by omega)).congr (qSY (fun _ _=>rfl) (fun k hk=>qLd q hk))
def qPW {H:HS} {f g:Nat→UInt8} {n m:Nat} (q:UInt64) (h:qC7 H f n) (hn:n+m<999000):qC7 (wrH (wrH H (fun k=>qA8 (N4.mk q 0 0 0) (24+k)) 8) g m) (qAj (qAj f n (qBx q)) (n+8) g) (n+8+m):=
 (qPp q h (by omega)).write (by omega)
def qQy (q:UInt64):qC7 (wrH qKV (fun k=>qA8 (N4.mk q 0 0 0) (24+k)) 8) (qBx q) 8:=
 (qOH (by decide)).congr fun k hk=>qLd q hk
def qSm {g:Nat→UInt8} {m:Nat} (q:UInt64) (hm:m<999000):qC7 (wrH (wrH qKV (fun k=>qA8 (N4.mk q 0 0 0) (24+k)) 8) g m) (qAj (qBx q) 8 g) (8+m):=
 (qQy q).write (by omega)
def qO7 (q:UInt64) {j:Nat} (hj:j<8):(qAa q (8*j)).toUInt8=UInt8.ofNat (dig q.toNat j):=by
 have h:=qQU ⟨q,0,0,0⟩ j (by omega)
 have e:(⟨q,0,0,0⟩:N4).val=q.toNat:=by simp[N4.val]
 rw[e,show j/8=0 by omega,show j%8*8=8*j by omega] at h
 exact h
end Go.Eng
end
section
namespace Go.Eng
open Go.RowKit Go.WideShapes Go.ChangeShapes Go.ChangeAt Go.Deep
def qGQ (f:Nat→UInt8) (n:Nat):ByteArray:=⟨((List.range n).map f).toArray⟩
theorem qO5 (f:Nat→UInt8):∀(l:List Nat) (s:ByteArray),(l.map fun k=>((f k).toNat:Int)).foldl (fun r n=>r.push (UInt8.ofNat n.toNat)) s=⟨s.data++(l.map f).toArray⟩
 |[],s=>by simp
 |k::l,s=>by
  simp only[List.map_cons,List.foldl_cons];rw[qO5 f l];simp[ByteArray.push]
def qLD {P:Program} {src dst e:TypeId} (hs:P.underlying src=some (.slice e)) (he:P.underlying e=some (.int .u8)) (hd:P.underlying dst=some .string) (q:BytL) (hq:OkB q):
  qKg (qBi q) P (qTt src dst (qA3 q)) [] 0 (fun _=>.string (qGQ q.wf q.wn)) (fun _=>[]):=by
 intro w hall ha hF;refine⟨[],w,rfl,.inl ?_,qC4.refl (fun p b h=>by simp[lM] at h) ha⟩
 have key:(Conv.bytesToString (qA3 q)).run P w=.ok (.string (qGQ q.wf q.wn)) w:=by
  rcases Nat.eq_zero_or_pos q.wn with h0|h0
  ·unfold qA3
   rw[h0];cases q.wa with
   |none=>rfl
   |some a=>
    have:=run_bytesToString (P:=P) w a 0 q.wc [] (by
     have:=run_loadCells (P:=P) (w:=w) a 0 (fun _=>undef) (fun j hj=>by omega)
     simpa using this)
    rw[this];rfl
  ·have h1:=(hF (qJz q) ⟨h0,rfl⟩).1
   unfold qA3;rw[hq.ad h0];have h2:=run_loadCells (P:=P) (w:=w) ⟨q.wb,q.wo,none⟩ q.wn (fun k=>u8 (q.wf k)) (fun j hj=>by
    have:=h1.cell j (u8 (q.wf j)) (qAH hj);rw[qBu];exact this)
   have h3:=run_bytesToString (P:=P) w ⟨q.wb,q.wo,none⟩ q.wn q.wc ((List.range q.wn).map fun k=>((q.wf k).toNat:Int)) (by
    rw[h2];congr 2;rw[List.map_map];rfl)
   rw[h3];congr 2;rw[qO5];unfold qGQ;congr 1;exact Array.empty_append
 show((convert src dst (qA3 q)).bind fun v=>Sem.pure (Next.value v)).run P w=_
 have e1:=run_convert_bytes_string (P:=P) w src dst e q.wa q.wn q.wc hs he hd;show(convert src dst (qA3 q) >>= fun v=>Sem.pure (Next.value v)).run P w=_
 rw[Sem.run_bind,show(convert src dst (qA3 q)).run P w=_ from e1,show(Conv.bytesToString (.slice q.wa q.wn q.wc)).run P w=_ from key];rfl
def qKg.mono {F F':Blk→Prop} {P:Program} {s:Sem Next} {bs:List Blk} {k:Nat} {v:List Nat→Value} {out:List Nat→List (Option Blk)} (hs:∀b,F b→F' b) (h:qKg F P s bs k v out):qKg F' P s bs k v out:=
 fun w hb ha hF=>h w hb ha fun b hb'=>hF b (hs b hb')
def NmF (F F':Blk→Prop):Prop:=∀z,F z→∃y,F' y∧∀j,z.has j→y.has j
def qV0 {F F':Blk→Prop} (h:∀z,F z→F' z):NmF F F':=fun z hz=>⟨z,h z hz,fun _ h=>h⟩
def jDw {F G F':Blk→Prop} (h1:NmF F F') (h2:NmF G F'):NmF (fun b=>F b∨G b) F':=fun z hz=>hz.elim (h1 z) (h2 z)
def jCg (F F':Blk→Prop):Prop:=∀w:World,qCM F' w→qCM F w
def qUF {F F':Blk→Prop} (h:∀z,F z→F' z):jCg F F':=fun w hF z hz=>hF z (h z hz)
def jDC {F G F':Blk→Prop} (h1:jCg F F') (h2:jCg G F'):jCg (fun b=>F b∨G b) F':=fun w hF=>qNf (h1 w hF) (h2 w hF)
def qAc.pad1 {F:Blk→Prop} {P:Program} {f:FuncId} {args:List Value} {bs:List (Option Blk)} {v v2:List Nat→Value} {out out2:List Nat→List (Option Blk)} (h:qAc F P f args bs 1 v out) (hv:∀a,v2 [a,0]=v [a]) (ho:∀a,out2 [a,0]=out [a]):
  qAc F P f args bs 2 v2 out2:=fun w hm ha hF=>(h w hm ha hF).mono fun e w' ⟨ns,hns,he,hp⟩=>by
 match ns,hns with
 |[a],_=>exact⟨[a,0],rfl,by rw[hv];exact he,by rw[ho];exact hp⟩
def qAc.pad0 {F:Blk→Prop} {P:Program} {f:FuncId} {args:List Value} {bs:List (Option Blk)} {k:Nat} {v v2:List Nat→Value} {out out2:List Nat→List (Option Blk)} (h:qAc F P f args bs 0 v out) (ns0:List Nat) (hk:ns0.length=k) (hv:v2 ns0=v []) (ho:∀p b,lM (out2 ns0) p=some b→lM (out []) p=some b):
  qAc F P f args bs k v2 out2:=fun w hm ha hF=>(h w hm ha hF).mono fun e w' ⟨ns,hns,he,hp⟩=>by
 match ns,hns with
 |[],_=>exact⟨ns0,hk,by rw[hv];exact he,hp.sub ho⟩
def clG (q:BytL) (a r:Nat):Grw UInt8:=⟨q.wa.isNone,a,q.wn,r,q.wf⟩
def jDQ (q:BytL) (hq:OkB q) (a r:Nat):(clG q a r).ok:=fun h=>by
 have h1:q.wa.isNone=true:=h;show q.wn=0;rcases Nat.eq_zero_or_pos q.wn with h0|h0
 ·exact h0
 ·rw[hq.ad h0] at h1;cases h1
def jCb (s u:ByteArray):Bool:=s.toList==u.toList
def qUr {P:Program} {t t':TypeId} {x y:Operand} (s u:ByteArray):qB2 P (.binOp .eql t x y t') [.string s,.string u] (.bool (jCb s u)):=qAw rfl rfl
def qMs (f:Nat→UInt8) (n:Nat):(qGQ f n).toList=(List.range n).map f:=by
 rw[ByteArray.toList_eq];simp[qGQ]
def jAh (f g:Nat→UInt8) (n m:Nat):jCb (qGQ f n) (qGQ g m)=qDn f n g m:=by
 unfold jCb;rw[qMs,qMs,Bool.eq_iff_iff,beq_iff_eq];constructor
 ·intro h
  have hl:n=m:=by have:=congrArg List.length h;simpa using this
  subst hl;refine decide_eq_true ⟨rfl,fun k hk=>?_⟩
  have h1:=congrArg (fun l=>l[k]?) h
  simp only[List.getElem?_map,List.getElem?_range hk,Option.map_some] at h1;exact Option.some.inj h1
 ·intro h
  obtain⟨rfl,hk⟩:=of_decide_eq_true h;exact List.map_congr_left fun k hk'=>hk k (List.mem_range.1 hk')
def tzP:Nat→Nat→Nat
 |0,_=>0
 |k+1,n=>if n%2=0 then tzP k (n/2)+1 else 0
theorem qQT (y:Nat):∀(x fuel:Nat),x<fuel→tzP fuel (2^x*(2*y+1))=x
 |0,fuel+1,_=>by
  unfold tzP;rw[if_neg (by omega)]
 |x+1,fuel+1,h=>by
  have e:2^(x+1)*(2*y+1)=2*(2^x*(2*y+1)):=by rw[Nat.pow_succ,Nat.mul_comm (2^x) 2,Nat.mul_assoc]
  unfold tzP;rw[e,if_pos (by omega),Nat.mul_div_cancel_left _ (by omega),qQT y x fuel (by omega)]
def un1 (n:Nat):Nat:=tzP n n
def un2 (n:Nat):Nat:=n/2^un1 n/2
def qKv (x y:Nat):un1 (2^x*(2*y+1))=x:=by
 refine qQT y x _ ?_;have h1:=Nat.lt_two_pow_self (n:=x);have h2:2^x*1≤2^x*(2*y+1):=Nat.mul_le_mul_left _ (by omega)
 omega
def qNc (x y:Nat):un2 (2^x*(2*y+1))=y:=by
 unfold un2;rw[qKv,Nat.mul_div_cancel_left _ (Nat.two_pow_pos x)];omega
def qC5:Nat→Nat→Nat
 |c,0=>un1 c
 |c,i+1=>qC5 (un2 c) i
def jCP:Nat→(Nat→Nat)→Nat
 |0,_=>0
 |n+1,f=>2^f 0*(2*jCP n (fun i=>f (i+1))+1)
theorem qJf:∀(n:Nat) (f:Nat→Nat) (i:Nat),i<n→qC5 (jCP n f) i=f i
 |n+1,f,0,_=>qKv _ _
 |n+1,f,i+1,h=>by
  show qC5 (un2 (2^f 0*(2*jCP n (fun i=>f (i+1))+1))) i=_
  rw[qNc,qJf n _ i (by omega)]
def qAK (c k x:Nat):Nat:=jCP (k+1) fun i=>if i<k then qC5 c i else x
def qCu {c k x i:Nat} (h:i<k):qC5 (qAK c k x) i=qC5 c i:=by
 unfold qAK;rw[qJf _ _ _ (by omega),if_pos h]
def qCt (c k x:Nat):qC5 (qAK c k x) k=x:=by
 unfold qAK;rw[qJf _ _ _ (by omega),if_neg (by omega)]
def qBN (q:BytL):List Value:=[qA3 q]
def qP2 (q:BytL):(qBN q).length=1∧(qBN q).all Value.oneCell'=true:=⟨rfl,rfl⟩
section
variable {L:Nat→Nat} {f:Nat→Nat→UInt8}
def elF (c d:Nat) (L:Nat→Nat) (f:Nat→Nat→UInt8) (k:Nat):BytL:=qBO (qC5 c k) (L k) (L k+qC5 d k) (f k)
def qZa (n r:Nat) (g:Nat→UInt8):qBc:=.row (n+r) 1 fun k=>[if k<n then u8 (g k) else u8 0]
def plG (c d:Nat) (L:Nat→Nat) (f:Nat→Nat→UInt8) (k:Nat):Option (Nat×qBc):=some (qC5 c k,qZa (L k) (qC5 d k) (f k))
def plO (n c d:Nat) (L:Nat→Nat) (f:Nat→Nat→UInt8):Option Blk:=match n with
 |0=>none
 |m+1=>some ⟨qC5 c m,true,0,.pile (m+1) (plG c d L f)⟩
theorem qKE (n c d:Nat):plO (n+1) c d L f=some ⟨qC5 c n,true,0,.pile (n+1) (plG c d L f)⟩:=rfl
theorem qPd {k c d n1 n2:Nat} {x:BytL} (hL:x.wn=L k) (hf:x.wf=f k):
  qK2 (plO k c d L f) ⟨n1,true,0,spr (x.wn+n2) x.wn (fun j=>u8 (x.wf j)) (u8 0)⟩ (k+1) (plG (qAK c k n1) (qAK d k n2) L f):=by
 refine⟨k,fun i j pc hi hg=>?_⟩
 injection hg with hg;injection hg with h1 h2;by_cases hik:i<k
 ·left
  cases k with
  |zero=>omega
  |succ m=>
   refine⟨_,_,_,qKE m c d,rfl,rfl,hik,?_⟩;rw[←h1,←h2,qCu hik,qCu hik];rfl
 ·right
  have:i=k:=by omega
  subst this;refine⟨rfl,by rw[←h1,qCt],.inl ?_⟩
  rw[←h2,qCt,hL,hf];rfl
theorem qNu {α:Type} {C:α→List Value} {zc:List Value} {sz:Nat} {A:Grw α} {S:Nat} {F:Nat→α} (h1:A.n=S) (h2:A.z=decide (S=0)) (h3:∀j,j<S→C (A.f j)=C (F j)):
  gsV A=gsV (qAp S F A.nm A.r)∧gsE C zc sz A=gsE C zc sz (qAp S F A.nm A.r):=by
 subst h1;refine⟨?_,?_⟩
 ·unfold gsV gsA gsC qAp
  simp only[h2]
 ·unfold gsE qAp
  rw[h2];cases hd:decide (A.n=0) with
  |true=>rfl
  |false=>
   simp only;congr 2;unfold qGn;congr 1;funext k;by_cases h:k<A.n
   ·rw[if_pos h,if_pos h];exact h3 k h
   ·rw[if_neg h,if_neg h]
def qOf:Value→BytL
 |.slice a n c=>⟨a,n,c,0,0,fun _=>0⟩
 | _=>qAf none 0
theorem qIT {k c d n1 n2:Nat} {x:BytL} (hL:x.wn=L k) (hf:x.wf=f k) {A:Grw BytL} (hz:A.z=false) (hn:A.n=k+1) (hA:A.f=qAj (elF c d L f) k fun _ =>qOf (.slice (some ⟨n1,0,none⟩) x.wn (x.wn+n2))):
  gsV A=gsV (qAp (k+1) (elF (qAK c k n1) (qAK d k n2) L f) A.nm A.r)∧gsE qBN [Value.slice none 0 0] 1 A=gsE qBN [Value.slice none 0 0] 1 (qAp (k+1) (elF (qAK c k n1) (qAK d k n2) L f) A.nm A.r):=
 qNu hn (by rw[hz,decide_eq_false (by omega)]) fun j hj=>by
  rw[hA];unfold qAj;by_cases h:j<k
  ·rw[if_pos h];unfold elF;rw[qCu h,qCu h]
  ·have:j=k:=by omega
   subst this;rw[if_neg h];unfold elF;rw[qCt,qCt,←hL];rfl
end
end Go.Eng
end
section
namespace Go.Eng
def qZi:Nat→Nat→Nat→Nat
 |0,c,x=>2^x*(2*un2 c+1)
 |i+1,c,x=>2^un1 c*(2*qZi i (un2 c) x+1)
theorem qOT:∀(i c x k:Nat),qC5 (qZi i c x) k=if k=i then x else qC5 c k
 |0,c,x,0=>by show un1 _=_;unfold qZi;rw[qKv];rfl
 |0,c,x,k+1=>by show qC5 (un2 _) k=_;unfold qZi;rw[qNc,if_neg (by omega)];rfl
 |i+1,c,x,0=>by show un1 _=_;unfold qZi;rw[qKv,if_neg (by omega)];rfl
 |i+1,c,x,k+1=>by
  show qC5 (un2 (qZi (i+1) c x)) k=_;unfold qZi;rw[qNc,qOT i (un2 c) x k];by_cases h:k=i
  ·rw[if_pos h,if_pos (by omega)]
  ·rw[if_neg h,if_neg (by omega)];rfl
def cdU (c k:Nat):UInt64:=UInt64.ofNat (qC5 c k)
def qBC (c i:Nat) (x:UInt64):Nat:=qZi i c x.toNat
def enU (n:Nat) (g:Nat→UInt64):Nat:=jCP n fun k=>(g k).toNat
def qDe (c i:Nat) (x:UInt64) (k:Nat):upd (cdU c) i x k=cdU (qBC c i x) k:=by
 unfold upd cdU qBC;rw[qOT];by_cases h:k=i
 ·rw[if_pos h,if_pos h,UInt64.ofNat_toNat]
 ·rw[if_neg h,if_neg h]
def qQ8 {n k:Nat} {g:Nat→UInt64} (h:k<n):cdU (enU n g) k=g k:=by
 unfold cdU enU;rw[qJf n _ k h,UInt64.ofNat_toNat]
def pkN (g x y:Nat):Nat:=if g=0 then x else y
def qMw (g:Nat):pkN g 0 1≤1:=by unfold pkN;split<;>omega
def qGt {p:Nat→Prop} (g:Nat) {x y:Nat} (hx:p x) (hy:p y):p (pkN g x y):=by unfold pkN;split<;>assumption
def bG (g:Nat):Bool:=decide (g≠0)
def qOY {a z r:Nat} (h1:a≤r) (h2:r<z):a+(r-a)%(z-a)=r:=by
 rw[Nat.mod_eq_of_lt (by omega)];omega
def qOu {a z:Nat} (g:Nat) (h:a<z):a≤a+g%(z-a)∧a+g%(z-a)<z:=by
 have:=Nat.mod_lt g (show 0<z-a by omega);omega
def qMY {P:Program} {x:Operand} (n:Nat):qB2 P (.assign x) [nat n] (int ((((n+1):Nat):Int)-((1:Nat):Int))):=by
 intro ρ o ho hv;rw[ho] at hv;simp only[Op.operands,List.map_cons,List.map_nil,List.cons.injEq,and_true] at hv;unfold execOp;rw[ho];show some (Next.value (ρ x))=_;rw[hv,show(((n+1:Nat):Int)-((1:Nat):Int))=(n:Int) by omega];rfl
end Go.Eng
end
section
namespace Go.Eng
open Go.RowKit Go.WideShapes Go.ChangeShapes Go.ChangeAt Go.Deep
def qRk {n r:Nat} {f:Nat→Value} {z:Value}:∀j,j<n→(spr (n+r) n f z).get (0+j)=some (f j):=fun j hj=>by
 rw[Nat.zero_add,spr,qAH (by omega),if_pos hj]
def qSM (a b:qA6) (z:Blk):Prop:=qEd a z∨qEd b z
def jFn {a b:qA6} {i j:Nat} (hi:i<a.wn) (hj:j<b.wn):∀z,qGv (a.wf i) (b.wf j) z→qSM a b z:=fun z hz=>hz.elim (fun h=>.inl (.inr ⟨i,hi,h⟩)) (fun h=>.inr (.inr ⟨j,hj,h⟩))
def elS (a b:qA6) (i:Nat):Bool:=qDn (a.wf i).wf (a.wf i).wn (b.wf i).wf (b.wf i).wn
def qFW (a b:qA6):Bool:=decide (a.wn=b.wn∧∀i,i<a.wn→elS a b i=true)
def qOc {a b:qA6} (h:a.wn≠b.wn):false=qFW a b:=(decide_eq_false fun e=>h e.1).symm
def qOj {a b:qA6} {i:Nat} (hi:i<a.wn) (h:(!elS a b i)=true):false=qFW a b:=(decide_eq_false fun e=>by have:=e.2 i hi;rw[this] at h;cases h).symm
def qUR {a b:qA6} {i:Nat} (hn:a.wn=b.wn) (hi:i=a.wn) (h:∀k,k<i→elS a b k=true):true=qFW a b:=(decide_eq_true ⟨hn,fun k hk=>h k (by omega)⟩).symm
def qR3 {a b:qA6} {i:Nat} (h:∀k,k<i→elS a b k=true) (he:(!elS a b i)=false):∀k,k<i+1→elS a b k=true:=fun k hk=>by
 by_cases hki:k<i
 ·exact h k hki
 ·have:k=i:=by omega
  subst this;simpa using he
end Go.Eng
end
section
namespace Go.Eng
def qMt (p:Nat→Bool) (n:Nat):Bool:=(List.range n).any p
def qQe (p:Nat→Bool) (n:Nat):Int:=match(List.range n).find? p with
 |some k=>(k:Int)
 |none=>-1
def qFZ {p:Nat→Bool} {n:Nat}:qMt p n=true↔∃k,k<n∧p k=true:=by
 unfold qMt;rw[List.any_eq_true];exact⟨fun⟨k,h1,h2⟩=>⟨k,List.mem_range.1 h1,h2⟩,fun⟨k,h1,h2⟩=>⟨k,List.mem_range.2 h1,h2⟩⟩
def qFP {p:Nat→Bool} {n:Nat} (h:∀k,k<n→p k=false):qMt p n=false:=by
 cases e:qMt p n with
 |false=>rfl
 |true=>obtain⟨k,h1,h2⟩:=qFZ.1 e;rw[h k h1] at h2;cases h2
def qW0 {p:Nat→Bool} {n:Nat} (h:qMt p n=false):∀k,k<n→p k=false:=fun k hk=>by
 cases e:p k with
 |false=>rfl
 |true=>rw[qFZ.2 ⟨k,hk,e⟩] at h;cases h
def qHr {p q:Nat→Bool} {n:Nat} (h:∀k,k<n→p k=q k):qMt p n=qMt q n:=by
 rw[Bool.eq_iff_iff,qFZ,qFZ];exact⟨fun⟨k,h1,h2⟩=>⟨k,h1,by rw[←h k h1];exact h2⟩,fun⟨k,h1,h2⟩=>⟨k,h1,by rw[h k h1];exact h2⟩⟩
def qMH {p:Nat→Bool} {n k:Nat} (hk:k<n) (h:p k=true) (hj:∀j,j<k→p j=false):(List.range n).find? p=some k:=by
 rw[List.find?_eq_some_iff_append];refine⟨h,List.range k,(List.range' (k+1) (n-(k+1))),?_,fun a ha=>by rw[hj a (List.mem_range.1 ha)];rfl⟩
 rw[List.range_eq_range',List.range_eq_range',show k::List.range' (k+1) (n-(k+1))=List.range' k (n-k) from by rw[show n-k=(n-(k+1))+1 by omega,List.range'_succ]]
 have h2:=List.range'_append (s:=0) (m:=k) (n:=n-k) (step:=1);simp only[Nat.zero_add,Nat.one_mul] at h2;rw[h2,show k+(n-k)=n by omega]
def qN8 {p:Nat→Bool} {n k:Nat} (hk:k<n) (h:p k=true) (hj:∀j,j<k→p j=false):qQe p n=(k:Int):=by
 unfold qQe;rw[qMH hk h hj]
def qOm {p:Nat→Bool} {n:Nat} (h:∀k,k<n→p k=false):qQe p n=-1:=by
 unfold qQe;rw[List.find?_eq_none.2 fun k hk=>by rw[h k (List.mem_range.1 hk)];simp]
def qYn (p:Nat→Bool) (n:Nat):(∀k,k<n→p k=false)∨∃k,k<n∧p k=true∧∀j,j<k→p j=false:=by
 cases e:(List.range n).find? p with
 |none=>exact .inl fun k hk=>by simpa using List.find?_eq_none.1 e k (List.mem_range.2 hk)
 |some k=>
  by_cases h:∃k,k<n∧p k=true
  ·right
   obtain⟨k,hk,hp⟩:=h;induction k using Nat.strongRecOn with
   | _ k ih=>
    by_cases h2:∃j,j<k∧p j=true
    ·obtain⟨j,hj,hpj⟩:=h2;exact ih j hj (by omega) hpj
    ·exact⟨k,hk,hp,fun j hj=>by cases e:p j with
      |false=>rfl
      |true=>exact absurd ⟨j,hj,e⟩ h2⟩
  ·exact .inl fun k hk=>by cases e:p k with
    |false=>rfl
    |true=>exact absurd ⟨k,hk,e⟩ h
def qZ4 (p:Nat→Bool) (n:Nat):decide (qQe p n≥0)=qMt p n:=by
 rcases qYn p n with h|⟨k,h1,h2,h3⟩
 ·rw[qOm h,qFP h];rfl
 ·rw[qN8 h1 h2 h3,qFZ.2 ⟨k,h1,h2⟩];exact decide_eq_true (by omega)
def elE (e:Nat→BytL) (x:BytL) (k:Nat):Bool:=qDn (e k).wf (e k).wn x.wf x.wn
def inB (e:Nat→BytL) (n:Nat) (x:BytL):Bool:=qMt (elE e x) n
def twB (e:Nat→BytL) (n:Nat):Bool:=qMt (fun i=>inB e i (e i)) n
def szB (n:Nat):Bool:=decide (1≤n)&&decide (n≤1000)
def qJF (l:qA6) (y:BytL) (z:Blk):Prop:=qEd l z∨qBi y z
def jD3 {l:qA6} {y:BytL} {i:Nat} (hi:i<l.wn):∀z,qGv (l.wf i) y z→qJF l y z:=fun z hz=>hz.elim (fun h=>.inl (.inr ⟨i,hi,h⟩)) .inr
def jCc {l:qA6} {i:Nat} (hi:i<l.wn):∀z,qBi (l.wf i) z→qEd l z:=fun z hz=>.inr ⟨i,hi,hz⟩
def qTK {p:Nat→Bool} {n k:Nat} (hk:k<n) (h:p k=true) (hj:∀j,j<k→p j=false):nat k=int (qQe p n):=by rw[qN8 hk h hj];rfl
def qTW {p:Nat→Bool} {n k:Nat} (hk:k=n) (hj:∀j,j<k→p j=false):int (-1)=int (qQe p n):=by subst hk;rw[qOm hj]
def qKu {p:Nat→Bool} {i:Nat} (h:∀k,k<i→p k=false) (he:p i=false):∀k,k<i+1→p k=false:=fun k hk=>by
 by_cases e:k=i
 ·rw[e];exact he
 ·exact h k (by omega)
def qJm {p:Nat→Bool} {n k:Nat} (hk:k<n) (h:p k=true):true=qMt p n:=(qFZ.2 ⟨k,hk,h⟩).symm
def qMT {p:Nat→Bool} {n k:Nat} (hk:k=n) (hj:∀j,j<k→p j=false):false=qMt p n:=by subst hk;exact(qFP hj).symm
end Go.Eng
end
section
namespace Go.Eng
open Go.RowKit Go.WideShapes Go.ChangeShapes Go.ChangeAt Go.Deep
def qC9 {bs l:List (Option Blk)} {p:Nat} {b:Blk} (h:lM (bs.map (fun _=>(none:Option Blk))++l) p=some b):∃p',p=bs.length+p'∧lM l p'=some b:=by
 rcases qDG h with⟨h1,h2⟩|⟨h1,h2⟩
 ·exfalso
  unfold lM at h2;rw[List.getElem?_map] at h2;cases h3:bs[p]?<;>rw[h3] at h2<;>cases h2
 ·rw[List.length_map] at h1 h2
  exact⟨p-bs.length,by omega,h2⟩
def qAc.lendL {F G:Blk→Prop} {P:Program} {f:FuncId} {args:List Value} {bs:List (Option Blk)} {k:Nat} {v:List Nat→Value} {out:List Nat→List (Option Blk)} (h:qAc G P f args [] k v out)
  (hG:∀w:World,qCM F w→(∀p b,lM bs p=some b→qAn b w)→qCM G w):qAc F P f args bs k v (fun ns=>bs.map (fun _=>none)++out ns):=by
 intro w hm ha hF;have hno:∀k,¬qDr (lM ([]:List (Option Blk))) k:=fun k ⟨p,b,h1,_⟩=>by simp[lM] at h1
 have hw:=hG w (fun b hb=>⟨(hF b hb).1,(hF b hb).2.1⟩) hm
 refine Calls.mono (h w (fun p b hb=>by simp[lM] at hb) (fun p q b c _ hb=>by simp[lM] at hb) fun b hb=>⟨(hw b hb).1,(hw b hb).2,fun k _=>hno k⟩) ?_
 rintro e w' ⟨ns,hns,he,hp⟩
 refine⟨ns,hns,he,⟨fun p b hpb=>?_,fun p q b c hpq hpb hqc ho=>?_,⟨hp.adv.os,hp.adv.output,hp.adv.tape,hp.adv.size,fun k hk _=>hp.adv.heap k hk (hno k),fun k ⟨p,b,h1,h2,h3⟩=>?_,fun p b hpb ho=>?_⟩⟩⟩
 ·obtain⟨p',_,h2⟩:=qC9 hpb
  exact hp.holds p' b h2
 ·obtain⟨p',h1,h2⟩:=qC9 hpb
  obtain⟨q',h3,h4⟩:=qC9 hqc;exact hp.apart p' q' b c (by omega) h2 h4 ho
 ·obtain⟨p',_,h4⟩:=qC9 h1
  rcases hp.adv.names k ⟨p',b,h4,h2,h3⟩ with h5|h5
  ·exact absurd h5 (hno k)
  ·exact .inr h5
 ·obtain⟨p',_,h4⟩:=qC9 hpb
  have:=hp.adv.ro p' b h4 ho;simp[lM] at this
section
variable {D:Grw UInt8}
def qSU (D:Grw UInt8):BytL:=⟨gsA D,D.n,gsC D,D.nm,0,D.f⟩
theorem jDH:qA3 (qSU D)=gsV D:=rfl
theorem qQi (h:D.ok) (hl:D.n≤9223372036854775807):OkB (qSU D):=⟨qZI h,fun h0=>qIt (h.pos h0),hl⟩
theorem qQ4 (h:D.ok) {F:Blk→Prop} {w:World} (hb:∀b,roO (gsE u8C [u8 0] 1 D)=some b→qAn b w):qCM (qBi (qSU D)) w:=fun b hb'=>by
 obtain⟨h0,rfl⟩:=hb';have hz:=h.pos h0;have h1:=hb ⟨D.nm,false,0,spr (D.n+D.r) D.n (fun k=>u8 (D.f k)) (u8 0)⟩ (by rw[qMu,qM6 hz];rfl)
 exact⟨qBw h1,rfl⟩
end
def qTa (A:Grw BytL):qA6:=⟨gsA A,A.n,gsC A,A.nm,0,A.f⟩
def qP7 {A:Grw BytL} (h:A.ok) (hl:A.n≤9223372036854775807) (he:∀k,k<A.n→OkB (A.f k)):OkS (qTa A):=⟨qZI h,fun h0=>qIt (h.pos h0),hl,he⟩
def qWe {A:Grw BytL} (h:A.ok) {w:World} (hb:∀b,roO (gsE qBN [Value.slice none 0 0] 1 A)=some b→qAn b w) (h0:0<A.n):qAn (qJj (qTa A)) w:=by
 have hz:=h.pos h0;have h1:=hb ⟨A.nm,false,0,qGn 1 (A.n+A.r) A.n (fun k=>qBN (A.f k)) [Value.slice none 0 0]⟩ (by rw[qDy hz];rfl)
 refine h1.recont (c:=qAd A.n fun k=>qA3 (A.f k)) rfl fun o v hv=>?_
 by_cases ho:o<A.n
 ·rw[qAH ho] at hv
  show(qAL.tab (A.n+A.r) 1 fun k=>if k<A.n then qBN (A.f k) else[Value.slice none 0 0]).get o=some v
  rw[qAL.get_tab (by omega),Nat.div_one,Nat.mod_one,if_pos ho]
  exact hv
 ·rw[qBf ho] at hv;cases hv
def qNi {A:Grw BytL} (h:A.ok) {w:World} (hb:∀b,roO (gsE qBN [Value.slice none 0 0] 1 A)=some b→qAn b w) (he:∀k,k<A.n→qCM (qBi (A.f k)) w):qCM (qEd (qTa A)) w:=fun b hb'=>by
 rcases hb' with⟨h0,rfl⟩|⟨k,hk,h2⟩
 ·exact⟨qWe h hb h0,rfl⟩
 ·exact he k hk b h2
def qQf {n c d:Nat} {L:Nat→Nat} {f:Nat→Nat→UInt8} {w:World} (hb:∀b,roO (plO n c d L f)=some b→qAn b w):∀k,k<n→qCM (qBi (elF c d L f k)) w:=fun k hk b hb'=>by
 obtain⟨h0,rfl⟩:=hb';cases n with
 |zero=>omega
 |succ m=>
  have h1:=(hb _ (by rw[qKE];rfl)).obj
  have h2:qEG (qC5 c k) false (qZa (L k) (qC5 d k) (f k)) w:=h1.1 k _ _ hk rfl;have h3:qAn ⟨qC5 c k,false,0,spr (L k+qC5 d k) (L k) (fun j=>u8 (f k j)) (u8 0)⟩ w:=⟨h2.lt,h2.cell,(fun h=>by cases h),trivial⟩
  exact⟨qBw h3,rfl⟩
def qYO {c d:Nat} {L:Nat→Nat} {f:Nat→Nat→UInt8} {k:Nat} (h:L k≤9223372036854775807):OkB (elF c d L f k):=qFo (by omega) h
def qSa {a b:qA6} (hn:a.wn=b.wn) (h:∀k,k<a.wn→(a.wf k).wn=(b.wf k).wn∧∀i,i<(a.wf k).wn→(a.wf k).wf i=(b.wf k).wf i):qFW a b=true:=decide_eq_true ⟨hn,fun k hk=>decide_eq_true ⟨(h k hk).1,(h k hk).2⟩⟩
def qVE {nm n c:Nat} {l:List Value} {f:Nat→BytL} {w:World} (hl:l=(List.range n).map fun k=>qA3 (f k)) (hb:qAn ⟨nm,false,0,.lit l⟩ w) (he:∀k,k<n→qCM (qBi (f k)) w):qCM (qEd (qZu nm n c f)) w:=fun x hx=>by
 rcases hx with⟨h0,rfl⟩|⟨k,hk,hx⟩
 ·subst hl
  refine⟨hb.recont rfl fun j v hj=>?_,rfl⟩
  have hj':(qAd n fun k=>qA3 (f k)).get j=some v:=hj
  show((List.range n).map fun k=>qA3 (f k))[j]?=some v
  by_cases hl:j<n
  ·rw[qAH hl] at hj'
   rw[qHY qA3 f n j hl];exact hj'
  ·rw[qBf hl] at hj';cases hj'
 ·exact he k hk x hx
end Go.Eng
end
section
namespace Go.Eng
open Go.RowKit
def qTr {f g:Nat→UInt8} {n m:Nat} (hn:n=m) (hf:f=g):qDn f n g m=true:=by
 subst hn hf;exact decide_eq_true ⟨rfl,fun k hk=>rfl⟩
def jBo (x:qA6) (k:Nat):qA6:=⟨x.wa,k,x.wc,x.wb,x.wo,x.wf⟩
def qYJ {x:qA6} {k:Nat} (h:OkS x) (hk:k≤x.wn):OkS (jBo x k):=⟨Nat.le_trans hk h.cap,fun h0=>h.ad (Nat.lt_of_lt_of_le h0 hk),Nat.le_trans hk h.len,fun j hj=>h.el j (Nat.lt_of_lt_of_le hj hk)⟩
end Go.Eng
end
section
namespace Go.Eng
def jGj (q:qA6):Value:=.slice q.wa q.wn q.wc
def qZN {l:qA6} {k:Nat} (hk:k≤l.wn):jCg (qEd (jBo l k)) (qEd l):=fun w hF z hz=>by
 rcases hz with⟨h0,rfl⟩|⟨i,hi,h⟩
 ·have h1:0<k:=h0
  obtain⟨h2,_⟩:=hF (qJj l) (.inl ⟨by omega,rfl⟩)
  refine⟨h2.recont (c:=qAd k fun k=>qA3 (l.wf k)) rfl fun o v hv=>?_,rfl⟩
  by_cases ho:o<k
  ·rw[qAH ho] at hv
   show(qAd l.wn fun k=>qA3 (l.wf k)).get o=some v
   rw[qAH (by omega)];exact hv
  ·rw[qBf (by omega)] at hv;cases hv
 ·exact hF z (.inr ⟨i,Nat.lt_of_lt_of_le hi hk,h⟩)
def qZG {l:qA6} {k:Nat} (hk:k≤l.wn):NmF (qEd (jBo l k)) (qEd l):=fun z hz=>by
 rcases hz with⟨h0,rfl⟩|⟨i,hi,h⟩
 ·have h1:0<k:=h0
  exact⟨qJj l,.inl ⟨by omega,rfl⟩,fun j hj=>hj⟩
 ·exact⟨z,.inr ⟨i,Nat.lt_of_lt_of_le hi hk,h⟩,fun j hj=>hj⟩
def jEm {l:qA6} {i:Nat} (hi:i<l.wn):jCg (qJF (jBo l i) (l.wf i)) (qEd l):=jDC (qZN (by omega)) (qUF (jCc hi))
def jCX {l:qA6} {i:Nat} (hi:i<l.wn):NmF (qJF (jBo l i) (l.wf i)) (qEd l):=jDw (qZG (by omega)) (qV0 (jCc hi))
def qV1 {n:Nat}:szB n=true↔1≤n∧n≤1000:=by unfold szB;rw[Bool.and_eq_true,decide_eq_true_iff,decide_eq_true_iff]
def unB (e:Nat→BytL) (k:Nat):Bool:=!szB (e k).wn
def pkL (h:UInt64) (n:Nat) (e:Nat→BytL):Nat→Nat
 |0=>smN h+smN (UInt64.ofNat n)
 |k+1=>pkL h n e k+byN (e k).wn
def pkF (h:UInt64) (n:Nat) (e:Nat→BytL):Nat→Nat→UInt8
 |0=>qAj (smB h) (smN h) (smB (UInt64.ofNat n))
 |k+1=>qAj (pkF h n e k) (pkL h n e k) (byB (e k).wf (e k).wn)
def pkG (h:UInt64) (n:Nat) (e:Nat→BytL) (k a r:Nat):Grw UInt8:=qAp (pkL h n e k) (pkF h n e k) a r
section
variable {h:UInt64} {n:Nat} {e:Nat→BytL} {k a r a' r':Nat}
theorem qUv:2≤pkL h n e k:=by
 induction k with
 |zero=>have h1:=qGs h;have h2:=qGs (UInt64.ofNat n);show 2≤smN h+smN _;omega
 |succ k ih=>show 2≤pkL h n e k+_;omega
theorem qYS (hs:∀i,i<k→(e i).wn≤1000):pkL h n e k≤18+1009*k:=by
 induction k with
 |zero=>have h1:=qGs h;have h2:=qGs (UInt64.ofNat n);show smN h+smN _≤_;omega
 |succ k ih=>
  have h1:=ih fun i hi=>hs i (by omega)
  have h2:=qVX (e k).wn;have h3:=hs k (by omega)
  show pkL h n e k+byN (e k).wn≤_;omega
end
def qM3 {l:qA6} (h:(qA0 (decide (10<l.wn)) true (qMt (unB l.wf) l.wn))=false):l.wn≤10∧∀i,i<l.wn→1≤(l.wf i).wn∧(l.wf i).wn≤1000:=by
 rw[qCL,Bool.or_eq_false_iff,decide_eq_false_iff_not] at h;refine⟨by omega,fun i hi=>?_⟩
 have h2:=qW0 h.2 i hi;unfold unB at h2;exact qV1.1 (by simpa using h2)
def qKn (l:qA6):Int:=if(qA0 (decide (10<l.wn)) true (qMt (unB l.wf) l.wn))=true then 2 else if twB l.wf l.wn=true then 13 else 0
def qUN (h:UInt64) (l:qA6) (a r:Nat):Grw UInt8:=if qKn l=0 then pkG h l.wn l.wf l.wn a r else⟨true,0,0,0,fun _=>0⟩
def jFJ {l:qA6} (h:(qA0 (decide (10<l.wn)) true (qMt (unB l.wf) l.wn))=true):qKn l=2:=by unfold qKn;rw[if_pos h]
def jFR {l:qA6} (h:(qA0 (decide (10<l.wn)) true (qMt (unB l.wf) l.wn))=false) (h2:twB l.wf l.wn=true):qKn l=13:=by unfold qKn;rw[if_neg (by rw[h];simp),if_pos h2]
def jDB {l:qA6} (h:(qA0 (decide (10<l.wn)) true (qMt (unB l.wf) l.wn))=false) (h2:twB l.wf l.wn=false):qKn l=0:=by unfold qKn;rw[if_neg (by rw[h];simp),if_neg (by rw[h2];simp)]
def qU5 {l:qA6} (h:qKn l≠0) (x:UInt64) (a r:Nat):qUN x l a r=⟨true,0,0,0,fun _=>0⟩:=by unfold qUN;rw[if_neg h]
def qNq {l:qA6} (h:qKn l=0) (x:UInt64) (a r:Nat):qUN x l a r=pkG x l.wn l.wf l.wn a r:=by unfold qUN;rw[if_pos h]
def usS (Q:BytL) (E:Int):Nat→BytL×Int
 |0=>(Q,E)
 |k+1=>(rbQ (usS Q E k).1 (usS Q E k).2 1000,rbE (usS Q E k).1 (usS Q E k).2 1000)
def usN (Q:BytL) (E:Int) (k:Nat):Nat:=rbN (usS Q E k).1 (usS Q E k).2 1000
def usW (Q:BytL) (E:Int) (k:Nat):Nat→UInt8:=(ctQ (usS Q E k).1 (usS Q E k).2 1000).wf
def usV (Q:BytL) (E:Int) (c d k:Nat):BytL:=rbV (usS Q E k).1 (usS Q E k).2 1000 (qC5 c k) (qC5 d k)
def gU (Q:BytL) (E:Int) (c d k:Nat):Nat→Option (Nat×qBc):=fun i=>if i<k∧0<usN Q E i then some (qC5 c i,qZa (usN Q E i) (qC5 d i) (usW Q E i)) else none
def lastU (Q:BytL) (E:Int):Nat→Option Nat
 |0=>none
 |k+1=>if 0<usN Q E k then some k else lastU Q E k
def plU (Q:BytL) (E:Int) (c d k:Nat):Option Blk:=match lastU Q E k with
 |none=>none
 |some m=>some ⟨qC5 c m,true,0,.pile 10 (gU Q E c d k)⟩
section
variable {Q:BytL} {E:Int} {c d k n1 n2:Nat}
theorem qQB:∀{k m:Nat},lastU Q E k=some m→m<k∧0<usN Q E m
 |0,m,h=>by cases h
 |k+1,m,h=>by
  unfold lastU at h;split at h
  ·rename_i h0
   injection h with h;subst h;exact⟨Nat.lt_succ_self _,h0⟩
  ·obtain⟨h1,h2⟩:=qQB (k:=k) h
   exact⟨by omega,h2⟩
theorem qJw:∀{k i:Nat},i<k→0<usN Q E i→∃m,lastU Q E k=some m
 |0,i,h,_=>absurd h (Nat.not_lt_zero i)
 |k+1,i,h,h0=>by
  unfold lastU;split
  ·exact⟨k,rfl⟩
  ·rename_i hk
   by_cases e:i=k
   ·subst e;exact absurd h0 hk
   ·exact qJw (k:=k) (by omega) h0
theorem qZH (h0:0<usN Q E k):plU Q E (qAK c k n1) (qAK d k n2) (k+1)=some ⟨n1,true,0,.pile 10 (gU Q E (qAK c k n1) (qAK d k n2) (k+1))⟩:=by
 unfold plU;rw[show lastU Q E (k+1)=some k from if_pos h0];show some (⟨qC5 (qAK c k n1) k,true,0,_⟩:Blk)=_;rw[qCt]
theorem qZm {i:Nat} (hi:i<k):gU Q E (qAK c k n1) (qAK d k n2) (k+1) i=gU Q E c d k i:=by
 unfold gU;rw[qCu hi,qCu hi];by_cases h:0<usN Q E i
 ·rw[if_pos ⟨by omega,h⟩,if_pos ⟨hi,h⟩]
 ·rw[if_neg (fun e=>h e.2),if_neg (fun e=>h e.2)]
theorem jEn (h0:¬0<usN Q E k):plU Q E (qAK c k n1) (qAK d k n2) (k+1)=plU Q E c d k:=by
 have hg:gU Q E (qAK c k n1) (qAK d k n2) (k+1)=gU Q E c d k:=funext fun i=>by
  by_cases hi:i<k
  ·exact qZm hi
  ·unfold gU
   have h1:¬(i<k+1∧0<usN Q E i):=fun e=>by
    by_cases hk:i=k
    ·subst hk;exact h0 e.2
    ·have:=e.1;omega
   rw[if_neg h1,if_neg (fun e=>hi e.1)]
 unfold plU;rw[show lastU Q E (k+1)=lastU Q E k from if_neg h0,hg];cases e:lastU Q E k with
 |none=>rfl
 |some m=>show some (⟨qC5 (qAK c k n1) m,true,0,_⟩:Blk)=some ⟨qC5 c m,true,0,_⟩;rw[qCu (qQB e).1]
theorem jCJ (h0:0<usN Q E k):qK2 (plU Q E c d k) ⟨n1,true,0,spr (usN Q E k+n2) (usN Q E k) (fun j=>u8 (usW Q E k j)) (u8 0)⟩ 10 (gU Q E (qAK c k n1) (qAK d k n2) (k+1)):=by
 refine⟨k,fun i j pc hi hg=>?_⟩
 by_cases hik:i<k
 ·left
  rw[qZm hik] at hg;have hp:0<usN Q E i:=by
   unfold gU at hg;by_cases h:0<usN Q E i
   ·exact h
   ·rw[if_neg (fun e=>h e.2)] at hg;cases hg
  obtain⟨m,hm⟩:=qJw hik hp;exact⟨_,_,_,by unfold plU;rw[hm],rfl,rfl,hi,hg⟩
 ·right
  unfold gU at hg;split at hg
  ·rename_i h
   have:i=k:=by omega
   subst this;injection hg with hg;injection hg with h1 h2;rw[qCt] at h1 h2;refine⟨rfl,h1.symm,.inl ?_⟩;rw[←h2];rfl
  ·cases hg
theorem jDA (hl:∀k,usN Q E k≤9223372036854775807):OkB (usV Q E c d k):=jDj (hl k)
theorem jBh {i:Nat} (hi:i<k):usV Q E (qAK c k n1) (qAK d k n2) i=usV Q E c d i:=by unfold usV;rw[qCu hi,qCu hi]
theorem jAv:usV Q E (qAK c k n1) (qAK d k n2) k=rbV (usS Q E k).1 (usS Q E k).2 1000 n1 n2:=by unfold usV;rw[qCt,qCt]
theorem qQE {A:Grw BytL} (hz:A.z=false) (hn:A.n=k+1) (hA:A.f=qAj (usV Q E c d) k fun _ =>qOf (qA3 (rbV (usS Q E k).1 (usS Q E k).2 1000 n1 n2))):
  gsV A=gsV (qAp (k+1) (usV Q E (qAK c k n1) (qAK d k n2)) A.nm A.r)∧gsE qBN [Value.slice none 0 0] 1 A=gsE qBN [Value.slice none 0 0] 1 (qAp (k+1) (usV Q E (qAK c k n1) (qAK d k n2)) A.nm A.r):=
 qNu hn (by rw[hz,decide_eq_false (by omega)]) fun j hj=>by
  rw[hA];unfold qAj;by_cases h:j<k
  ·rw[if_pos h,jBh h]
  ·have:j=k:=by omega
   subst this;rw[if_neg h,jAv];rfl
end
structure RdR (C:Grw UInt8) (Q:BytL):Prop where
 ok:OkB Q
 le:Q.wn≤100000
 hold:∀w:World,(∀b,roO (gsE u8C [u8 0] 1 C)=some b→qAn b w)→qCM (qBi Q) w
 nm:0<Q.wn→C.z=false∧Q.wb=C.nm
def RdR.small {C:Grw UInt8} {Q:BytL} (h:RdR C Q) (E:Int) (x:UInt64):RdR C (rsQ Q E x):=
 ⟨qZp h.ok E x,Nat.le_trans (qOl _ _ _) h.le,fun w hw=>qRl (h.hold w hw),fun h0=>by
  have h1:=qOl Q E x;rw[jDl];exact h.nm (by omega)⟩
def RdR.byts {C:Grw UInt8} {Q:BytL} (h:RdR C Q) (E m:Int):RdR C (rbQ Q E m):=
 ⟨jDm h.ok E m,Nat.le_trans (jDy _ _ _) h.le,fun w hw=>qW3 (h.hold w hw),fun h0=>by
  have h1:=jDy Q E m;rw[jFf];exact h.nm (by omega)⟩
theorem RdR.us {C:Grw UInt8} {Q:BytL} (h:RdR C Q) (E:Int):∀k,RdR C (usS Q E k).1
 |0=>h
 |k+1=>(RdR.us h E k).byts _ _
def qDj {q:BytL} (hq:OkB q) (hl:q.wn≤100000) (a r:Nat):RdR (cpG q a r) (qGX (cpG q a r)):=
 ⟨jBy (qTQ hq a r) (by show q.wn≤_;omega),hl,fun w hw=>qYr (qTQ hq a r) hw,fun h0=>⟨(qTQ hq a r).pos h0,rfl⟩⟩
def RdR.lend {F:Blk→Prop} {P:Program} {fn:FuncId} {args:List Value} {B:Blk} {n:Nat} {v:List Nat→Value} {o:List Nat→Option Blk} {nw:List Nat→List (Option Blk)} {C:Grw UInt8} {Q:BytL} (h:RdR C Q)
  (hr:qAt (qBi Q) P fn args [B] n v (fun ns=>o ns::nw ns)) (how:∀ns,qS6 (o ns::none::nw ns)):qAc F P fn args [some B,roO (gsE u8C [u8 0] 1 C)] n v (fun ns=>o ns::none::nw ns):=
 jAc hr (fun w _ hb=>h.hold w hb) (qWS h.nm) jCZ how
def qUM {C:Grw UInt8} {Q:BytL} (h:RdR C Q) (E:Int) (k:Nat):usN Q E k≤100000:=
  Nat.le_trans (rbN_le' (usS Q E k).1 (usS Q E k).2) (h.us E k).le
where rbN_le' (q:BytL) (e:Int):rbN q e 1000≤q.wn:=by
        unfold rbN;split
        · unfold ctN;split
          · exact Nat.zero_le _
          · rename_i h1;rw[Nat.div_one] at h1;exact Nat.le_trans (by omega) (qKi q e 1000)
        · exact Nat.zero_le _
def qRt {i n:UInt64} {k:Nat} (e:i.toNat=k) (h:decide (i<n)=true):(i+1).toNat=k+1∧k<n.toNat:=by
 have h1:=UInt64.lt_iff_toNat_lt.1 (of_decide_eq_true h);have h2:=n.toNat_lt;refine⟨?_,by omega⟩
 rw[UInt64.toNat_add,show(1:UInt64).toNat=1 from rfl,Nat.mod_eq_of_lt (by omega),e]
def qJW {i n:UInt64} {k:Nat} (e:i.toNat=k) (hk:k≤n.toNat) (h:decide (i<n)=false):k=n.toNat:=by
 have h1:¬i.toNat<n.toNat:=fun h2=>of_decide_eq_false h (UInt64.lt_iff_toNat_lt.2 h2)
 omega
structure qA5 (Q R:BytL):Prop where
 n:Q.wn=R.wn
 f:Q.wf=R.wf
 z:Q.wa.isNone=R.wa.isNone
def qMP (A:Option Addr) (c k:Nat):(qBF A c k 1).isNone=A.isNone:=by
 unfold qBF;by_cases h:c=k
 ·rw[if_pos h]
 ·rw[if_neg h];cases A<;>rfl
section
variable {Q R:BytL}
theorem qA5.from(h:qA5 Q R) (k:Nat):qA5 (qPg Q k) (qPg R k):=
 ⟨by show Q.wn-k=R.wn-k;rw[h.n],by show(fun i=>Q.wf (i+k))=fun i=>R.wf (i+k);rw[h.f],by
  show(qBF Q.wa Q.wc k 1).isNone=(qBF R.wa R.wc k 1).isNone;rw[qMP,qMP,h.z]⟩
theorem qA5.rsE (h:qA5 Q R) (e:Int) (l:UInt64):rsE Q e l=Go.Eng.rsE R e l:=by unfold Go.Eng.rsE;rw[h.n,h.f]
theorem qA5.rsV (h:qA5 Q R) (e:Int) (l:UInt64):rsV Q e l=Go.Eng.rsV R e l:=by unfold Go.Eng.rsV;rw[h.rsE,h.f]
theorem qA5.rsQ (h:qA5 Q R) (e:Int) (l:UInt64):qA5 (rsQ Q e l) (Go.Eng.rsQ R e l):=by
 unfold Go.Eng.rsQ;rw[h.rsE];split
 ·rw[h.f];exact h.from _
 ·exact h
theorem qA5.tkE (h:qA5 Q R) (e:Int) (n:Nat):tkE Q e n=Go.Eng.tkE R e n:=by unfold Go.Eng.tkE;rw[h.n]
theorem qA5.tkQ (h:qA5 Q R) (e:Int) (n:Nat):qA5 (tkQ Q e n) (Go.Eng.tkQ R e n):=by
 unfold Go.Eng.tkQ;rw[h.tkE];split
 ·exact h.from _
 ·exact h
theorem qA5.ctQ (h:qA5 Q R) (e m:Int):qA5 (ctQ Q e m) (Go.Eng.ctQ R e m):=h.rsQ _ _
theorem qA5.ctV (h:qA5 Q R) (e m:Int):ctV Q e m=Go.Eng.ctV R e m:=by unfold Go.Eng.ctV;rw[h.rsV]
theorem qA5.ctE (h:qA5 Q R) (e m:Int) (z:Nat):ctE Q e m z=Go.Eng.ctE R e m z:=by unfold Go.Eng.ctE;rw[(h.ctQ e m).n,h.ctV,h.rsE]
theorem qA5.ctN (h:qA5 Q R) (e m:Int) (z:Nat):ctN Q e m z=Go.Eng.ctN R e m z:=by unfold Go.Eng.ctN;rw[(h.ctQ e m).n,h.ctV]
theorem qA5.rbE (h:qA5 Q R) (e m:Int):rbE Q e m=Go.Eng.rbE R e m:=by unfold Go.Eng.rbE;rw[(h.ctQ e m).tkE,h.ctE,h.ctN]
theorem qA5.rbN (h:qA5 Q R) (e m:Int):rbN Q e m=Go.Eng.rbN R e m:=by unfold Go.Eng.rbN;rw[(h.ctQ e m).tkE,h.ctE,h.ctN]
theorem qA5.rbQ (h:qA5 Q R) (e m:Int):qA5 (rbQ Q e m) (Go.Eng.rbQ R e m):=by unfold Go.Eng.rbQ;rw[h.ctE,h.ctN];exact(h.ctQ e m).tkQ _ _
theorem qA5.rbZ (h:qA5 Q R) (e m:Int):rbZ Q e m=Go.Eng.rbZ R e m:=by unfold Go.Eng.rbZ;rw[h.rbE,(h.ctQ e m).z]
theorem qA5.rbV (h:qA5 Q R) (e m:Int) (a r:Nat):rbV Q e m a r=Go.Eng.rbV R e m a r:=by unfold Go.Eng.rbV;rw[h.rbN,(h.ctQ e m).f,h.rbZ]
theorem qA5.us (h:qA5 Q R) (E:Int):∀k,qA5 (usS Q E k).1 (usS R E k).1∧(usS Q E k).2=(usS R E k).2
 |0=>⟨h,rfl⟩
 |k+1=>by
  obtain⟨h1,h2⟩:=qA5.us h E k;refine⟨?_,?_⟩
  ·show qA5 (Go.Eng.rbQ (usS Q E k).1 (usS Q E k).2 1000) (Go.Eng.rbQ (usS R E k).1 (usS R E k).2 1000)
   rw[h2];exact h1.rbQ _ _
  ·show Go.Eng.rbE (usS Q E k).1 (usS Q E k).2 1000=Go.Eng.rbE (usS R E k).1 (usS R E k).2 1000
   rw[h2];exact h1.rbE _ _
theorem qA5.usN (h:qA5 Q R) (E:Int):usN Q E=Go.Eng.usN R E:=funext fun k=>by
 obtain⟨h1,h2⟩:=h.us E k;unfold Go.Eng.usN;rw[h2];exact h1.rbN _ _
theorem qA5.usW (h:qA5 Q R) (E:Int):usW Q E=Go.Eng.usW R E:=funext fun k=>by
 obtain⟨h1,h2⟩:=h.us E k;unfold Go.Eng.usW;rw[h2];exact(h1.ctQ _ _).f
theorem qA5.usV (h:qA5 Q R) (E:Int) (c d:Nat):usV Q E c d=Go.Eng.usV R E c d:=funext fun k=>by
 obtain⟨h1,h2⟩:=h.us E k;unfold Go.Eng.usV;rw[h2];exact h1.rbV _ _ _ _
theorem qA5.gU (h:qA5 Q R) (E:Int) (c d k:Nat):gU Q E c d k=Go.Eng.gU R E c d k:=by unfold Go.Eng.gU;rw[h.usN,h.usW]
theorem qA5.lastU (h:qA5 Q R) (E:Int):∀k,lastU Q E k=Go.Eng.lastU R E k
 |0=>rfl
 |k+1=>by unfold Go.Eng.lastU;rw[h.usN,qA5.lastU h E k]
theorem qA5.plU (h:qA5 Q R) (E:Int) (c d k:Nat):plU Q E c d k=Go.Eng.plU R E c d k:=by unfold Go.Eng.plU;rw[h.lastU,h.gU]
theorem jBP {E:Int} {k a r:Nat} (h0:0<Go.Eng.usN Q E k):rbK (usS Q E k).1 (usS Q E k).2 1000 a r=some ⟨a,true,0,spr (Go.Eng.usN Q E k+r) (Go.Eng.usN Q E k) (fun j=>u8 (Go.Eng.usW Q E k j)) (u8 0)⟩:=if_pos h0
theorem jDt {E:Int} {k a r:Nat} (h0:¬0<Go.Eng.usN Q E k):rbK (usS Q E k).1 (usS Q E k).2 1000 a r=none:=if_neg h0
theorem qF0 {q:BytL} (hq:OkB q) (a r:Nat):qA5 (qGX (cpG q a r)) q:=⟨rfl,rfl,by
 show(gsA (cpG q a r)).isNone=q.wa.isNone;cases hz:q.wa.isNone with
 |true=>rw[qUY (show(cpG q a r).z=true from hz)];rfl
 |false=>rw[qIt (show(cpG q a r).z=false from hz)];rfl⟩
end
section
variable {Q:BytL} {E:Int} {c d k nm r:Nat}
def usL (Q:BytL) (E:Int) (c d k nm r:Nat):Grw BytL:=qAp k (usV Q E c d) nm r
theorem qOL {i:Nat}:(usV Q E c d i).wn=usN Q E i:=by
 show(rbV (usS Q E i).1 (usS Q E i).2 1000 (qC5 c i) (qC5 d i)).wn=rbN (usS Q E i).1 (usS Q E i).2 1000;unfold rbV;split
 ·rfl
 ·rename_i h;show 0=_;omega
theorem qZw (hk:k≤1000) (hl:∀i,usN Q E i≤9223372036854775807):OkS (qTa (usL Q E c d k nm r)):=
 qP7 (qBG _ _ _ _) (Nat.le_trans (show k≤1000 from hk) (by decide)) fun i _=>jDA hl
theorem qOv {i:Nat} (hi:i<k) (h0:0<usN Q E i):∃m,plU Q E c d k=some ⟨qC5 c m,true,0,.pile 10 (gU Q E c d k)⟩∧gU Q E c d k i=some (qC5 c i,qZa (usN Q E i) (qC5 d i) (usW Q E i)):=by
 obtain⟨m,hm⟩:=qJw (k:=k) hi h0;exact⟨m,by unfold plU;rw[hm],if_pos ⟨hi,h0⟩⟩
theorem qQh {i:Nat} (h0:0<usN Q E i):usV Q E c d i=qBO (qC5 c i) (usN Q E i) (usN Q E i+qC5 d i) (usW Q E i):=if_pos h0
theorem jFa (hk:k≤10) {w:World} (hb:∀b,roO (plU Q E c d k)=some b→qAn b w) {i:Nat} (hi:i<k):qCM (qBi (usV Q E c d i)) w:=fun b hb'=>by
 have h0:0<usN Q E i:=by rw[←qOL (c:=c) (d:=d)];exact hb'.1
 obtain⟨m,e1,e2⟩:=qOv (c:=c) (d:=d) hi h0;rw[qQh h0] at hb';obtain⟨_,rfl⟩:=hb';have h1:=(hb _ (by rw[e1];rfl)).obj
 have h2:qEG (qC5 c i) false (qZa (usN Q E i) (qC5 d i) (usW Q E i)) w:=h1.1 i _ _ (by omega) e2
 have h3:qAn ⟨qC5 c i,false,0,spr (usN Q E i+qC5 d i) (usN Q E i) (fun j=>u8 (usW Q E i j)) (u8 0)⟩ w:=⟨h2.lt,h2.cell,(fun h=>by cases h),trivial⟩
 exact⟨qBw h3,rfl⟩
def usC (Q:BytL) (E:Int) (c d k nm r:Nat):List (Option Blk):=[roO (gsE qBN [Value.slice none 0 0] 1 (usL Q E c d k nm r)),roO (plU Q E c d k)]
theorem jEb (hk:k≤10) {w:World} (hb:∀b,some b∈usC Q E c d k nm r→qAn b w):qCM (qEd (qTa (usL Q E c d k nm r))) w:=
 qNi (qBG _ _ _ _) (fun b hb'=>hb b (hb'▸List.Mem.head _)) fun i hi=>jFa hk (fun b hb'=>hb b (hb'▸List.Mem.tail _ (List.Mem.head _))) hi
theorem qYa (hk:k≤10) {z:Blk} (hz:qEd (qTa (usL Q E c d k nm r)) z) (j:Nat) (hj:z.has j):∃b,some b∈usC Q E c d k nm r∧b.has j:=by
 rcases hz with⟨h0,rfl⟩|⟨i,hi,hz⟩
 ·have hA:(usL Q E c d k nm r).z=false:=(qBG k (usV Q E c d) nm r:Grw.ok _).pos h0
  refine⟨⟨nm,false,0,qGn 1 (k+r) k (fun i=>qBN (usV Q E c d i)) [Value.slice none 0 0]⟩,?_,hj⟩
  have e:roO (gsE qBN [Value.slice none 0 0] 1 (usL Q E c d k nm r))=some ⟨nm,false,0,qGn 1 (k+r) k (fun i=>qBN (usV Q E c d i)) [Value.slice none 0 0]⟩:=by rw[qDy hA];rfl
  exact e▸List.Mem.head _
 ·have hi':i<k:=hi
  have hz':qBi (usV Q E c d i) z:=hz;have h0:0<usN Q E i:=by rw[←qOL (c:=c) (d:=d)];exact hz'.1
  obtain⟨m,e1,e2⟩:=qOv (c:=c) (d:=d) hi' h0;rw[qQh h0] at hz';obtain⟨_,rfl⟩:=hz';have e:roO (plU Q E c d k)=some ⟨qC5 c m,false,0,.pile 10 (gU Q E c d k)⟩:=by rw[e1];rfl
  have hj':qC5 c i=j:=hj;exact⟨⟨qC5 c m,false,0,.pile 10 (gU Q E c d k)⟩,e▸List.Mem.tail _ (List.Mem.head _),i,qZa (usN Q E i) (qC5 d i) (usW Q E i),by omega,by rw[e2,hj']⟩
theorem qUy {F:Blk→Prop} {P:Program} {f:FuncId} {args:List Value} {v:Value} (hk:k≤10) (hr:qAc (qEd (qTa (usL Q E c d k nm r))) P f args [] 0 (fun _=>v) (fun _=>[])):qAc F P f args (usC Q E c d k nm r) 0 (fun _=>v) (fun _=>[none,none]):=
 hr.lendQ (bs:=[]) (cs:=usC Q E c d k nm r) (o:=fun _=>[]) (nw:=fun _=>[]) (fun _=>rfl) (fun w _ hb=>jEb hk hb) fun z hz j hj=>.inr (qYa hk hz j hj)
end
def qOU {f f' g g':Nat→UInt8} {n m:Nat} (h1:∀k,k<n→f k=f' k) (h2:∀k,k<m→g k=g' k):qDn f n g m=qDn f' n g' m:=by
 unfold qDn;rw[Bool.eq_iff_iff,decide_eq_true_iff,decide_eq_true_iff];constructor
 ·rintro⟨rfl,h⟩
  exact⟨rfl,fun k hk=>by rw[←h1 k hk,←h2 k hk];exact h k hk⟩
 ·rintro⟨rfl,h⟩
  exact⟨rfl,fun k hk=>by rw[h1 k hk,h2 k hk];exact h k hk⟩
def usB (Q:BytL) (E:Int) (i:Nat):BytL:=qBO 0 (usN Q E i) 0 (usW Q E i)
section
variable {Q:BytL} {E:Int} {c d k:Nat}
theorem qYV {i j:Nat} (hj:j<usN Q E i):(usV Q E c d i).wf j=usW Q E i j:=by rw[qQh (by omega)];rfl
theorem jDO {x y:BytL} {i:Nat} (hn:x.wn=y.wn) (hf:∀j,j<x.wn→x.wf j=y.wf j):elE (usV Q E c d) x i=elE (usB Q E) y i:=by
 unfold elE;rw[qOL,hn];exact qOU (fun j hj=>qYV hj) (fun j hj=>hf j (by omega))
theorem qZd {x y:BytL} (hn:x.wn=y.wn) (hf:∀j,j<x.wn→x.wf j=y.wf j):inB (usV Q E c d) k x=inB (usB Q E) k y:=qHr fun i _=>jDO hn hf
theorem jDg:twB (usV Q E c d) k=twB (usB Q E) k:=qHr fun i _=>qZd qOL fun j hj=>qYV (by rw[qOL] at hj;exact hj)
end
def uQ (q:BytL):BytL:=rsQ (rsQ q 0 18446744073709551615) (rsE q 0 18446744073709551615) 10
def uE (q:BytL):Int:=rsE (rsQ q 0 18446744073709551615) (rsE q 0 18446744073709551615) 10
def uNn (q:BytL):UInt64:=rsV (rsQ q 0 18446744073709551615) (rsE q 0 18446744073709551615) 10
def uN (q:BytL):Nat:=(uNn q).toNat
def uH (q:BytL):UInt64:=rsV q 0 18446744073709551615
def uD (q:BytL):Int:=qUj (usS (uQ q) (uE q) (uN q)).1.wn (usS (uQ q) (uE q) (uN q)).2
def uB (q:BytL):Bool:=qA0 (inB (usB (uQ q) (uE q)) (uN q) (qAf none 0)) true (twB (usB (uQ q) (uE q)) (uN q))
section
variable {Q R:BytL}
theorem qA5.uQ (h:qA5 Q R):qA5 (uQ Q) (Go.Eng.uQ R):=by
 unfold Go.Eng.uQ;rw[h.rsE];exact(h.rsQ _ _).rsQ _ _
theorem qA5.uE (h:qA5 Q R):uE Q=Go.Eng.uE R:=by
 unfold Go.Eng.uE;rw[h.rsE];exact(h.rsQ _ _).rsE _ _
theorem qA5.uNn (h:qA5 Q R):uNn Q=Go.Eng.uNn R:=by
 unfold Go.Eng.uNn;rw[h.rsE];exact(h.rsQ _ _).rsV _ _
theorem qA5.uN (h:qA5 Q R):uN Q=Go.Eng.uN R:=by unfold Go.Eng.uN;rw[h.uNn]
theorem qA5.uH (h:qA5 Q R):uH Q=Go.Eng.uH R:=h.rsV _ _
theorem qA5.uD (h:qA5 Q R):uD Q=Go.Eng.uD R:=by
 unfold Go.Eng.uD;rw[h.uE,h.uN];obtain⟨h1,h2⟩:=h.uQ.us (Go.Eng.uE R) (Go.Eng.uN R);rw[h1.n,h2]
theorem qA5.usB (h:qA5 Q R) (E:Int):usB Q E=Go.Eng.usB R E:=funext fun i=>by unfold Go.Eng.usB;rw[h.usN,h.usW]
theorem qA5.uB (h:qA5 Q R):uB Q=Go.Eng.uB R:=by
 unfold Go.Eng.uB;rw[h.uE,h.uN,h.uQ.usB]
end
def jBX {q:BytL} (hq:OkB q) (a r c d:Nat):usV (uQ (qGX (cpG q a r))) (uE (qGX (cpG q a r))) c d=usV (uQ q) (uE q) c d:=by
 have h:=qF0 hq a r;rw[h.uE];exact h.uQ.usV _ _ _
def qZK {q:BytL} (hq:OkB q) (a r c d k:Nat):plU (uQ (qGX (cpG q a r))) (uE (qGX (cpG q a r))) c d k=plU (uQ q) (uE q) c d k:=by
 have h:=qF0 hq a r;rw[h.uE];exact h.uQ.plU _ _ _ _
def unX (q:BytL):Int:=if uD q=0 then(if uB q=true then 31 else 0) else uD q
def unH (q:BytL):UInt64:=if unX q=0 then uH q else 0
def unL (q:BytL) (c d nm r:Nat):Grw BytL:=if unX q=0 then qAp (uN q) (usV (uQ q) (uE q) c d) nm r else⟨true,0,0,0,fun _=>qAf none 0⟩
def unP (q:BytL) (c d:Nat):Option Blk:=if unX q=0 then plU (uQ q) (uE q) c d (uN q) else none
def jE1 {q:BytL} (h:uD q≠0):unX q=uD q:=by unfold unX;rw[if_neg h]
def jER {q:BytL} (h:uD q=0) (hb:uB q=true):unX q=31:=by unfold unX;rw[if_pos h,if_pos hb]
def jDE {q:BytL} (h:uD q=0) (hb:uB q=false):unX q=0:=by unfold unX;rw[if_pos h,hb];rfl
def qWT {q:BytL} (h:unX q≠0):unH q=0∧(∀c d nm r,unL q c d nm r=⟨true,0,0,0,fun _=>qAf none 0⟩)∧∀c d,unP q c d=none:=⟨if_neg h,fun _ _ _ _=>if_neg h,fun _ _=>if_neg h⟩
def qUf {q:BytL} (h:unX q=0):unH q=uH q∧(∀c d nm r,unL q c d nm r=qAp (uN q) (usV (uQ q) (uE q) c d) nm r)∧∀c d,unP q c d=plU (uQ q) (uE q) c d (uN q):=⟨if_pos h,fun _ _ _ _=>if_pos h,fun _ _=>if_pos h⟩
end Go.Eng
end
section
namespace Go.Proofs.YtmdpendnbkajdaaGreatDoor
open Go Go.Eng
abbrev qQM (a:BytL):=Value.slice a.wa a.wn a.wc
abbrev qVR:=List (Option Blk)
def v2s:=@rfl (qVR) []
def v3K(x y:BytL):=jCb (qGQ x.wf x.wn) (qGQ y.wf y.wn)
def qTS (x y:BytL) (hx:OkB x) (hy:OkB y):qAt (qGv x y) TP 63 [(Value.slice x.wa x.wn x.wc),(Value.slice y.wa y.wn y.wc)] [] 0 (fun _=>Value.bool (qDn x.wf x.wn y.wf y.wn)) (fun _=>[]):=
 qAm (F:=(qGv x y)) mix Tryz.func63 rfl rfl 400 (.reg (rg [.g]) (.reg (rg [.g,(.othF [] 0 0 (fun _=>(Value.string (qGQ x.wf x.wn))) (fun _=>[])),.g,(.othF [] 0 0 (fun _=>(Value.string (qGQ y.wf y.wn))) (fun _=>[])),(aB (v3K x y)),.g]) .done)) [] [] rfl
  (Eq.mp (by kernel_rfl) (aI kV1 (aI (sk (aI (aT (qKg.mono (fun z hz=>(Or.inl hz:qGv x y z)) (qLD (P:=TP) (src:=29) (dst:=9) (e:=5) (by kernel_rfl) (by kernel_rfl) (by kernel_rfl) x hx))) (sk (aI (aT (qKg.mono (fun z hz=>(Or.inr hz:qGv x y z)) (qLD (P:=TP) (src:=29) (dst:=9) (e:=5) (by kernel_rfl) (by kernel_rfl) (by kernel_rfl) y hy))) (aI (aT (@qUr TP 9 9 (.tmp 6) (.tmp 8) (qGQ x.wf x.wn) (qGQ y.wf y.wn))) kV1))))) (aT (eX (fun(ns:List Nat)=>ns.length=0∧((vB (v3K x y)):Value)=(fun _=>vB (v1G x y)) ns∧([]:List (Option Blk))=(fun _=>[]) ns) [] (aI v0b (aI ((show(vB (v3K x y))=vB (v1G x y) from congrArg vB (jAh _ _ _ _))) v2s)))))))
def qGU (x:qA6) (y:qA6) (x1:Nat):St:=⟨[(0,.v (vS x.wa x.wn x.wc)),(1,.v (vS y.wa y.wn y.wc)),(5,.v (nat x1))],[],0⟩
def qD2 (x:qA6) (y:qA6) (x1:Nat):Prop:=(x1≤x.wn)∧(∀k,k<x1→elS x y k=true)
def qEk (x:qA6) (y:qA6) (x1:Nat):Nat:=x.wn-x1
def w01(a:Nat):=@qAo TP 22 29 (.tmp a) (by kernel_rfl)
def w11(a b:Nat):=@qAC TP 3 3 (.tmp a) (.tmp b)
def w21(a b:Nat):=@qAX TP 22 29 (.tmp a) (.tmp b) 1 (by kernel_rfl) (by kernel_rfl)
def w31(a:Nat):=@qAe TP 3 3 (.tmp a) (.const (.int .i64 1))
def qTR (x y:qA6) (hx:OkS x) (hy:OkS y):qAt (qSM x y) TP 18 [(Value.slice x.wa x.wn x.wc),(Value.slice y.wa y.wn y.wc)] [] 0 (fun _=>Value.bool (qFW x y)) (fun _=>[]):=
 qAm (F:=(qSM x y)) mix Tryz.func18 rfl rfl 400 (.reg (rg [.g]) (.reg (rg [.g,(aN x.wn),.g,(aN y.wn),(aB (!(decide (x.wn=y.wn))))]) (.br v0c (.reg (rg [.g]) (.inv [0,1,5] [] 0 (qD2 x y) (qGU x y) (qEk x y) (0:Nat) (fun(x1:Nat)=>(.reg (rg [.g,.g,(aN x.wn),(aB (decide (x1<x.wn)))]) (.br (.openr (qJj x) (.openr (qJj y) (.reg (rg [.g,.g,(.as (ptr x.wb (x.wo+x1*1))),(v1I x1),.g,.g,(.as (ptr y.wb (y.wo+x1*1))),(.ld 1 (.tab x1 0)),(.callF [] 0 0 (fun _=>(vB (elS x y x1))) (fun _=>[])),.g]) (v6U x1)))) v0c)))))))) [] [] rfl
  (have f0:=hx.len;have f1:=hy.len;Eq.mp (by kernel_rfl) (aI kV1 (aI (sk (aI (aT (@w01 6 x.wa x.wn x.wc)) (sk (aI (aT (@w01 8 y.wa y.wn y.wc)) (aI (aT (@qJK TP 3 3 (.tmp 7) (.tmp 9)  x.wn y.wn)) tV))))) (aT (aI (fun(h1:(!(decide (x.wn=y.wn)))=true)=>have f2:¬(x.wn=y.wn):=(oF (qBr h1));aI kV1 (aT (eX (fun(ns:List Nat)=>ns.length=0∧(v1E:Value)=(fun _=>vB (qFW x y)) ns∧([]:List (Option Blk))=(fun _=>[]) ns) [] (aI v0b (aI ((show(vB false)=vB (qFW x y) from congrArg vB (by first|exact qOc (by omega)|exact qOj (by omega) (by assumption)))) v2s))))) (fun(h1:(!(decide (x.wn=y.wn)))=false)=>have f2:(x.wn=y.wn):=(oT (qAQ h1));aI kV1 (aI (show(0≤x.wn)∧(∀k,k<0→elS x y k=true) from by exact⟨by omega,fun k hk=>absurd hk (by omega)⟩) (aI (@rfl St ((qGU x y) (0:Nat))) (fun(x1:Nat) (hx1:(qD2 x y) x1)=>have B0:x1≤x.wn:=hx1.1;have B1:∀k,k<x1→elS x y k=true:=hx1.2;aI (sK2 (aI (aT (@w01 12 x.wa x.wn x.wc)) (aI (aT (@w11 11 13  x1 x.wn)) tV))) (aT (aI (fun(h2:(decide (x1<x.wn))=true)=>have f5:=(oT h2);aI (Or.inl (Or.inl ⟨(show 0<x.wn from by omega),rfl⟩):qSM x y (qJj x)) (aI (Or.inr (Or.inl ⟨(show 0<y.wn from by omega),rfl⟩):qSM x y (qJj y)) (aI (sK2 (aI (aT (@w21 17 18 x.wb x.wo x.wn x.wc x1 x.wa (hx.ad (show 0<x.wn from by omega)) (show x1<x.wn from by omega))) (aI (aT (aI (show x1<x.wn from by omega) (@rfl Value (ptr x.wb (x.wo+x1*1))))) (sK2 (aI (aT (@w21 21 22 y.wb y.wo y.wn y.wc x1 y.wa (hy.ad (show 0<y.wn from by omega)) (show x1<y.wn from by omega))) (aI (aT (aI (show x1<y.wn from by omega) (@rfl Value (ptr y.wb (y.wo+x1*1))))) (aI (aT (qAt.mono (jFn (show x1<x.wn from by omega) (show x1<y.wn from by omega)) (qM8 (x.wf x1) (y.wf x1) (hx.el _ (show x1<x.wn from by omega)) (hy.el _ (show x1<y.wn from by omega))))) kV1))))))) (aT (aI (fun(h3:(!(elS x y x1))=true)=>have f6:(elS x y x1)=false:=(qBr h3);aI kV1 (aT (eX (fun(ns:List Nat)=>ns.length=0∧(v1E:Value)=(fun _=>vB (qFW x y)) ns∧([]:List (Option Blk))=(fun _=>[]) ns) [] (aI v0b (aI ((show(vB false)=vB (qFW x y) from congrArg vB (by first|exact qOc (by omega)|exact qOj (by omega) (by assumption)))) v2s))))) (fun(h3:(!(elS x y x1))=false)=>have f6:(elS x y x1)=true:=(qAQ h3);aI (sk (aI (aT (@w31 15  x1 1 (show x1+1≤9223372036854775807 from by omega))) kV1)) ((rnd (qD2 x y) (qGU x y) (qEk x y) x1 (x1+1:Nat) (show(((x1+1)≤x.wn)∧(∀k,k<(x1+1)→elS x y k=true))∧(x.wn-(x1+1))<(x.wn-x1) from by exact⟨⟨by omega,qR3 B1 (by assumption)⟩,by omega⟩))))))))) (fun(h2:(decide (x1<x.wn))=false)=>have f5:=(oF h2);aI kV1 (aT (eX (fun(ns:List Nat)=>ns.length=0∧((vB true):Value)=(fun _=>vB (qFW x y)) ns∧([]:List (Option Blk))=(fun _=>[]) ns) [] (aI v0b (aI ((show(vB true)=vB (qFW x y) from congrArg vB (by exact qUR (by omega) (by omega) B1))) v2s))))))))))))))))
def v1J(b:Nat)(y:BytL):=@rfl (qVR) [some ⟨b,false,0,(.lit [(qQM y)])⟩]
def qXe (b:Nat) (x y:BytL) (hx:OkB x) (hy:OkB y):qAt (qGv x y) TP 62 [(Value.slice x.wa x.wn x.wc),(ptr b 0)] [⟨b,false,0,(.lit [(Value.slice y.wa y.wn y.wc)])⟩] 0 (fun _=>Value.bool (qDn x.wf x.wn y.wf y.wn)) (fun _=>[some ⟨b,false,0,(.lit [(Value.slice y.wa y.wn y.wc)])⟩]):=
 qAm (F:=(qGv x y)) mix Tryz.func62 rfl rfl 400 (.reg (rg [.g]) (.reg (rg [.g,v0j,(.callF [] 0 0 (fun _=>(vB (v1G x y))) (fun _=>[])),.g]) .done)) [] [] rfl
  (have f0:=hx.len;have f1:=hy.len;Eq.mp (by kernel_rfl) (aI kV1 (aI (sk (aI (aT (ad b 0)) (aI (aT (qAt.lendP (F':=(qGv x y)) (jDC (qUF (fun z hz=>(Or.inl hz:qGv x y z))) (qUF (fun z hz=>(Or.inr hz:qGv x y z)))) (jDw (qV0 (fun z hz=>(Or.inl hz:qGv x y z))) (qV0 (fun z hz=>(Or.inr hz:qGv x y z)))) (qTS x y hx hy))) kV1))) (aT (eX (fun(ns:List Nat)=>ns.length=0∧((vB (v1G x y)):Value)=(fun _=>vB (v1G x y)) ns∧([some ⟨b,false,0,(.lit [(qQM y)])⟩]:List (Option Blk))=(fun _=>[some ⟨b,false,0,(.lit [(qQM y)])⟩]) ns) [] (aI v0b (aI (@rfl Value (vB (v1G x y))) (v1J b y))))))))
def v27(l:qA6):=vS l.wa l.wn l.wc
def qJu (l:qA6) (y:BytL) (x1:Nat):St:=⟨[(0,.v (v27 l)),(1,.v (qQM y)),(5,.v (nat x1))],[],0⟩
def qFz (l:qA6) (y:BytL) (x1:Nat):Prop:=(x1≤l.wn)∧(∀k,k<x1→elE l.wf y k=false)
def qGh (l:qA6) (y:BytL) (x1:Nat):Nat:=l.wn-x1
def v1x(l:qA6)(x1:Nat):=rg [.g,.g,(aN l.wn),(aB (decide (x1<l.wn)))]
def v2Y(l:qA6)(x1:Nat):=ptr l.wb (l.wo+x1*1)
def v4n(l:qA6)(y:BytL):=inB l.wf l.wn y
def qZz (l:qA6) (y:BytL) (hl:OkS l) (hy:OkB y):qAt (qJF l y) TP 55 [(Value.slice l.wa l.wn l.wc),(Value.slice y.wa y.wn y.wc)] [] 0 (fun _=>Value.bool (inB l.wf l.wn y)) (fun _=>[]):=
 qAm (F:=(qJF l y)) mix Tryz.func55 rfl rfl 400 (.reg (rg [.g]) (.reg (rg [.g]) (.inv [0,1,5] [] 0 (qFz l y) (qJu l y) (qGh l y) (0:Nat) (fun(x1:Nat)=>(.reg (v1x l x1) (.br (.openr (qJj l) (.reg (rg [.g,.g,(.as (v2Y l x1)),(v1I x1),.g,(.callF [] 0 0 (fun _=>(vB (elE l.wf y x1))) (fun _=>[]))]) (v6U x1))) v0c)))))) [] [] rfl
  (have f0:=hl.len;have f1:=hy.len;Eq.mp (by kernel_rfl) (aI kV1 (aI kV1 (aI (show(0≤l.wn)∧(∀k,k<0→elE l.wf y k=false) from by exact⟨by omega,fun k hk=>absurd hk (by omega)⟩) (aI (@rfl St ((qJu l y) (0:Nat))) (fun(x1:Nat) (hx1:(qFz l y) x1)=>have B0:x1≤l.wn:=hx1.1;have B1:∀k,k<x1→elE l.wf y k=false:=hx1.2;aI (sK2 (aI (aT (@w01 7 l.wa l.wn l.wc)) (aI (aT (@w11 6 8  x1 l.wn)) tV))) (aT (aI (fun(h1:(decide (x1<l.wn))=true)=>have f4:=(oT h1);aI (Or.inl (Or.inl ⟨(show 0<l.wn from by omega),rfl⟩):qJF l y (qJj l)) (aI (sK2 (aI (aT (@w21 12 13 l.wb l.wo l.wn l.wc x1 l.wa (hl.ad (show 0<l.wn from by omega)) (show x1<l.wn from by omega))) (aI (aT (aI (show x1<l.wn from by omega) (@rfl Value (v2Y l x1)))) (sk (aI (aT (qAt.mono (jD3 (show x1<l.wn from by omega)) (qM8 (l.wf x1) y (hl.el _ (show x1<l.wn from by omega)) hy))) tV))))) (aT (aI (fun(h2:(elE l.wf y x1)=true)=>aI kV1 (aT (eX (fun(ns:List Nat)=>ns.length=0∧((vB true):Value)=(fun _=>vB (v4n l y)) ns∧([]:List (Option Blk))=(fun _=>[]) ns) [] (aI v0b (aI ((show(vB true)=vB (inB l.wf l.wn y) from congrArg vB (by first|exact qJm (by omega) (by assumption)|exact qMT (by omega) B1))) v2s))))) (fun(h2:(elE l.wf y x1)=false)=>aI (sk (aI (aT (@w31 10  x1 1 (show x1+1≤9223372036854775807 from by omega))) kV1)) ((rnd (qFz l y) (qJu l y) (qGh l y) x1 (x1+1:Nat) (show(((x1+1)≤l.wn)∧(∀k,k<(x1+1)→elE l.wf y k=false))∧(l.wn-(x1+1))<(l.wn-x1) from by exact⟨⟨by omega,qKu B1 (by assumption)⟩,by omega⟩)))))))) (fun(h1:(decide (x1<l.wn))=false)=>have f4:=(oF h1);aI kV1 (aT (eX (fun(ns:List Nat)=>ns.length=0∧(v1E:Value)=(fun _=>vB (v4n l y)) ns∧([]:List (Option Blk))=(fun _=>[]) ns) [] (aI v0b (aI ((show(vB false)=vB (inB l.wf l.wn y) from congrArg vB (by first|exact qJm (by omega) (by assumption)|exact qMT (by omega) B1))) v2s)))))))))))))
def qJv (b:Nat) (l:qA6) (y:BytL) (x1:Nat):St:=⟨[(0,.v (v27 l)),(1,.v (Value.func (.func 62) #[] #[(ptr b 0)])),(7,.v (nat l.wn)),(8,.v (nat x1))],[(0,some ⟨b,false,0,(.lit [(qQM y)])⟩)],1⟩
def qFS (b:Nat) (l:qA6) (y:BytL) (x1:Nat):Prop:=(x1≤l.wn)∧(∀k,k<x1→elE l.wf y k=false)
def qGq (b:Nat) (l:qA6) (y:BytL) (x1:Nat):Nat:=l.wn-x1
def v4o(l:qA6)(y:BytL):=qQe (elE l.wf y) l.wn
def v5A(l:qA6):=rg [.g,(aN l.wn),.g]
def jAW (b:Nat) (l:qA6) (y:BytL) (hl:OkS l) (hy:OkB y):qAt (qJF l y) TP 79 [(Value.slice l.wa l.wn l.wc),(Value.func (.func 62) #[] #[(ptr b 0)])] [⟨b,false,0,(.lit [(Value.slice y.wa y.wn y.wc)])⟩] 0 (fun _=>int (qQe (elE l.wf y) l.wn)) (fun _=>[some ⟨b,false,0,(.lit [(Value.slice y.wa y.wn y.wc)])⟩]):=
 qAm (F:=(qJF l y)) mix Tryz.func79 rfl rfl 400 (.reg (rg [.g]) (.reg (v5A l) (.inv [0,1,7,8] [0] 1 (qFS b l y) (qJv b l y) (qGq b l y) (0:Nat) (fun(x1:Nat)=>(.reg (rg [(aB (decide (x1<l.wn)))]) (.br (.reg v00 (.openr (qJj l) (.reg (rg [.g,.g,.g,(.as (v2Y l x1)),(.ld 1 (.tab x1 0)),(.callF [(0,true)] 0 0 (fun _=>(vB (elE l.wf y x1))) (fun _=>[none]))]) (.br v5T (.reg (rg [(aN (x1+1)),.g]) .done))))) v0c)))))) [] [] rfl
  (have f0:=hl.len;have f1:=hy.len;Eq.mp (by kernel_rfl) (aI kV1 (aI (sk (aI (aT (@w01 6 l.wa l.wn l.wc)) kV1)) (aI (show(0≤l.wn)∧(∀k,k<0→elE l.wf y k=false) from by exact⟨by omega,fun k hk=>absurd hk (by omega)⟩) (aI (@rfl St ((qJv b l y) (0:Nat))) (fun(x1:Nat) (hx1:(qFS b l y) x1)=>have B0:x1≤l.wn:=hx1.1;have B1:∀k,k<x1→elE l.wf y k=false:=hx1.2;aI (aI (aT (@w11 8 7  x1 l.wn)) tV) (aT (aI (fun(h1:(decide (x1<l.wn))=true)=>have f4:=(oT h1);aI kV2 (aI (Or.inl (Or.inl ⟨(show 0<l.wn from by omega),rfl⟩):qJF l y (qJj l)) (aI (sK3 (aI (aT (@w21 12 13 l.wb l.wo l.wn l.wc x1 l.wa (hl.ad (show 0<l.wn from by omega)) (show x1<l.wn from by omega))) (aI (aT (aI (show x1<l.wn from by omega) (@rfl Value (v2Y l x1)))) (aI (aT (qAt.mono (jD3 (show x1<l.wn from by omega)) (qAt.darkF [true] (qXe b (l.wf x1) y (hl.el _ (show x1<l.wn from by omega)) hy)))) tV)))) (aT (aI (fun(h2:(elE l.wf y x1)=true)=>aI kV2 (aT (eX (fun(ns:List Nat)=>ns.length=0∧((nat x1):Value)=(fun _=>int (v4o l y)) ns∧([some ⟨b,false,0,(.lit [(qQM y)])⟩]:List (Option Blk))=(fun _=>[some ⟨b,false,0,(.lit [(qQM y)])⟩]) ns) [] (aI v0b (aI ((show(nat x1)=int (qQe (elE l.wf y) l.wn) from by first|exact qTK (by omega) (by assumption) B1|exact qTW (by omega) B1)) (v1J b y)))))) (fun(h2:(elE l.wf y x1)=false)=>aI (aI (aT (@w31 8  x1 1 (show x1+1≤9223372036854775807 from by omega))) kV1) ((rnd (qFS b l y) (qJv b l y) (qGq b l y) x1 (x1+1:Nat) (show(((x1+1)≤l.wn)∧(∀k,k<(x1+1)→elE l.wf y k=false))∧(l.wn-(x1+1))<(l.wn-x1) from by exact⟨⟨by omega,qKu B1 (by assumption)⟩,by omega⟩))))))))) (fun(h1:(decide (x1<l.wn))=false)=>have f4:=(oF h1);aI kV1 (aT (eX (fun(ns:List Nat)=>ns.length=0∧((int (-1)):Value)=(fun _=>int (v4o l y)) ns∧([some ⟨b,false,0,(.lit [(qQM y)])⟩]:List (Option Blk))=(fun _=>[some ⟨b,false,0,(.lit [(qQM y)])⟩]) ns) [] (aI v0b (aI ((show(int (-1))=int (qQe (elE l.wf y) l.wn) from by first|exact qTK (by omega) (by assumption) B1|exact qTW (by omega) B1)) (v1J b y))))))))))))))
def jBf (b:Nat) (l:qA6) (y:BytL) (hl:OkS l) (hy:OkB y):qAt (qJF l y) TP 61 [(Value.slice l.wa l.wn l.wc),(Value.func (.func 62) #[] #[(ptr b 0)])] [⟨b,false,0,(.lit [(Value.slice y.wa y.wn y.wc)])⟩] 0 (fun _=>Value.bool (inB l.wf l.wn y)) (fun _=>[some ⟨b,false,0,(.lit [(Value.slice y.wa y.wn y.wc)])⟩]):=
 qAm (F:=(qJF l y)) mix Tryz.func61 rfl rfl 400 (.reg (rg [.g]) (.reg (rg [.g,.g,(.callF [(0,true)] 0 0 (fun _=>(int (v4o l y))) (fun _=>[none])),.g,.g]) .done)) [] [] rfl
  (have f0:=hl.len;have f1:=hy.len;Eq.mp (by kernel_rfl) (aI kV1 (aI (sK2 (aI (aT (qAt.darkF [true] (jAW b l y hl hy))) kV2)) (aT (eX (fun(ns:List Nat)=>ns.length=0∧((vB (decide (((v4o l y):Int)≥0))):Value)=(fun _=>vB (v4n l y)) ns∧([some ⟨b,false,0,(.lit [(qQM y)])⟩]:List (Option Blk))=(fun _=>[some ⟨b,false,0,(.lit [(qQM y)])⟩]) ns) [] (aI v0b (aI ((show(vB (decide (((v4o l y):Int)≥0)))=vB (v4n l y) from congrArg vB (qZ4 _ _))) (v1J b y))))))))
def qVo (l:qA6) (y:BytL) (hl:OkS l) (hy:OkB y):qAt (qJF l y) TP 40 [(Value.slice l.wa l.wn l.wc),(Value.slice y.wa y.wn y.wc)] [] 0 (fun _=>Value.bool (inB l.wf l.wn y)) (fun _=>[]):=
 qAm (F:=(qJF l y)) mix Tryz.func40 rfl rfl 400 (.regn v0T (more (fun n1=>fun _=>(.reg (rg [.g,.g,(.callF [(0,true)] 0 0 (fun _=>(vB (v4n l y))) (fun _=>[none])),.g]) .done)))) [] [] rfl
  (have f0:=hl.len;have f1:=hy.len;Eq.mp (by kernel_rfl) (fun(n1:Nat)=>aI kV2 (aI (sK2 (aI (aT (qAt.darkF [true] (jBf n1 l y hl hy))) kV1)) (aT (eX (fun(ns:List Nat)=>ns.length=0∧((vB (v4n l y)):Value)=(fun _=>vB (v4n l y)) ns∧([]:List (Option Blk))=(fun _=>[]) ns) [] (aI v0b (aI (@rfl Value (vB (v4n l y))) v2s)))))))
def qGY (l:qA6) (x1:Nat):St:=⟨[(0,.v (v27 l)),(5,.v (v27 l)),(6,.v (nat l.wn)),(7,.v (nat x1))],[],0⟩
def qDY (l:qA6) (x1:Nat):Prop:=(x1≤l.wn)∧(∀k,k<x1→(fun i=>inB l.wf i (l.wf i)) k=false)
def qEf (l:qA6) (x1:Nat):Nat:=l.wn-x1
def w41(a b:Nat):=@qIB TP 22 29 (.tmp a) (.tmp b) (by kernel_rfl) 1 (by kernel_rfl)
def v4u(l:qA6)(x1:Nat):OpH:=.callF [] 0 0 (fun _=>(vB (inB l.wf x1 (l.wf x1)))) (fun _=>[])
def qVt (l:qA6) (hl:OkS l):qAt (qEd l) TP 41 [(Value.slice l.wa l.wn l.wc)] [] 0 (fun _=>Value.bool (twB l.wf l.wn)) (fun _=>[]):=
 qAm (F:=(qEd l)) mix Tryz.func41 rfl rfl 400 (.reg (rg [.g]) (.reg (v5A l) (.inv [0,5,6,7] [] 0 (qDY l) (qGY l) (qEf l) (0:Nat) (fun(x1:Nat)=>(.reg (rg [(aB (decide (x1<l.wn)))]) (.br (.openr (qJj l) (.reg (rg [.g,(.as (v2Y l x1)),(v1I x1),.g,.g]) (.reg (rg [.g,.g,(.as (vS l.wa x1 l.wc)),.g,(v4u l x1)]) (.br v0c (.reg (rg [(aN (x1+1)),.g]) .done))))) v0c)))))) [] [] rfl
  (have f0:l.wn≤l.wc∧l.wn≤9223372036854775807:=⟨hl.cap,hl.len⟩;Eq.mp (by kernel_rfl) (aI kV1 (aI (sk (aI (aT (@w01 5 l.wa l.wn l.wc)) kV1)) (aI (show(0≤l.wn)∧(∀k,k<0→(fun i=>inB l.wf i (l.wf i)) k=false) from by exact⟨by omega,fun k hk=>absurd hk (by omega)⟩) (aI (@rfl St ((qGY l) (0:Nat))) (fun(x1:Nat) (hx1:(qDY l) x1)=>have B0:x1≤l.wn:=hx1.1;have B1:∀k,k<x1→(fun i=>inB l.wf i (l.wf i)) k=false:=hx1.2;aI (aI (aT (@w11 7 6  x1 l.wn)) tV) (aT (aI (fun(h1:(decide (x1<l.wn))=true)=>have f3:=(oT h1);aI (Or.inl ⟨(show 0<l.wn from by omega),rfl⟩:qEd l (qJj l)) (aI (sk (aI (aT (@w21 5 7 l.wb l.wo l.wn l.wc x1 l.wa (hl.ad (show 0<l.wn from by omega)) (show x1<l.wn from by omega))) (aI (aT (aI (show x1<l.wn from by omega) (@rfl Value (v2Y l x1)))) kV2))) (aI (sK2 (aI (aT (@w41 12 13 l.wa l.wn l.wc x1 (show x1≤l.wc from by omega))) (sk (aI (aT (qAt.lendP (F':=qEd l) (jEm (show x1<l.wn from by omega)) (jCX (show x1<l.wn from by omega)) (qVo (jBo l x1) (l.wf x1) (qYJ hl (Nat.le_of_lt (show x1<l.wn from by omega))) (hl.el _ (show x1<l.wn from by omega))))) tV)))) (aT (aI (fun(h2:(inB l.wf x1 (l.wf x1))=true)=>aI kV1 (aT (eX (fun(ns:List Nat)=>ns.length=0∧((vB true):Value)=(fun _=>vB (twB l.wf l.wn)) ns∧([]:List (Option Blk))=(fun _=>[]) ns) [] (aI v0b (aI ((show(vB true)=vB (twB l.wf l.wn) from congrArg vB (by first|exact qJm (by omega) (by assumption)|exact qMT (by omega) B1))) v0f))))) (fun(h2:(inB l.wf x1 (l.wf x1))=false)=>aI (aI (aT (@w31 7  x1 1 (show x1+1≤9223372036854775807 from by omega))) kV1) ((rnd (qDY l) (qGY l) (qEf l) x1 (x1+1:Nat) (show(((x1+1)≤l.wn)∧(∀k,k<(x1+1)→(fun i=>inB l.wf i (l.wf i)) k=false))∧(l.wn-(x1+1))<(l.wn-x1) from by exact⟨⟨by omega,qKu (p:=fun i=>inB l.wf i (l.wf i)) B1 (by assumption)⟩,by omega⟩))))))))) (fun(h1:(decide (x1<l.wn))=false)=>have f3:=(oF h1);aI kV1 (aT (eX (fun(ns:List Nat)=>ns.length=0∧(v1E:Value)=(fun _=>vB (twB l.wf l.wn)) ns∧([]:List (Option Blk))=(fun _=>[]) ns) [] (aI v0b (aI ((show(vB false)=vB (twB l.wf l.wn) from congrArg vB (by first|exact qJm (by omega) (by assumption)|exact qMT (by omega) B1))) v0f)))))))))))))
def qNP:qPQ TP 29 (.slice none 0 0) 24:=qPZ (by kernel_rfl) rfl
def jA1:qWf TP 29 [Value.slice none 0 0] 1 24:=qM2 (z:=.slice none 0 0) (by kernel_rfl) rfl rfl (by decide)
def qXU (r:Nat) (q:BytL) (e m:Int) (hq:OkB q) (hl:q.wn≤100000) (hm:m≤9223372036854775807):qAt (qBi q) TP 38 [ptr r 0,int m] [⟨r,true,0,.lit [qA3 q,int e]⟩] 2 (fun ns=>qA3 (rbV q e m (ns.getD 0 0) (ns.getD 1 0))) (fun ns=>[some ⟨r,true,0,.lit [qA3 (rbQ q e m),int (rbE q e m)]⟩,rbK q e m (ns.getD 0 0) (ns.getD 1 0)]):=by
 by_cases h0:0<rbN q e m
 ·simp only[rbV,rbK,if_pos h0]
  exact qWI r q e m hq hl hm h0
 ·simp only[rbV,rbK,if_neg h0]
  exact qAc.toF (bs:=[⟨r,true,0,.lit [qA3 q,int e]⟩]) ((qXG r q e m hq hl hm h0).toO.as (.refl _) (fun ns=>[ns.getD 0 0,0]) fun ns hns=>⟨rfl,rfl,.cons _ (.dn (.zz _)),⟨rfl,tV⟩⟩)
def jE5 (q:BytL) (hq:OkB q) (hl:q.wn≤140737488355328):qAc (qBi q) TP 36 [qA3 q] [] 3 (fun ns=>ptr (ns.getD 0 0) 0) (fun ns=>[some ⟨ns.getD 0 0,true,0,.lit [gsV (cpG q (ns.getD 1 0) (ns.getD 2 0)),int 0]⟩,gsE u8C [u8 0] 1 (cpG q (ns.getD 1 0) (ns.getD 2 0))]):=by
 rcases Nat.eq_zero_or_pos q.wn with h0|h0
 ·cases hA:q.wa with
  |none=>
   have e1:qA3 q=.slice none 0 q.wc:=by unfold qA3;rw[hA,h0]
   have e2:∀a r,cpG q a r=⟨true,a,0,r,q.wf⟩:=fun a r=>by unfold cpG;rw[hA,h0];rfl
   rw[e1];simp only[e2];exact(jC9 q.wc).toF.toO.as (.zz _) (fun ns=>[ns.getD 0 0,0,0]) fun ns hns=>⟨rfl,rfl,.cons _ (.dn (.zz _)),⟨rfl,tV⟩⟩
  |some A=>
   have e1:qA3 q=.slice (some A) 0 q.wc:=by unfold qA3;rw[hA,h0]
   have e2:∀a r,cpG q a r=⟨false,a,0,r,q.wf⟩:=fun a r=>by unfold cpG;rw[hA,h0];rfl
   rw[e1];simp only[e2,qKI];refine(jEa A q.wc).toF.toO.as (.zz _) (fun ns=>[ns.getD 0 0,ns.getD 1 0,0]) fun ns hns=>⟨rfl,rfl,?_,⟨rfl,rfl,tV⟩⟩
   refine .cons _ ?_;show Sub [some ⟨ns.getD 1 0,true,0,spr (0+0) 0 (fun k=>u8 (q.wf k)) (u8 0)⟩] _
   rw[qRs (n:=0) (f:=fun k=>u8 (q.wf k)) (g:=fun k=>u8 ((fun _=>0:Nat→UInt8) k)) (fun k hk=>absurd hk (Nat.not_lt_zero k))]
   exact .refl _
 ·have e2:∀a r,cpG q a r=⟨false,a,q.wn,r,q.wf⟩:=fun a r=>by unfold cpG;rw[hq.ad h0];rfl
  simp only[e2,qKI];exact(qZJ q hq h0 hl).toO
def qZU {F:Blk→Prop} (r:Nat) (q:BytL) (e v:Int) (he:qUj q.wn e=v):qAc F TP 39 [ptr r 0] [some ⟨r,false,0,.lit [qA3 q,int e]⟩] 0 (fun _=>int v) (fun _=>[none]):=by
 subst he;exact(qTz r q e).toF.toO.as (.refl _) id fun ns hns=>⟨hns,rfl,.dr _ (.zz _),tV⟩
def yz (q:BytL) (a b:Nat):BytL:=uQ (qGX (cpG q a b))
def ez (q:BytL) (a b:Nat):Int:=uE (qGX (cpG q a b))
def uz (q:BytL) (a b:Nat):Nat→BytL×Int:=usS (yz q a b) (ez q a b)
def nz (q:BytL) (a b:Nat):UInt64:=rsV (rsQ (qGX (cpG q a b)) 0 18446744073709551615) (rsE (qGX (cpG q a b)) 0 18446744073709551615) 10
def rz (q:BytL) (a b k c d:Nat):BytL:=rbV (uz q a b k).1 (uz q a b k).2 1000 c d
abbrev gz (q:BytL) (x:Nat×UInt64×Nat×Nat×Nat×Nat) (a b:Nat):Grw BytL:=qAp x.1 (usV (yz q a b) (ez q a b) x.2.2.1 x.2.2.2.1) x.2.2.2.2.1 x.2.2.2.2.2
abbrev kz (q:BytL) (x:Nat×UInt64×Nat×Nat×Nat×Nat) (a b c d:Nat):Nat→BytL:=qAj ((gz q x a b).f) x.1 (fun _=>qOf (qA3 (rz q a b x.1 c d)))
def jGr {F:Blk→Prop} {Q:BytL} {E:Int} {c d k nm r:Nat} (hk:k≤10) (hl:∀i,usN Q E i≤9223372036854775807):qAc F TP 40 [gsV (usL Q E c d k nm r),.slice none 0 0] (usC Q E c d k nm r) 0 (fun _=>.bool (inB (usB Q E) k (qAf none 0))) (fun _=>[none,none]):=by
 rw[←qZd (c:=c) (d:=d) (x:=qAf none 0) rfl fun _ _=>rfl]
 exact qUy hk ((qVo (qTa (usL Q E c d k nm r)) (qAf none 0) (qZw (by omega) hl) qG2).toO.mono fun z hz=>hz.elim id fun h=>absurd h.1 (Nat.lt_irrefl 0))
def twU {F:Blk→Prop} {Q:BytL} {E:Int} {c d k nm r:Nat} (hk:k≤10) (hl:∀i,usN Q E i≤9223372036854775807):qAc F TP 41 [gsV (usL Q E c d k nm r)] (usC Q E c d k nm r) 0 (fun _=>.bool (twB (usB Q E) k)) (fun _=>[none,none]):=by
 rw[←jDg (c:=c) (d:=d)];exact qUy hk (qVt (qTa (usL Q E c d k nm r)) (qZw (by omega) hl)).toO
def jFY {q:BytL} {b:Bool} (h:qA0 (uD q==0) b false=true) (e:b=uB q):unX q=31:=by
 have h2:(uD q==0)=true∧b=true:=by simpa only[qCH,Bool.and_eq_true] using h
 exact jER (by simpa using h2.1) (by rw[←e];exact h2.2)
def jGm {q:BytL} (hn:(!(uD q==0))=true):unX q=uD q∧uD q≠0:=by
 have h:uD q≠0:=by simpa using hn
 exact⟨jE1 h,h⟩
def jF2 {q:BytL} {b:Bool} (h:qA0 (uD q==0) b false=false) (hn:(!(uD q==0))=false) (e:b=uB q):unX q=0:=by
 have h0:uD q=0:=by simpa using hn
 refine jDE h0 ?_;rw[←e];simpa only[qCH,h0,beq_self_eq_true,Bool.true_and] using h
abbrev qYZ (a:BytL) (b c d:Nat):=inB (usB (yz a b c) (ez a b c)) d (qAf none 0)
abbrev jCs (a:BytL) (b:List Nat):=unL a (b.getD 0 0) (b.getD 1 0) (b.getD 2 0) (b.getD 3 0)
abbrev jEr (a:BytL) (b c d:Nat):=Value.slice (((uz a b c (d+1)).1).wa) (((uz a b c (d+1)).1).wn) (((uz a b c (d+1)).1).wc)
abbrev jBg (a:BytL) (b c:Nat):=rsE (qGX (cpG a b c)) 0 18446744073709551615
abbrev jEA (a:BytL) (b:Nat×UInt64×Nat×Nat×Nat×Nat):=qAp (uN a) (usV (uQ a) (uE a) b.2.2.1 b.2.2.2.1) b.2.2.2.2.1 b.2.2.2.2.2
abbrev jB2 (a:BytL) (b c:Nat):=rsV (qGX (cpG a b c)) 0 18446744073709551615
abbrev jGc (a:BytL) (b c d:Nat):=qA0 (((uD a):Int)==0) (qA0 (qYZ a b c d) true (twB (usB (yz a b c) (ez a b c)) d)) false
def qEi (q:BytL) (n1:Nat) (n2:Nat) (n3:Nat) (x1:Nat×UInt64×Nat×Nat×Nat×Nat):St:=⟨[(2,.v (u64 (jB2 q n2 n3))),(3,.v (gsV (gz q x1 n2 n3))),(5,.v (v1M n1)),(11,.v (u64 (nz q n2 n3))),(12,.v (u64 x1.2.1))],[(0,some ⟨n1,true,0,(.lit [(vS (((uz q n2 n3 x1.1).1).wa) (((uz q n2 n3 x1.1).1).wn) (((uz q n2 n3 x1.1).1).wc)),(int ((uz q n2 n3 x1.1).2))])⟩),(1,(gsE u8C [u8 0] 1 (cpG q n2 n3))),(2,(gsE qBN [vS none 0 0] 1 (gz q x1 n2 n3))),(3,(plU (yz q n2 n3) (ez q n2 n3) x1.2.2.1 x1.2.2.2.1 x1.1))],4⟩
def qB9 (q:BytL) (n1:Nat) (n2:Nat) (n3:Nat) (x1:Nat×UInt64×Nat×Nat×Nat×Nat):Prop:=((x1.2.1:UInt64).toNat=x1.1)∧(x1.1≤10)∧(x1.1≤(nz q n2 n3).toNat)
def qBS (q:BytL) (n1:Nat) (n2:Nat) (n3:Nat) (x1:Nat×UInt64×Nat×Nat×Nat×Nat):Nat:=10-x1.1
def w51(a:Nat):=@qBW TP 23 23 (.tmp a) (.const (.int .u64 1))
def v0m(q:BytL)(n2 n3:Nat)(x1:Nat×UInt64×Nat×Nat×Nat×Nat)(n4 n5 n7 n8 n1:Nat):H:=.keep [2,3,5,11,12] [0,1,2,3] 4 (.told ⟨[(2,.v (u64 (jB2 q n2 n3))),(3,.v (gsV (qAp (x1.1+1) (usV (yz q n2 n3) (ez q n2 n3) (qAK x1.2.2.1 x1.1 n4) (qAK x1.2.2.2.1 x1.1 n5)) n7 n8))),(5,.v (ptr n1 0)),(11,.v (u64 (nz q n2 n3))),(12,.v (u64 x1.2.1))],[(0,some ⟨n1,true,0,(.lit [(jEr q n2 n3 x1.1),(int (uz q n2 n3 (x1.1+1)).2)])⟩),(1,(gsE u8C [u8 0] 1 (cpG q n2 n3))),(2,(gsE qBN [vS none 0 0] 1 (qAp (x1.1+1) (usV (yz q n2 n3) (ez q n2 n3) (qAK x1.2.2.1 x1.1 n4) (qAK x1.2.2.2.1 x1.1 n5)) n7 n8))),(3,(plU (yz q n2 n3) (ez q n2 n3) (qAK x1.2.2.1 x1.1 n4) (qAK x1.2.2.2.1 x1.1 n5) (x1.1+1)))],4⟩ (.reg (rg [(aQ (x1.2.1+1)),.g]) .done))
def v0Z(q:BytL)(hq:OkB q)(hl:q.wn≤100000)(n2 n3:Nat):=RdR.small (RdR.small (qDj hq hl n2 n3) 0 18446744073709551615) (jBg q n2 n3) 10
def v3t:=@rfl Nat 4
def v6p:H:=.reg v0P .done
def v73:H:=.keep [4] [] 4 v6p
def qEr (q:BytL) (hq:OkB q) (hl:q.wn≤100000):qAc (qBi q) TP 23 [(Value.slice q.wa q.wn q.wc)] [] 4 (fun ns=>Value.tuple #[u64 (unH q),gsV (unL q (ns.getD 0 0) (ns.getD 1 0) (ns.getD 2 0) (ns.getD 3 0)),int (unX q)]) (fun ns=>[gsE qBN [Value.slice none 0 0] 1 (unL q (ns.getD 0 0) (ns.getD 1 0) (ns.getD 2 0) (ns.getD 3 0)),unP q (ns.getD 0 0) (ns.getD 1 0)]):=
 qAv mix Tryz.func23 rfl rfl 400 (.reg v0F (.regn (rg [.g,(.callO [] 3 2 (fun ns=>ptr (g0 ns) 0) (fun ns=>[some ⟨(g0 ns),true,0,.lit [gsV (cpG q (g1 ns) (g2 ns)),int 0]⟩,(gsE u8C [u8 0] 1 (cpG q (g1 ns) (g2 ns)))])),.g]) (m3 fun n1 n2 n3=>(.reg (rg [.g,(.callO [(0,false),(1,true)] 0 0 (fun _=>(u64 (jB2 q n2 n3))) (fun _=>[some ⟨n1,true,0,.lit [qA3 (rsQ (qGX (cpG q n2 n3)) 0 18446744073709551615),int (jBg q n2 n3)]⟩,none])),.g]) (.keep [0,2,3,4,6,7,5,8,9] [0,1] 4 (.reg (rg [.g,(.callO [(0,false),(1,true)] 0 0 (fun _=>(u64 (nz q n2 n3))) (fun _=>[some ⟨n1,true,0,.lit [qA3 (yz q n2 n3),int (ez q n2 n3)]⟩,none])),.g]) (.inv [2,3,5,11,12] [0,1,2,3] 4 (qB9 q n1 n2 n3) (qEi q n1 n2 n3) (qBS q n1 n2 n3) ((0,0,0,0,0,0):Nat×UInt64×Nat×Nat×Nat×Nat) (fun(x1:Nat×UInt64×Nat×Nat×Nat×Nat)=>(.reg (rg [(aB (decide (x1.2.1<(nz q n2 n3))))]) (.br (.regn (rg [.g,.g,(.callO [(0,false),(1,true)] 2 1 (fun ns=>qA3 (rbV (uz q n2 n3 x1.1).1 (uz q n2 n3 x1.1).2 1000 (g0 ns) (g1 ns))) (fun ns=>[some ⟨n1,true,0,.lit [qA3 (uz q n2 n3 (x1.1+1)).1,int (uz q n2 n3 (x1.1+1)).2]⟩,none,(rbK (uz q n2 n3 x1.1).1 (uz q n2 n3 x1.1).2 1000 (g0 ns) (g1 ns))])),.bsl,(.othOB [(2,false),(5,true)] 2 0 (fun ns=>gsV (Grw.mk false (g0 ns) (x1.1+1) (g1 ns) (qAj (gz q x1 n2 n3).f x1.1 (gz q x1 n2 n3).f))) (fun bs ns=>[(gsE qBN [vS none 0 0] 1 (Grw.mk false (g0 ns) (x1.1+1) (g1 ns) (qAj (gz q x1 n2 n3).f x1.1 (fun _=>qOf (jBj bs 1))))),none])),.g]) (m5 fun n4 n5 n6 n7 n8=>(.both (decide (0<usN (yz q n2 n3) (ez q n2 n3) x1.1)) (.keep [2,3,5,11,12] [0,1,2,3,4] 5 (.told ⟨[(2,.v (u64 (jB2 q n2 n3))),(3,.v (gsV (Grw.mk false n7 (x1.1+1) n8 (kz q x1 n2 n3 n4 n5)))),(5,.v (v1M n1)),(11,.v (u64 (nz q n2 n3))),(12,.v (u64 x1.2.1))],[(0,some ⟨n1,true,0,(.lit [(jEr q n2 n3 x1.1),(int (uz q n2 n3 (x1.1+1)).2)])⟩),(1,(gsE u8C [u8 0] 1 (cpG q n2 n3))),(2,(gsE qBN [vS none 0 0] 1 (Grw.mk false n7 (x1.1+1) n8 (kz q x1 n2 n3 n4 n5)))),(3,(plU (yz q n2 n3) (ez q n2 n3) x1.2.2.1 x1.2.2.2.1 x1.1)),(4,some ⟨n4,true,0,(spr (usN (yz q n2 n3) (ez q n2 n3) x1.1+n5) (usN (yz q n2 n3) (ez q n2 n3) x1.1) (fun k=>u8 (usW (yz q n2 n3) (ez q n2 n3) x1.1 k)) (u8 0))⟩)],5⟩ (.pack 4 3 10 (gU (yz q n2 n3) (ez q n2 n3) (qAK x1.2.2.1 x1.1 n4) (qAK x1.2.2.2.1 x1.1 n5) (x1.1+1)) (v0m q n2 n3 x1 n4 n5 n7 n8 n1)))) (.keep [2,3,5,11,12] [0,1,2,3,4] 5 (.told ⟨[(2,.v (u64 (jB2 q n2 n3))),(3,.v (gsV (Grw.mk false n7 (x1.1+1) n8 (kz q x1 n2 n3 n4 n5)))),(5,.v (v1M n1)),(11,.v (u64 (nz q n2 n3))),(12,.v (u64 x1.2.1))],[(0,some ⟨n1,true,0,(.lit [(jEr q n2 n3 x1.1),(int (uz q n2 n3 (x1.1+1)).2)])⟩),(1,(gsE u8C [u8 0] 1 (cpG q n2 n3))),(2,(gsE qBN [vS none 0 0] 1 (Grw.mk false n7 (x1.1+1) n8 (kz q x1 n2 n3 n4 n5)))),(3,(plU (yz q n2 n3) (ez q n2 n3) x1.2.2.1 x1.2.2.2.1 x1.1)),(4,none)],5⟩ (v0m q n2 n3 x1 n4 n5 n7 n8 n1)))))) (.reg (rg [.g,(.callO [(0,true)] 0 0 (fun _=>(int (uD q))) (fun _=>[none])),.g]) (.reg (rg [.g,.g,.g,(.opt .g),(.opt (.callO [(2,true),(3,true)] 0 0 (fun _=>(vB (qYZ q n2 n3 x1.1))) (fun _=>[none,none]))),(.opt .g),(.opt .g),(.opt (.callO [(2,true),(3,true)] 0 0 (fun _=>(vB (twB (usB (yz q n2 n3) (ez q n2 n3)) x1.1))) (fun _=>[none,none]))),(.opt .pk),.pk]) (.br (.reg (rg [.g]) (.reg v00 (.yes v73))) (.reg v00 (.br v73 (.keep [2,3] [2,3] 4 (.told ⟨[(2,.v (u64 (uH q))),(3,.v (gsV (jEA q x1)))],[(2,(gsE qBN [vS none 0 0] 1 (jEA q x1))),(3,(plU (uQ q) (uE q) x1.2.2.1 x1.2.2.2.1 (uN q)))],4⟩ (.reg (rg [.g,.g,.g,.g,.g]) .done)))))))))))))))))) [] [2,3] rfl
  (Eq.mp (by kernel_rfl) (aI kV3 (fun(n1 n2 n3:Nat)=>aI (sk (aI (aT (jE5 q hq (Nat.le_trans hl (by decide)))) kV1)) (aI (sk (aI (aT (RdR.lend (F:=qBi q) (qDj hq hl n2 n3) (qHk n1 (qGX (cpG q n2 n3)) 0 18446744073709551615 (qDj hq hl n2 n3).ok (qDj hq hl n2 n3).le) (fun _=>⟨rfl,tV⟩))) kV1)) ((aI (sk (aI (aT (RdR.lend (F:=qBi q) (RdR.small (qDj hq hl n2 n3) 0 18446744073709551615) (qHk n1 (rsQ (qGX (cpG q n2 n3)) 0 18446744073709551615) (jBg q n2 n3) 10 (RdR.small (qDj hq hl n2 n3) 0 18446744073709551615).ok (RdR.small (qDj hq hl n2 n3) 0 18446744073709551615).le) (fun _=>⟨rfl,tV⟩))) kV1)) (aI (show((0:UInt64).toNat=0)∧(0≤10)∧(0≤(nz q n2 n3).toNat) from by exact⟨rfl,by decide,Nat.zero_le _⟩) (aI (@rfl St ((qEi q n1 n2 n3) ((0,0,0,0,0,0):Nat×UInt64×Nat×Nat×Nat×Nat))) (fun(x1:Nat×UInt64×Nat×Nat×Nat×Nat) (hx1:(qB9 q n1 n2 n3) x1)=>have B0:(x1.2.1:UInt64).toNat=x1.1:=hx1.1;have B1:x1.1≤10:=hx1.2.1;have B2:x1.1≤(nz q n2 n3).toNat:=hx1.2.2;aI (aI (aT (@qKz TP 23 23 (.tmp 12) (.tmp 11) x1.2.1 (nz q n2 n3))) tV) (aT (aI (fun(h1:(decide (x1.2.1<(nz q n2 n3)))=true)=>have f4:=(oT h1);fun(n4 n5 n6 n7 n8:Nat)=>aI (sK2 (aI (aT (RdR.lend (F:=qBi q) (RdR.us (v0Z q hq hl n2 n3) (ez q n2 n3) x1.1) (qXU n1 (uz q n2 n3 x1.1).1 (uz q n2 n3 x1.1).2 1000 (RdR.us (v0Z q hq hl n2 n3) (ez q n2 n3) x1.1).ok (RdR.us (v0Z q hq hl n2 n3) (ez q n2 n3) x1.1).le (by decide)) (fun _=>⟨rfl,jA5⟩))) (aI (aT (qAO (P:=TP) (t:=22) (e:=29) qNP 1 #[(0,(qA3 (rz q n2 n3 x1.1 n4 n5)))] #[(qA3 (rz q n2 n3 x1.1 n4 n5))] (by kernel_rfl) (by decide) (by kernel_rfl))) (aI (aT (qF4 (P:=TP) (t:=22) (ty:=22) (e:=29) (by kernel_rfl) jA1 (gz q x1 n2 n3) (qBG _ _ _ _) qP2 (fun _=>(qOf (qA3 (rz q n2 n3 x1.1 n4 n5)))) 1 (some ⟨n6,0,none⟩) 1 (some ⟨n6,false,0,(.lit [(qA3 (rz q n2 n3 x1.1 n4 n5))])⟩) (fun _=>⟨_,_,_,_,rfl,rfl,(qJM (sz:=1) (l:=qBN (qOf (qA3 (rz q n2 n3 x1.1 n4 n5)))) rfl)⟩) (show(x1.1+1)*24≤140737488355328∧x1.1+1≤9223372036854775807 from by omega))) kV1)))) (aI (fun(h2:(decide (0<usN (yz q n2 n3) (ez q n2 n3) x1.1))=true)=>have f5:=(oT h2);aI (show(⟨[(2,.v (u64 (rsV (qGX (cpG q n2 n3)) 0 18446744073709551615))),(3,.v (gsV (Grw.mk false n7 (x1.1+1) n8 (kz q x1 n2 n3 n4 n5)))),(5,.v (ptr n1 0)),(11,.v (u64 (nz q n2 n3))),(12,.v (u64 x1.2.1))],[(0,some ⟨n1,true,0,(.lit [(vS ((uz q n2 n3 (x1.1+1)).1).wa ((uz q n2 n3 (x1.1+1)).1).wn ((uz q n2 n3 (x1.1+1)).1).wc),(int (uz q n2 n3 (x1.1+1)).2)])⟩),(1,(gsE u8C [u8 0] 1 (cpG q n2 n3))),(2,(gsE qBN [vS none 0 0] 1 (Grw.mk false n7 (x1.1+1) n8 (kz q x1 n2 n3 n4 n5)))),(3,(plU (yz q n2 n3) (ez q n2 n3) x1.2.2.1 x1.2.2.2.1 x1.1)),(4,(rbK (uz q n2 n3 x1.1).1 (uz q n2 n3 x1.1).2 1000 n4 n5))],5⟩:St)=⟨[(2,.v (u64 (rsV (qGX (cpG q n2 n3)) 0 18446744073709551615))),(3,.v (gsV (Grw.mk false n7 (x1.1+1) n8 (kz q x1 n2 n3 n4 n5)))),(5,.v (ptr n1 0)),(11,.v (u64 (nz q n2 n3))),(12,.v (u64 x1.2.1))],[(0,some ⟨n1,true,0,(.lit [(vS ((uz q n2 n3 (x1.1+1)).1).wa ((uz q n2 n3 (x1.1+1)).1).wn ((uz q n2 n3 (x1.1+1)).1).wc),(int (uz q n2 n3 (x1.1+1)).2)])⟩),(1,(gsE u8C [u8 0] 1 (cpG q n2 n3))),(2,(gsE qBN [vS none 0 0] 1 (Grw.mk false n7 (x1.1+1) n8 (kz q x1 n2 n3 n4 n5)))),(3,(plU (yz q n2 n3) (ez q n2 n3) x1.2.2.1 x1.2.2.2.1 x1.1)),(4,some ⟨n4,true,0,(spr (usN (yz q n2 n3) (ez q n2 n3) x1.1+n5) (usN (yz q n2 n3) (ez q n2 n3) x1.1) (fun k=>u8 (usW (yz q n2 n3) (ez q n2 n3) x1.1 k)) (u8 0))⟩)],5⟩ from by(try unfold kz);(try unfold qA3);unfold rz uz;rw[jBP (Q:=(yz q n2 n3)) (E:=(ez q n2 n3)) (k:=x1.1) (oT h2)]) (aI (jCJ (Q:=(yz q n2 n3)) (E:=(ez q n2 n3)) (c:=x1.2.2.1) (d:=x1.2.2.2.1) (k:=x1.1) (n1:=n4) (n2:=n5) (oT h2)) (aI (show(⟨[(2,.v (u64 (rsV (qGX (cpG q n2 n3)) 0 18446744073709551615))),(3,.v (gsV (Grw.mk false n7 (x1.1+1) n8 (kz q x1 n2 n3 n4 n5)))),(5,.v (ptr n1 0)),(11,.v (u64 (nz q n2 n3))),(12,.v (u64 x1.2.1))],[(0,some ⟨n1,true,0,(.lit [(vS ((uz q n2 n3 (x1.1+1)).1).wa ((uz q n2 n3 (x1.1+1)).1).wn ((uz q n2 n3 (x1.1+1)).1).wc),(int (uz q n2 n3 (x1.1+1)).2)])⟩),(1,(gsE u8C [u8 0] 1 (cpG q n2 n3))),(2,(gsE qBN [vS none 0 0] 1 (Grw.mk false n7 (x1.1+1) n8 (kz q x1 n2 n3 n4 n5)))),(3,some ⟨n4,true,0,.pile 10 (gU (yz q n2 n3) (ez q n2 n3) (qAK x1.2.2.1 x1.1 n4) (qAK x1.2.2.2.1 x1.1 n5) (x1.1+1))⟩)],4⟩:St)=⟨[(2,.v (u64 (rsV (qGX (cpG q n2 n3)) 0 18446744073709551615))),(3,.v (gsV (qAp (x1.1+1) (usV (yz q n2 n3) (ez q n2 n3) (qAK x1.2.2.1 x1.1 n4) (qAK x1.2.2.2.1 x1.1 n5)) n7 n8))),(5,.v (ptr n1 0)),(11,.v (u64 (nz q n2 n3))),(12,.v (u64 x1.2.1))],[(0,some ⟨n1,true,0,(.lit [(vS ((uz q n2 n3 (x1.1+1)).1).wa ((uz q n2 n3 (x1.1+1)).1).wn ((uz q n2 n3 (x1.1+1)).1).wc),(int (uz q n2 n3 (x1.1+1)).2)])⟩),(1,(gsE u8C [u8 0] 1 (cpG q n2 n3))),(2,(gsE qBN [vS none 0 0] 1 (qAp (x1.1+1) (usV (yz q n2 n3) (ez q n2 n3) (qAK x1.2.2.1 x1.1 n4) (qAK x1.2.2.2.1 x1.1 n5)) n7 n8))),(3,(plU (yz q n2 n3) (ez q n2 n3) (qAK x1.2.2.1 x1.1 n4) (qAK x1.2.2.2.1 x1.1 n5) (x1.1+1)))],4⟩ from by rw[qZH (Q:=(yz q n2 n3)) (E:=(ez q n2 n3)) (c:=x1.2.2.1) (d:=x1.2.2.2.1) (k:=x1.1) (n1:=n4) (n2:=n5) (oT h2),(qQE (Q:=(yz q n2 n3)) (E:=(ez q n2 n3)) (c:=x1.2.2.1) (d:=x1.2.2.2.1) (k:=x1.1) (n1:=n4) (n2:=n5) (A:=Grw.mk false n7 (x1.1+1) n8 (kz q x1 n2 n3 n4 n5)) rfl rfl rfl).1,(qQE (Q:=(yz q n2 n3)) (E:=(ez q n2 n3)) (c:=x1.2.2.1) (d:=x1.2.2.2.1) (k:=x1.1) (n1:=n4) (n2:=n5) (A:=Grw.mk false n7 (x1.1+1) n8 (kz q x1 n2 n3 n4 n5)) rfl rfl rfl).2]) (aI (aI (aT (@w51 12 x1.2.1 1)) kV1) ((rnd (qB9 q n1 n2 n3) (qEi q n1 n2 n3) (qBS q n1 n2 n3) x1 ((x1.1+1,(x1.2.1+1),(qAK x1.2.2.1 x1.1 n4),(qAK x1.2.2.2.1 x1.1 n5),n7,n8):Nat×UInt64×Nat×Nat×Nat×Nat) (show((((x1.2.1+1):UInt64).toNat=(x1.1+1))∧((x1.1+1)≤10)∧((x1.1+1)≤(nz q n2 n3).toNat))∧(10-(x1.1+1))<(10-x1.1) from by have h1:=qRt B0 h1;have h2:(nz q n2 n3).toNat≤10:=qVP _ _ 10;exact⟨⟨h1.1,by omega,by omega⟩,by omega⟩))))))) (fun(h2:(decide (0<usN (yz q n2 n3) (ez q n2 n3) x1.1))=false)=>have f5:=(oF h2);aI (show(⟨[(2,.v (u64 (rsV (qGX (cpG q n2 n3)) 0 18446744073709551615))),(3,.v (gsV (Grw.mk false n7 (x1.1+1) n8 (kz q x1 n2 n3 n4 n5)))),(5,.v (ptr n1 0)),(11,.v (u64 (nz q n2 n3))),(12,.v (u64 x1.2.1))],[(0,some ⟨n1,true,0,(.lit [(vS ((uz q n2 n3 (x1.1+1)).1).wa ((uz q n2 n3 (x1.1+1)).1).wn ((uz q n2 n3 (x1.1+1)).1).wc),(int (uz q n2 n3 (x1.1+1)).2)])⟩),(1,(gsE u8C [u8 0] 1 (cpG q n2 n3))),(2,(gsE qBN [vS none 0 0] 1 (Grw.mk false n7 (x1.1+1) n8 (kz q x1 n2 n3 n4 n5)))),(3,(plU (yz q n2 n3) (ez q n2 n3) x1.2.2.1 x1.2.2.2.1 x1.1)),(4,(rbK (uz q n2 n3 x1.1).1 (uz q n2 n3 x1.1).2 1000 n4 n5))],5⟩:St)=⟨[(2,.v (u64 (rsV (qGX (cpG q n2 n3)) 0 18446744073709551615))),(3,.v (gsV (Grw.mk false n7 (x1.1+1) n8 (kz q x1 n2 n3 n4 n5)))),(5,.v (ptr n1 0)),(11,.v (u64 (nz q n2 n3))),(12,.v (u64 x1.2.1))],[(0,some ⟨n1,true,0,(.lit [(vS ((uz q n2 n3 (x1.1+1)).1).wa ((uz q n2 n3 (x1.1+1)).1).wn ((uz q n2 n3 (x1.1+1)).1).wc),(int (uz q n2 n3 (x1.1+1)).2)])⟩),(1,(gsE u8C [u8 0] 1 (cpG q n2 n3))),(2,(gsE qBN [vS none 0 0] 1 (Grw.mk false n7 (x1.1+1) n8 (kz q x1 n2 n3 n4 n5)))),(3,(plU (yz q n2 n3) (ez q n2 n3) x1.2.2.1 x1.2.2.2.1 x1.1)),(4,none)],5⟩ from by(try unfold kz);(try unfold qA3);unfold rz uz;rw[jDt (Q:=(yz q n2 n3)) (E:=(ez q n2 n3)) (k:=x1.1) (oF h2)]) (aI (show(⟨[(2,.v (u64 (rsV (qGX (cpG q n2 n3)) 0 18446744073709551615))),(3,.v (gsV (Grw.mk false n7 (x1.1+1) n8 (kz q x1 n2 n3 n4 n5)))),(5,.v (ptr n1 0)),(11,.v (u64 (nz q n2 n3))),(12,.v (u64 x1.2.1))],[(0,some ⟨n1,true,0,(.lit [(vS ((uz q n2 n3 (x1.1+1)).1).wa ((uz q n2 n3 (x1.1+1)).1).wn ((uz q n2 n3 (x1.1+1)).1).wc),(int (uz q n2 n3 (x1.1+1)).2)])⟩),(1,(gsE u8C [u8 0] 1 (cpG q n2 n3))),(2,(gsE qBN [vS none 0 0] 1 (Grw.mk false n7 (x1.1+1) n8 (kz q x1 n2 n3 n4 n5)))),(3,(plU (yz q n2 n3) (ez q n2 n3) x1.2.2.1 x1.2.2.2.1 x1.1))],4⟩:St)=⟨[(2,.v (u64 (rsV (qGX (cpG q n2 n3)) 0 18446744073709551615))),(3,.v (gsV (qAp (x1.1+1) (usV (yz q n2 n3) (ez q n2 n3) (qAK x1.2.2.1 x1.1 n4) (qAK x1.2.2.2.1 x1.1 n5)) n7 n8))),(5,.v (ptr n1 0)),(11,.v (u64 (nz q n2 n3))),(12,.v (u64 x1.2.1))],[(0,some ⟨n1,true,0,(.lit [(vS ((uz q n2 n3 (x1.1+1)).1).wa ((uz q n2 n3 (x1.1+1)).1).wn ((uz q n2 n3 (x1.1+1)).1).wc),(int (uz q n2 n3 (x1.1+1)).2)])⟩),(1,(gsE u8C [u8 0] 1 (cpG q n2 n3))),(2,(gsE qBN [vS none 0 0] 1 (qAp (x1.1+1) (usV (yz q n2 n3) (ez q n2 n3) (qAK x1.2.2.1 x1.1 n4) (qAK x1.2.2.2.1 x1.1 n5)) n7 n8))),(3,(plU (yz q n2 n3) (ez q n2 n3) (qAK x1.2.2.1 x1.1 n4) (qAK x1.2.2.2.1 x1.1 n5) (x1.1+1)))],4⟩ from by rw[jEn (Q:=(yz q n2 n3)) (E:=(ez q n2 n3)) (c:=x1.2.2.1) (d:=x1.2.2.2.1) (k:=x1.1) (n1:=n4) (n2:=n5) (oF h2),(qQE (Q:=(yz q n2 n3)) (E:=(ez q n2 n3)) (c:=x1.2.2.1) (d:=x1.2.2.2.1) (k:=x1.1) (n1:=n4) (n2:=n5) (A:=Grw.mk false n7 (x1.1+1) n8 (kz q x1 n2 n3 n4 n5)) rfl rfl rfl).1,(qQE (Q:=(yz q n2 n3)) (E:=(ez q n2 n3)) (c:=x1.2.2.1) (d:=x1.2.2.2.1) (k:=x1.1) (n1:=n4) (n2:=n5) (A:=Grw.mk false n7 (x1.1+1) n8 (kz q x1 n2 n3 n4 n5)) rfl rfl rfl).2]) (aI (aI (aT (@w51 12 x1.2.1 1)) kV1) ((rnd (qB9 q n1 n2 n3) (qEi q n1 n2 n3) (qBS q n1 n2 n3) x1 ((x1.1+1,(x1.2.1+1),(qAK x1.2.2.1 x1.1 n4),(qAK x1.2.2.2.1 x1.1 n5),n7,n8):Nat×UInt64×Nat×Nat×Nat×Nat) (show((((x1.2.1+1):UInt64).toNat=(x1.1+1))∧((x1.1+1)≤10)∧((x1.1+1)≤(nz q n2 n3).toNat))∧(10-(x1.1+1))<(10-x1.1) from by have h1:=qRt B0 h1;have h2:(nz q n2 n3).toNat≤10:=qVP _ _ 10;exact⟨⟨h1.1,by omega,by omega⟩,by omega⟩)))))))) (fun(h1:(decide (x1.2.1<(nz q n2 n3)))=false)=>have f4:=(oF h1);aI (sk (aI (aT (qZU (F:=qBi q) n1 (uz q n2 n3 x1.1).1 (uz q n2 n3 x1.1).2 (uD q) (by have e:x1.1=uN (qGX (cpG q n2 n3)):=qJW B0 B2 h1;rw[e];exact(qF0 hq n2 n3).uD))) kV1)) (aI (sK3 (aI (fun(hg:(sB (((uD q):Int)==0) true)=true)=>t2) (aI (fun(hg:(sB (((uD q):Int)==0) true)=true)=>have f5:(((uD q):Int)==0)=true:=(qAr hg);(aI (aI hg tV) (jGr (F:=qBi q) (Q:=(yz q n2 n3)) (E:=(ez q n2 n3)) (c:=x1.2.2.1) (d:=x1.2.2.2.1) (k:=x1.1) (nm:=x1.2.2.2.2.1) (r:=x1.2.2.2.2.2) B1 (fun i=>Nat.le_trans (qUM (v0Z q hq hl n2 n3) (ez q n2 n3) i) (by decide))))) (aI (fun(hg:(sB (((uD q):Int)==0) true)=true)=>(aI (aI hg tV) tV)) (aI (fun(hg:(qA0 (sB (((uD q):Int)==0) true) (sB (qYZ q n2 n3 x1.1) false) false)=true)=>t2) (aI (fun(hg:(qA0 (sB (((uD q):Int)==0) true) (sB (qYZ q n2 n3 x1.1) false) false)=true)=>have f5:(((uD q):Int)==0)=true:=(qAr (jBa hg));have f6:(qYZ q n2 n3 x1.1)=false:=(qAP (jAx hg));(aI (aI hg tV) (twU (F:=qBi q) (Q:=(yz q n2 n3)) (E:=(ez q n2 n3)) (c:=x1.2.2.1) (d:=x1.2.2.2.1) (k:=x1.1) (nm:=x1.2.2.2.2.1) (r:=x1.2.2.2.2.2) B1 (fun i=>Nat.le_trans (qUM (v0Z q hq hl n2 n3) (ez q n2 n3) i) (by decide))))) (aI (fun(hg:(sB (((uD q):Int)==0) true)=true)=>(aI hg (aI (fun(_:(qYZ q n2 n3 x1.1)=true)=>tV) (fun(hp:(qYZ q n2 n3 x1.1)=false)=>(jAt hg (qAS hp)))))) (aI (aT (aI (fun(hp:(((uD q):Int)==0)=true)=>(qBz hp)) (fun(_:(((uD q):Int)==0)=false)=>tV))) tV)))))))) (aT (aI (fun(h3:(jGc q n2 n3 x1.1)=true)=>have f5:(((uD q):Int)==0)=true:=(qB6 h3);have f6:((qYZ q n2 n3 x1.1)=true)∨((twB (usB (yz q n2 n3) (ez q n2 n3)) x1.1)=true):=(Or.imp (fun h=>h) (fun h=>h) (qG9 (qCr h3)));aI kV1 (aI kV2 (aT (aI v01 ((aI kV4 (aT (eX (fun(ns:List Nat)=>ns.length=4∧((vT #[(u64 0),v1l,(int 31)]):Value)=(fun ns=>vT #[u64 (unH q),gsV (jCs q ns),int (unX q)]) ns∧([none,none]:List (Option Blk))=(fun ns=>[gsE qBN [vS none 0 0] 1 (jCs q ns),unP q (g0 ns) (g1 ns)]) ns) [0,0,0,0] (aI v3t (aI ((show((vT #[(u64 0),(vS none 0 0),(int 31)]):Value)=vT #[u64 (unH q),gsV (unL q 0 0 0 0),int (unX q)] from by have e:x1.1=uN (qGX (cpG q n2 n3)):=qJW B0 B2 h1;have eX:=jFY h3 (by rw[e];exact(qF0 hq n2 n3).uB);have eN:=qWT (q:=q) (by rw[eX];decide);rw[eX,eN.1,eN.2.1]<;>rfl)) ((show([none,none]:List (Option Blk))=[gsE qBN [vS none 0 0] 1 (unL q 0 0 0 0),unP q 0 0] from by have e:x1.1=uN (qGX (cpG q n2 n3)):=qJW B0 B2 h1;have eX:=jFY h3 (by rw[e];exact(qF0 hq n2 n3).uB);have eN:=qWT (q:=q) (by rw[eX];decide);rw[eN.2.1,eN.2.2]<;>rfl)))))))))))) (fun(h3:(jGc q n2 n3 x1.1)=false)=>aI kV2 (aT (aI (fun(h4:(((uD q):Int)!=0)=true)=>(aI kV4 (aT (eX (fun(ns:List Nat)=>ns.length=4∧((vT #[(u64 0),v1l,(int (uD q))]):Value)=(fun ns=>vT #[u64 (unH q),gsV (jCs q ns),int (unX q)]) ns∧([none,none]:List (Option Blk))=(fun ns=>[gsE qBN [vS none 0 0] 1 (jCs q ns),unP q (g0 ns) (g1 ns)]) ns) [0,0,0,0] (aI v3t (aI ((show((vT #[(u64 0),(vS none 0 0),(int (uD q))]):Value)=vT #[u64 (unH q),gsV (unL q 0 0 0 0),int (unX q)] from by have eZ:=jGm h4;have eX:=eZ.1;have eN:=qWT (q:=q) (by rw[eX];exact eZ.2);rw[eX,eN.1,eN.2.1]<;>rfl)) ((show([none,none]:List (Option Blk))=[gsE qBN [vS none 0 0] 1 (unL q 0 0 0 0),unP q 0 0] from by have eZ:=jGm h4;have eX:=eZ.1;have eN:=qWT (q:=q) (by rw[eX];exact eZ.2);rw[eN.2.1,eN.2.2]<;>rfl)))))))) (fun(h4:(((uD q):Int)!=0)=false)=>aI (show(⟨[(2,.v (u64 (rsV (qGX (cpG q n2 n3)) 0 18446744073709551615))),(3,.v (gsV (gz q x1 n2 n3)))],[(2,(gsE qBN [vS none 0 0] 1 (gz q x1 n2 n3))),(3,(plU (yz q n2 n3) (ez q n2 n3) x1.2.2.1 x1.2.2.2.1 x1.1))],4⟩:St)=⟨[(2,.v (u64 (uH q))),(3,.v (gsV (qAp (uN q) (usV (uQ q) (uE q) x1.2.2.1 x1.2.2.2.1) x1.2.2.2.2.1 x1.2.2.2.2.2)))],[(2,(gsE qBN [vS none 0 0] 1 (qAp (uN q) (usV (uQ q) (uE q) x1.2.2.1 x1.2.2.2.1) x1.2.2.2.2.1 x1.2.2.2.2.2))),(3,(plU (uQ q) (uE q) x1.2.2.1 x1.2.2.2.1 (uN q)))],4⟩ from by have e:x1.1=uN (qGX (cpG q n2 n3)):=qJW B0 B2 h1;have a0:=(qF0 hq n2 n3).uN;have a1:rsV (qGX (cpG q n2 n3)) 0 18446744073709551615=uH q:=(qF0 hq n2 n3).uH;have a2:usV (yz q n2 n3) (ez q n2 n3) x1.2.2.1 x1.2.2.2.1=usV (uQ q) (uE q) x1.2.2.1 x1.2.2.2.1:=jBX hq n2 n3 x1.2.2.1 x1.2.2.2.1;have a3:plU (yz q n2 n3) (ez q n2 n3) x1.2.2.1 x1.2.2.2.1 (uN q)=plU (uQ q) (uE q) x1.2.2.1 x1.2.2.2.1 (uN q):=qZK hq n2 n3 x1.2.2.1 x1.2.2.2.1 _;unfold gz;rw[e,a0,a1,a2,a3]) (aI (sk kV4) (aT (eX (fun(ns:List Nat)=>ns.length=4∧((vT #[(u64 (uH q)),(gsV (jEA q x1)),(int 0)]):Value)=(fun ns=>vT #[u64 (unH q),gsV (jCs q ns),int (unX q)]) ns∧([(gsE qBN [vS none 0 0] 1 (jEA q x1)),(plU (uQ q) (uE q) x1.2.2.1 x1.2.2.2.1 (uN q))]:List (Option Blk))=(fun ns=>[gsE qBN [vS none 0 0] 1 (jCs q ns),unP q (g0 ns) (g1 ns)]) ns) [x1.2.2.1,x1.2.2.2.1,x1.2.2.2.2.1,x1.2.2.2.2.2] (aI v3t (aI ((show((vT #[(u64 (uH q)),(gsV (qAp (uN q) (usV (uQ q) (uE q) x1.2.2.1 x1.2.2.2.1) x1.2.2.2.2.1 x1.2.2.2.2.2)),(int 0)]):Value)=vT #[u64 (unH q),gsV (unL q x1.2.2.1 x1.2.2.2.1 x1.2.2.2.2.1 x1.2.2.2.2.2),int (unX q)] from by have e:x1.1=uN (qGX (cpG q n2 n3)):=qJW B0 B2 h1;have eX:=jF2 h3 h4 (by rw[e];exact(qF0 hq n2 n3).uB);have eY:=qUf eX;rw[eX,eY.1,eY.2.1])) ((show([(gsE qBN [vS none 0 0] 1 (qAp (uN q) (usV (uQ q) (uE q) x1.2.2.1 x1.2.2.2.1) x1.2.2.2.2.1 x1.2.2.2.2.2)),(plU (uQ q) (uE q) x1.2.2.1 x1.2.2.2.1 (uN q))]:List (Option Blk))=[gsE qBN [vS none 0 0] 1 (unL q x1.2.2.1 x1.2.2.2.1 x1.2.2.2.2.1 x1.2.2.2.2.2),unP q x1.2.2.1 x1.2.2.2.1] from by have e:x1.1=uN (qGX (cpG q n2 n3)):=qJW B0 B2 h1;have eX:=jF2 h3 h4 (by rw[e];exact(qF0 hq n2 n3).uB);have eY:=qUf eX;rw[eY.2.1,eY.2.2]))))))))))))))))))))))))))
end Go.Proofs.YtmdpendnbkajdaaGreatDoor
end
section
namespace Go.Eng
structure RlR (Q:BytL) (B:BytL) (a:Nat) (E:Int):Prop where
 le:a≤B.wn
 n:E=0→Q.wn=B.wn-a
 f:E=0→∀k,Q.wf k=B.wf (k+a)
section
variable {B Q:BytL} {E:Int} {a:Nat} {l:UInt64}
end
attribute [local irreducible] smN smB byN byB rsQ rsE rsV rbQ rbE rbN ctQ
section
variable {h:UInt64} {n:Nat} {e:Nat→BytL}
theorem qHl {i:Nat}:∀j,i≤j→pkL h n e i≤pkL h n e j
 |0,hj=>by rw[show i=0 by omega];exact Nat.le_refl _
 |j+1,hj=>by
  by_cases h1:i=j+1
  ·rw[h1];exact Nat.le_refl _
  ·have:=qHl (i:=i) j (by omega)
   show _≤pkL h n e j+byN (e j).wn;omega
theorem qKy {i:Nat}:∀j,i≤j→∀k,k<pkL h n e i→pkF h n e j k=pkF h n e i k
 |0,hj,k,hk=>by rw[show i=0 by omega]
 |j+1,hj,k,hk=>by
  by_cases h1:i=j+1
  ·rw[h1]
  ·have h2:=qKy (i:=i) j (by omega) k hk
   have h3:=qHl (h:=h) (n:=n) (e:=e) (i:=i) j (by omega)
   show qAj (pkF h n e j) (pkL h n e j) (byB (e j).wf (e j).wn) k=_;unfold qAj;rw[if_pos (by omega)];exact h2
theorem jDW {i M:Nat} (hi:i<M) {k:Nat} (hk:k<byN (e i).wn):pkF h n e M (pkL h n e i+k)=byB (e i).wf (e i).wn k:=by
 rw[qKy (i:=i+1) M hi _ (by show _ <pkL h n e i+byN (e i).wn;omega)]
 show qAj (pkF h n e i) (pkL h n e i) (byB (e i).wf (e i).wn) _=_;unfold qAj;rw[if_neg (by omega),show pkL h n e i+k-pkL h n e i=k by omega]
theorem jAN {M k:Nat} (hk:k<smN h):pkF h n e M k=smB h k:=by
 rw[qKy (i:=0) M (Nat.zero_le _) _ (by show k<smN h+smN (UInt64.ofNat n);omega)]
 show qAj (smB h) (smN h) _ k=_;unfold qAj;rw[if_pos hk]
theorem jAa {M k:Nat} (hk:k<smN (UInt64.ofNat n)):pkF h n e M (smN h+k)=smB (UInt64.ofNat n) k:=by
 rw[qKy (i:=0) M (Nat.zero_le _) _ (by show _ <smN h+smN (UInt64.ofNat n);omega)]
 show qAj (smB h) (smN h) (smB (UInt64.ofNat n)) _=_;unfold qAj;rw[if_neg (by omega),show smN h+k-smN h=k by omega]
end
def FwU (g:Nat→UInt8) (T L:Nat) (Q:BytL) (E:Int) (p:Nat):Prop:=(E=0∧Q.wn+p=L∧∀k,k<Q.wn→p+k<T→Q.wf k=g (p+k))∨(E=3∧L<p)
def FwU.next {g:Nat→UInt8} {T L p m:Nat} {Q Q':BytL} {E E':Int} {V:Prop} {b:Nat→UInt8} (h:FwU g T L Q E p) (hp:p+m≤T) (hb:∀k,k<m→g (p+k)=b k)
  (h0:E=0→At Q m b→FwS Q Q' E' m V) (h3:E≠0→E'=E):FwU g T L Q' E' (p+m)∧(p+m≤L→V):=by
 rcases h with⟨e0,e1,e2⟩|⟨e3,e4⟩
 ·have hat:At Q m b:=fun k hk hq=>by rw[e2 k hq (by omega)];exact hb k hk
  rcases h0 e0 hat with⟨a1,a2,a3,a4,a5⟩|⟨a1,a2⟩
  ·exact⟨.inl ⟨a2,by omega,fun k hk hT=>by rw[a4,e2 _ (by omega) (by omega),Nat.add_assoc]⟩,fun _=>a5⟩
  ·exact⟨.inr ⟨a2,by omega⟩,fun hL=>by omega⟩
 ·have:=h3 (by rw[e3];decide)
  exact⟨.inr ⟨by rw[this,e3],by omega⟩,fun hL=>by omega⟩
section
variable {h:UInt64} {n L:Nat} {e:Nat→BytL} {q:BytL}
theorem qSr (x:UInt64):¬(18446744073709551615:UInt64)<x:=fun hlt=>by
 rw[UInt64.lt_iff_toNat_lt] at hlt;have h1:=x.toNat_lt;have h2:(18446744073709551615:UInt64).toNat=18446744073709551615:=rfl;omega
theorem qSB {n:Nat} (hn:n≤10):¬(10:UInt64)<UInt64.ofNat n:=fun hlt=>by
 rw[UInt64.lt_iff_toNat_lt,UInt64.toNat_ofNat'] at hlt;have h2:(10:UInt64).toNat=10:=rfl;omega
theorem qZR (hn:n≤10) (hL:q.wn=L) (hq:∀k,k<q.wn→k<pkL h n e n→q.wf k=pkF h n e n k):
  FwU (pkF h n e n) (pkL h n e n) L (uQ q) (uE q) (pkL h n e 0)∧(pkL h n e 0≤L→uH q=h∧uNn q=UInt64.ofNat n)∧(uE q≠0→uNn q=0):=by
 have hT:pkL h n e 0≤pkL h n e n:=qHl n (Nat.zero_le _);have e0:pkL h n e 0=smN h+smN (UInt64.ofNat n):=rfl;have h0:FwU (pkF h n e n) (pkL h n e n) L q 0 0:=.inl ⟨rfl,by omega,fun k hk hk2=>by rw[Nat.zero_add] at hk2 ⊢;exact hq k hk hk2⟩
 have h1:=h0.next (m:=smN h) (b:=smB h) (Q':=rsQ q 0 18446744073709551615) (E':=rsE q 0 18446744073709551615) (V:=rsV q 0 18446744073709551615=h) (by omega) (fun k hk=>by rw[Nat.zero_add];exact jAN hk) (fun _ hat=>qNw hat (qSr h)) (fun h3=>absurd rfl h3)
 rw[Nat.zero_add] at h1;have h2:=h1.1.next (m:=smN (UInt64.ofNat n)) (b:=smB (UInt64.ofNat n)) (Q':=uQ q) (E':=uE q) (V:=uNn q=UInt64.ofNat n) (by omega) (fun k hk=>jAa hk) (fun ez hat=>by
  unfold uQ uE uNn;rw[ez];exact qNw hat (qSB hn)) (fun h3=>(qJC h3).1)
 refine⟨h2.1,fun hl=>⟨h1.2 (by omega),h2.2 (by omega)⟩,fun hE=>(qRI hE).2⟩
theorem qUB (hs:∀i,i<n→(e i).wn≤1000) {Q:BytL} {E:Int} (h0:FwU (pkF h n e n) (pkL h n e n) L Q E (pkL h n e 0)):∀k,k≤n→
  FwU (pkF h n e n) (pkL h n e n) L (usS Q E k).1 (usS Q E k).2 (pkL h n e k)∧∀i,i<k→pkL h n e (i+1)≤L→usN Q E i=(e i).wn∧∀j,j<(e i).wn→usW Q E i j=(e i).wf j
 |0,_=>⟨h0,fun i hi=>absurd hi (Nat.not_lt_zero i)⟩
 |k+1,hk=>by
  obtain⟨a,b⟩:=qUB hs h0 k (by omega)
  have hT:pkL h n e (k+1)≤pkL h n e n:=qHl n hk;have hs':=hs k (by omega)
  have h1:=a.next (m:=byN (e k).wn) (b:=byB (e k).wf (e k).wn) (Q':=(usS Q E (k+1)).1) (E':=(usS Q E (k+1)).2) (V:=usN Q E k=(e k).wn∧∀j,j<(e k).wn→usW Q E k j=(e k).wf j) hT (fun j hj=>jDW (by omega) hj) (fun ez hat=>by
   show FwS _ (rbQ (usS Q E k).1 (usS Q E k).2 1000) (rbE (usS Q E k).1 (usS Q E k).2 1000) _ (rbN (usS Q E k).1 (usS Q E k).2 1000=(e k).wn∧∀j,j<(e k).wn→(ctQ (usS Q E k).1 (usS Q E k).2 1000).wf j=(e k).wf j);rw[ez];exact qXw (by decide) (by decide) hs' hat) (fun h3=>(qTv h3).1)
  refine⟨h1.1,fun i hi hl=>?_⟩
  by_cases hik:i<k
  ·exact b i hik hl
  ·have:i=k:=by omega
   subst this;exact h1.2 hl
theorem jCH (hn:n≤10):(UInt64.ofNat n).toNat=n:=by rw[UInt64.toNat_ofNat'];omega
theorem qW4 (hn:n≤10) (hs:∀i,i<n→(e i).wn≤1000) (hL:q.wn=pkL h n e n) (hq:∀k,k<q.wn→q.wf k=pkF h n e n k):
  uD q=0∧uH q=h∧uN q=n∧∀i,i<n→usN (uQ q) (uE q) i=(e i).wn∧∀j,j<(e i).wn→usW (uQ q) (uE q) i j=(e i).wf j:=by
 obtain⟨a,b,c⟩:=qZR (L:=pkL h n e n) hn hL (fun k hk _=>hq k hk)
 obtain⟨b1,b2⟩:=b (qHl n (Nat.zero_le _));have hN:uN q=n:=by unfold uN;rw[b2,jCH hn]
 obtain⟨d1,d2⟩:=qUB hs a n (Nat.le_refl _);refine⟨?_,b1,hN,fun i hi=>d2 i hi (qHl n hi)⟩
 unfold uD;rw[hN];rcases d1 with⟨e0,e1,_⟩|⟨_,e4⟩
 ·unfold qUj;rw[if_neg (by omega)];exact e0
 ·omega
end
section
variable {h:UInt64} {l:qA6} {q:BytL}
theorem qRM (hp:qKn l=0):(l.wn≤10∧∀i,i<l.wn→1≤(l.wf i).wn∧(l.wf i).wn≤1000)∧twB l.wf l.wn=false:=by
 unfold qKn at hp;by_cases h1:(qA0 (decide (10<l.wn)) true (qMt (unB l.wf) l.wn))=true
 ·rw[if_pos h1] at hp;cases hp
 ·rw[if_neg h1] at hp
  by_cases h2:twB l.wf l.wn=true
  ·rw[if_pos h2] at hp;cases hp
  ·exact⟨qM3 (by simpa using h1),by simpa using h2⟩
theorem jBC {e e':Nat→BytL} {x y:BytL} {i:Nat} (h1:(e i).wn=(e' i).wn) (h2:∀j,j<(e i).wn→(e i).wf j=(e' i).wf j) (h3:x.wn=y.wn) (h4:∀j,j<x.wn→x.wf j=y.wf j):elE e x i=elE e' y i:=by
 unfold elE;rw[h1,h3];exact qOU (fun j hj=>h2 j (by omega)) (fun j hj=>h4 j (by omega))
theorem jBl {e e':Nat→BytL} {n:Nat} (h:∀i,i<n→(e i).wn=(e' i).wn∧∀j,j<(e i).wn→(e i).wf j=(e' i).wf j):twB e n=twB e' n:=
 qHr fun i hi=>qHr fun k hk=>jBC (h k (by omega)).1 (h k (by omega)).2 (h i hi).1 (h i hi).2
theorem qVn {e:Nat→BytL} {n:Nat} {a:Option Addr} {c:Nat} (h:∀i,i<n→1≤(e i).wn):inB e n (qAf a c)=false:=
 qFP fun i hi=>by
  unfold elE qDn;refine decide_eq_false fun hh=>?_
  have h1:(e i).wn=0:=hh.1;have:=h i hi;omega
theorem jFX (hp:qKn l=0) (hL:q.wn=pkL h l.wn l.wf l.wn) (hq:∀k,k<q.wn→q.wf k=pkF h l.wn l.wf l.wn k):unX q=0∧unH q=h∧uN q=l.wn∧∀i,i<l.wn→usN (uQ q) (uE q) i=(l.wf i).wn∧∀j,j<(l.wf i).wn→usW (uQ q) (uE q) i j=(l.wf i).wf j:=by
 obtain⟨⟨h1,h2⟩,h3⟩:=qRM hp;obtain⟨a,b,c,d⟩:=qW4 h1 (fun i hi=>(h2 i hi).2) hL hq
 have hb:uB q=false:=by
  unfold uB;rw[c,qCL,Bool.or_eq_false_iff];refine⟨qVn fun i hi=>?_,?_⟩
  ·show 1≤usN (uQ q) (uE q) i
   rw[(d i hi).1];exact(h2 i hi).1
  ·rw[jBl (e:=usB (uQ q) (uE q)) (e':=l.wf) fun i hi=>⟨(d i hi).1,fun j hj=>(d i hi).2 j (by have h4:(usB (uQ q) (uE q) i).wn=(l.wf i).wn:=(d i hi).1;omega)⟩]
   exact h3
 have hX:=jDE a hb;exact⟨hX,by rw[(qUf hX).1,b],c,d⟩
end
section
variable {h:UInt64} {n:Nat} {e e':Nat→BytL} {q:BytL}
theorem jGw (hX:unX q=0):uD q=0∧uB q=false:=by
 unfold unX at hX;by_cases hd:uD q=0
 ·rw[if_pos hd] at hX
  refine⟨hd,?_⟩;cases hb:uB q with
  |false=>rfl
  |true=>rw[hb] at hX;cases hX
 ·rw[if_neg hd] at hX;exact absurd hX hd
end
end Go.Eng
end
section
namespace Go.Eng
open Go.RowKit Go.WideShapes Go.ChangeShapes Go.ChangeAt Go.Deep
def bysZ:qA6:=⟨none,0,0,0,0,fun _=>qAf none 0⟩
def jAr:OkS bysZ:=⟨Nat.le_refl _,fun h=>absurd h (Nat.lt_irrefl 0),Nat.zero_le _,fun k hk=>absurd hk (Nat.not_lt_zero k)⟩
def qRZ {W:World}:qCM (qEd bysZ) W:=fun z hz=>by
 rcases hz with⟨h0,_⟩|⟨k,hk,_⟩
 ·exact absurd h0 (Nat.lt_irrefl 0)
 ·exact absurd hk (Nat.not_lt_zero k)
structure POp where
 d:Int
 n:Int
 l:qA6
instance:Inhabited POp:=⟨⟨0,0,bysZ⟩⟩
end Go.Eng
end
section
namespace Go.Eng
def qAc.veq {F:Blk→Prop} {P:Program} {f:FuncId} {args:List Value} {bs:List (Option Blk)} {k:Nat} {v v':Value} {out:List Nat→List (Option Blk)} (e:v=v') (h:qAc F P f args bs k (fun _=>v) out):qAc F P f args bs k (fun _=>v') out:=e▸h
def qZT {h:UInt64} {l:qA6} {a r:Nat} (e:qKn l=0):(qGX (qUN h l a r)).wn=pkL h l.wn l.wf l.wn∧(qGX (qUN h l a r)).wf=pkF h l.wn l.wf l.wn:=by rw[qNq e];exact⟨rfl,rfl⟩
def qXn {P:Nat→BytL→Prop} {a:BytL} (h0:P 0 a):∀k,k<1→P k (qXo [a] k):=fun k hk=>by
 rcases k with _ |k
 ·exact h0
 ·omega
end Go.Eng
namespace Go.Eng
section
variable {P:Program} {t e:TypeId} {x y:Operand}
theorem qOE {α:Type} {sz:Nat} {A:Grw α} (ht:P.underlying t=some (.slice e)) (he:qBT P e=some sz) (hz:A.z=false) (i:Nat) (hi:i<A.n):qB2 P (.indexAddr t x y) [gsV A,nat i] (ptr A.nm (0+i*sz)):=by
 rw[qGR hz];exact qAk ht he A.nm 0 A.n (A.n+A.r) i hi
def qVH (t:TypeId) (x:Value):Sem Next:=do pure (.value (←Instr.loadAt t x))
theorem qTk (ha:qWl P t=some false) {A:Grw BytL} (hz:A.z=false) (i:Nat) (hi:i<A.n):qFg P (qVH t (ptr A.nm (0+i*1))) [roO (gsE qBN [Value.slice none 0 0] 1 A)] 0 (fun _=>qA3 (A.f i)) (fun _=>[none]):=by
 rw[qDy hz];intro w hm hap;have hS:qAn ⟨A.nm,false,0,qGn 1 (A.n+A.r) A.n (fun k=>qBN (A.f k)) [Value.slice none 0 0]⟩ w:=hm 0 _ rfl
 have hc:=hS.cell i (qA3 (A.f i)) (by
  show(qAL.tab (A.n+A.r) 1 fun k=>if k<A.n then qBN (A.f k) else _).get i=_
  rw[qAL.get_tab (by omega),Nat.div_one,Nat.mod_one,if_pos hi];rfl)
 refine⟨[],w,rfl,.inl ?_,?_⟩
 ·have hr:=qCQ (P:=P) (t:=t) (w:=w) (b:=A.nm) (o:=0+i*1) (v:=qA3 (A.f i)) ha (by rw[Nat.mul_one];exact hc)
  show(Instr.loadAt t (Value.pointer (some {block:=A.nm,off:=0+i*1})) >>= fun v=>Sem.pure (Next.value v)).run P w=_
  rw[Sem.run_bind,hr];rfl
 ·exact⟨fun p b hpb=>by rcases p with _ |p<;>simp[lM] at hpb,fun p q b c _ hpb=>by rcases p with _ |p<;>simp[lM] at hpb,(Adv.refl _ _).weak fun p b hpb=>by rcases p with _ |p<;>simp[lM] at hpb⟩
end
end Go.Eng
end
section
namespace Go.Proofs.YtmdpendnbkajdaaGreatDoor
open Go Go.Eng
def qGo (l:qA6) (x1:Nat):St:=⟨[(0,.v (v27 l)),(3,.v (nat x1))],[],0⟩
def qDa (l:qA6) (x1:Nat):Prop:=(x1≤l.wn)∧(∀k,k<x1→(fun i=>inB l.wf i (l.wf i)) k=false)
def qDS (l:qA6) (x1:Nat):Nat:=l.wn-x1
def qMA (l:qA6) (hl:OkS l):qAt (qEd l) TP 33 [(Value.slice l.wa l.wn l.wc)] [] 0 (fun _=>Value.bool (twB l.wf l.wn)) (fun _=>[]):=
 qAm (F:=(qEd l)) mix Tryz.func33 rfl rfl 400 (.reg (rg [.g]) (.reg (rg [.g]) (.inv [0,3] [] 0 (qDa l) (qGo l) (qDS l) (0:Nat) (fun(x1:Nat)=>(.reg (v1x l x1) (.br (.openr (qJj l) (.reg (rg [.g,.g,(.as (vS l.wa x1 l.wc)),.g,.g,(.as (v2Y l x1)),(v1I x1),(v4u l x1),.g]) (.reg (rg [.g]) (v6U x1)))) v0c)))))) [] [] rfl
  (have f0:l.wn≤l.wc∧l.wn≤9223372036854775807:=⟨hl.cap,hl.len⟩;Eq.mp (by kernel_rfl) (aI kV1 (aI kV1 (aI (show(0≤l.wn)∧(∀k,k<0→(fun i=>inB l.wf i (l.wf i)) k=false) from by exact⟨by omega,fun k hk=>absurd hk (by omega)⟩) (aI (@rfl St ((qGo l) (0:Nat))) (fun(x1:Nat) (hx1:(qDa l) x1)=>have B0:x1≤l.wn:=hx1.1;have B1:∀k,k<x1→(fun i=>inB l.wf i (l.wf i)) k=false:=hx1.2;aI (sK2 (aI (aT (@w01 6 l.wa l.wn l.wc)) (aI (aT (@w11 5 7  x1 l.wn)) tV))) (aT (aI (fun(h1:(decide (x1<l.wn))=true)=>have f3:=(oT h1);aI (Or.inl ⟨(show 0<l.wn from by omega),rfl⟩:qEd l (qJj l)) (aI (sK2 (aI (aT (@w41 11 12 l.wa l.wn l.wc x1 (show x1≤l.wc from by omega))) (sK2 (aI (aT (@w21 14 15 l.wb l.wo l.wn l.wc x1 l.wa (hl.ad (show 0<l.wn from by omega)) (show x1<l.wn from by omega))) (aI (aT (aI (show x1<l.wn from by omega) (@rfl Value (v2Y l x1)))) (aI (aT (qAt.lendP (F':=qEd l) (jEm (show x1<l.wn from by omega)) (jCX (show x1<l.wn from by omega)) (qZz (jBo l x1) (l.wf x1) (qYJ hl (Nat.le_of_lt (show x1<l.wn from by omega))) (hl.el _ (show x1<l.wn from by omega))))) kV1)))))) (aI kV1 (aT (aI (fun(h2:(inB l.wf x1 (l.wf x1))=true)=>aI kV1 (aT (eX (fun(ns:List Nat)=>ns.length=0∧((vB true):Value)=(fun _=>vB (twB l.wf l.wn)) ns∧([]:List (Option Blk))=(fun _=>[]) ns) [] (aI v0b (aI ((show(vB true)=vB (twB l.wf l.wn) from congrArg vB (by first|exact qJm (by omega) (by assumption)|exact qMT (by omega) B1))) v0f))))) (fun(h2:(inB l.wf x1 (l.wf x1))=false)=>aI (sk (aI (aT (@w31 9  x1 1 (show x1+1≤9223372036854775807 from by omega))) kV1)) ((rnd (qDa l) (qGo l) (qDS l) x1 (x1+1:Nat) (show(((x1+1)≤l.wn)∧(∀k,k<(x1+1)→(fun i=>inB l.wf i (l.wf i)) k=false))∧(l.wn-(x1+1))<(l.wn-x1) from by exact⟨⟨by omega,qKu (p:=fun i=>inB l.wf i (l.wf i)) B1 (by assumption)⟩,by omega⟩))))))))) (fun(h1:(decide (x1<l.wn))=false)=>have f3:=(oF h1);aI kV1 (aT (eX (fun(ns:List Nat)=>ns.length=0∧(v1E:Value)=(fun _=>vB (twB l.wf l.wn)) ns∧([]:List (Option Blk))=(fun _=>[]) ns) [] (aI v0b (aI ((show(vB false)=vB (twB l.wf l.wn) from congrArg vB (by first|exact qJm (by omega) (by assumption)|exact qMT (by omega) B1))) v0f)))))))))))))
def qTB {l:qA6} {i e:Nat} (h:qA0 (decide ((l.wf i).wn<1)) true (decide (1000<(l.wf i).wn))=false) (hb:unB l.wf e=true):i≠e:=fun hh=>by
 subst hh;rw[qCL,Bool.or_eq_false_iff,decide_eq_false_iff_not,decide_eq_false_iff_not] at h;have h2:szB (l.wf i).wn=false:=by simpa[unB] using hb
 unfold szB at h2;rw[Bool.and_eq_false_iff,decide_eq_false_iff_not,decide_eq_false_iff_not] at h2;omega
def jCE {n:Nat} (h:1≤n∧n≤1000):qA0 (decide (n<1)) true (decide (1000<n))=false:=by
 rw[qCL,decide_eq_false (by omega),decide_eq_false (by omega)];rfl
section
variable {h:UInt64} {n:Nat} {e:Nat→BytL} {k a r:Nat}
theorem jCG:(pkG h n e k a r).z=false:=decide_eq_false (by have:=qUv (h:=h) (n:=n) (e:=e) (k:=k);omega)
theorem jFN:gsV (pkG h n e k a r)=.slice (some ⟨a,0,none⟩) (pkL h n e k) (pkL h n e k+r):=qGR jCG
theorem jFE:gsE u8C [u8 0] 1 (pkG h n e k a r)=some ⟨a,true,0,spr (pkL h n e k+r) (pkL h n e k) (fun j=>u8 (pkF h n e k j)) (u8 0)⟩:=by
 have e1:pkG h n e k a r=⟨false,a,pkL h n e k,r,pkF h n e k⟩:=by
  have hz:=jCG (h:=h) (n:=n) (e:=e) (k:=k) (a:=a) (r:=r);unfold pkG qAp at hz ⊢;first|rw[hz]|(simp only at hz;rw[hz])
 rw[e1];exact qKI
end
abbrev qJk (a:qA6) (b:Nat):=decide (((a.wf b).wn)<1)
abbrev qQR (a:qA6) (b:Nat):=ptr a.wb (a.wo+b*1)
abbrev qTM (a:qA6):=smN (UInt64.ofNat a.wn)
abbrev jEw (a:qA6) (b:Nat):=qA0 (qJk a b) true (decide (1000<((a.wf b).wn)))
def w61(a:Nat):=@qBe TP 3 3 (.tmp a) (.const (.int .i64 10))
def v11(l:qA6):=sk (aI (aT (@w01 10 l.wa l.wn l.wc)) (aI (aT (@w61 11  l.wn 10)) tV))
def v1S(l:qA6):=rg [.g,(aN l.wn),(aB (decide (10<l.wn)))]
def v4e:=@rfl Value (vT #[vS none 0 0,int 2])
def v61:=aT (eX (fun(ns:List Nat)=>ns.length=0∧((vT #[v1l,(int 2)]):Value)=(fun _=>vT #[vS none 0 0,int 2]) ns∧([]:List (Option Blk))=(fun _=>[]) ns) [] (aI v0b (aI v4e v0f)))
def jFp (h:UInt64) (l:qA6) (hl:OkS l) (h1:10<l.wn):qAt (qEd l) TP 22 [(u64 h),(Value.slice l.wa l.wn l.wc)] [] 0 (fun _=>Value.tuple #[Value.slice none 0 0,int 2]) (fun _=>[]):=
 qAm (F:=(qEd l)) mix Tryz.func22 rfl rfl 400 (.reg v00 (.reg (v1S l) v6Z)) [] [] rfl
  (have f0:l.wn≤l.wc∧l.wn≤9223372036854775807:=⟨hl.cap,hl.len⟩;Eq.mp (by kernel_rfl) (aI kV2 (aI (v11 l) ((fun(hp1:(decide (10<l.wn))=true)=>have f1:=(oT hp1);aT (aI hp1 (aI kV2 v61))) (show(decide (10<l.wn))=true from by exact decide_eq_true h1)))))
def qNB (h:UInt64) (l:qA6) (e:Nat) (x1:Nat):St:=⟨[(0,.v (u64 h)),(1,.v (v27 l)),(6,.v (nat x1))],[],0⟩
def qII (h:UInt64) (l:qA6) (e:Nat) (x1:Nat):Prop:=(x1≤e)
def qIR (h:UInt64) (l:qA6) (e:Nat) (x1:Nat):Nat:=e-x1
def w71(a:Nat):=@qAo TP 29 5 (.tmp a) (by kernel_rfl)
def w81(a:Nat):=@qAC TP 3 3 (.tmp a) (.const (.int .i64 1))
def w91(a:Nat):=@qBe TP 3 3 (.tmp a) (.const (.int .i64 1000))
def v1K(l:qA6)(x1:Nat):=sK2 (aI (aT (@w01 14 l.wa l.wn l.wc)) (aI (aT (@w11 13 15  x1 l.wn)) tV))
def v2Q(l:qA6)(x1:Nat):=aT (@w71 22 (l.wf x1).wa (l.wf x1).wn (l.wf x1).wc)
def v3b(l:qA6)(x1:Nat):=@w71 29 (l.wf x1).wa (l.wf x1).wn (l.wf x1).wc
def v3D(l:qA6)(x1:Nat):=@rfl Value (qQR l x1)
def v5Q(l:qA6)(x1:Nat):=aT (@w81 23  (l.wf x1).wn 1)
def jFh (h:UInt64) (l:qA6) (e:Nat) (hl:OkS l) (h1:l.wn≤10) (he:e<l.wn) (hb:unB l.wf e=true):qAt (qEd l) TP 22 [(u64 h),(Value.slice l.wa l.wn l.wc)] [] 0 (fun _=>Value.tuple #[Value.slice none 0 0,int 2]) (fun _=>[]):=
 qAm (F:=(qEd l)) mix Tryz.func22 rfl rfl 400 (.reg v00 (.reg (v1S l) (.no (.reg (rg [.g]) (.inv [0,1,6] [] 0 (qII h l e) (qNB h l e) (qIR h l e) (0:Nat) (fun(x1:Nat)=>(.reg (v1x l x1) (.yes (.openr (qJj l) (.reg (rg [.g,.g,(.as (qQR l x1)),(v1I x1),(aN ((l.wf x1).wn)),(aB (qJk l x1)),.g,(.opt .g),(.opt .g),(.opt (.as (qQR l x1))),(.opt (v1I x1)),(.opt (aN ((l.wf x1).wn))),(.opt (aB (decide (1000<((l.wf x1).wn))))),.pk]) (.br v5T (v0X x1)))))))))))) [] [] rfl
  (have f0:l.wn≤l.wc∧l.wn≤9223372036854775807:=⟨hl.cap,hl.len⟩;Eq.mp (by kernel_rfl) (aI kV2 (aI (v11 l) ((fun(hp1:(decide (10<l.wn))=false)=>have f3:=(oF hp1);aT (aI hp1 (aI kV1 (aI (show(0≤e) from by exact Nat.zero_le _) (aI (@rfl St ((qNB h l e) (0:Nat))) (fun(x1:Nat) (hx1:(qII h l e) x1)=>have B0:x1≤e:=hx1;aI (v1K l x1) ((fun(hp2:(decide (x1<l.wn))=true)=>have f5:=(oT hp2);aT (aI hp2 (aI (Or.inl ⟨(show 0<l.wn from by omega),rfl⟩:qEd l (qJj l)) (aI (sK2 (aI (aT (@w21 19 20 l.wb l.wo l.wn l.wc x1 l.wa (hl.ad (show 0<l.wn from by omega)) (show x1<l.wn from by omega))) (aI (aT (aI (show x1<l.wn from by omega) (v3D l x1))) (aI (v2Q l x1) (aI (v5Q l x1) (sk (aI (fun(hg:(sB (qJk l x1) false)=true)=>t2) (aI (fun(hg:(sB (qJk l x1) false)=true)=>t2) (aI (fun(hg:(sB (qJk l x1) false)=true)=>have f6:¬((l.wf x1).wn<1):=(oF (qAP hg));(aI (aI hg (aI hg tV)) (@w21 26 27 l.wb l.wo l.wn l.wc x1 l.wa (hl.ad (show 0<l.wn from by omega)) (show x1<l.wn from by omega)))) (aI (fun(hg:(sB (qJk l x1) false)=true)=>have f6:¬((l.wf x1).wn<1):=(oF (qAP hg));(aI (aI hg tV) (aI (show x1<l.wn from by omega) (v3D l x1)))) (aI (fun(hg:(sB (qJk l x1) false)=true)=>have f6:¬((l.wf x1).wn<1):=(oF (qAP hg));(aI (aI hg tV) (v3b l x1))) (aI (fun(hg:(sB (qJk l x1) false)=true)=>(aI (aI hg tV) (@w91 30  (l.wf x1).wn 1000))) (aI (aT (aI (fun(_:(qJk l x1)=true)=>tV) (fun(hp:(qJk l x1)=false)=>(qAS hp)))) tV))))))))))))) (aT (aI (fun(h3:(jEw l x1)=true)=>have f6:(((l.wf x1).wn<1))∨((1000<(l.wf x1).wn)):=(Or.imp (fun h=>(oT h)) (fun h=>(oT h)) (qG9 h3));aI kV2 v61) (fun(h3:(jEw l x1)=false)=>have f6:¬((l.wf x1).wn<1):=(oF (qBj h3));have f7:¬(1000<(l.wf x1).wn):=(oF (qBK h3));aI (sk (aI (aT (@w31 17  x1 1 (show x1+1≤9223372036854775807 from by omega))) kV1)) ((rnd (qII h l e) (qNB h l e) (qIR h l e) x1 (x1+1:Nat) (show(((x1+1)≤e))∧(e-(x1+1))<(e-x1) from by have hne:=qTB h3 hb;exact⟨by omega,by omega⟩)))))))))) (show(decide (x1<l.wn))=true from by exact decide_eq_true (by omega))))))))) (show(decide (10<l.wn))=false from by exact decide_eq_false (by omega))))))
def qNj (h:UInt64) (l:qA6) (x1:Nat):St:=⟨[(0,.v (u64 h)),(1,.v (v27 l)),(6,.v (nat x1))],[],0⟩
def qI1 (h:UInt64) (l:qA6) (x1:Nat):Prop:=(x1≤l.wn)
def qIw (h:UInt64) (l:qA6) (x1:Nat):Nat:=l.wn-x1
def v0A(l:qA6)(x1:Nat):H:=.openr (qJj l) (.reg (rg [.g,.g,(.as (qQR l x1)),(.ld 0 (.tab x1 0)),(aN (l.wf x1).wn),(aB (qJk l x1)),.g,(.opt .g),(.opt .g),(.opt (.as (qQR l x1))),(.opt (.ld 0 (.tab x1 0))),(.opt (aN (l.wf x1).wn)),(.opt (aB (decide (1000<(l.wf x1).wn)))),.pk]) (.no (.reg (rg [.g,(aN (x1+1)),.g]) .done)))
def v3d(l:qA6):=rg [.g,(.callF [] 0 0 (fun _=>(vB (twB l.wf l.wn))) (fun _=>[])),.g]
def jET (h:UInt64) (l:qA6) (hl:OkS l) (hf:l.wn≤10∧∀i,i<l.wn→1≤(l.wf i).wn∧(l.wf i).wn≤1000) (ht:twB l.wf l.wn=true):qAt (qEd l) TP 22 [(u64 h),(Value.slice l.wa l.wn l.wc)] [] 0 (fun _=>Value.tuple #[Value.slice none 0 0,int 13]) (fun _=>[]):=
 qAm (F:=(qEd l)) mix Tryz.func22 rfl rfl 400 (.reg v00 (.reg (v1S l) (.no (.reg (rg [.g]) (.inv [0,1,6] [] 0 (qI1 h l) (qNj h l) (qIw h l) (0:Nat) (fun(x1:Nat)=>(.reg (v1x l x1) (.br (v0A l x1) (.reg (v3d l) (.reg (rg [.g]) v6Z)))))))))) [] [] rfl
  (have f0:l.wn≤l.wc∧l.wn≤9223372036854775807:=⟨hl.cap,hl.len⟩;have f1:=hf.1;Eq.mp (by kernel_rfl) (aI kV2 (aI (v11 l) ((fun(hp1:(decide (10<l.wn))=false)=>have f2:=(oF hp1);aT (aI hp1 (aI kV1 (aI (show(0≤l.wn) from by exact Nat.zero_le _) (aI (@rfl St ((qNj h l) (0:Nat))) (fun(x1:Nat) (hx1:(qI1 h l) x1)=>have B0:x1≤l.wn:=hx1;aI (v1K l x1) (aT (aI (fun(h2:(decide (x1<l.wn))=true)=>have f4:=(oT h2);aI (Or.inl ⟨(show 0<l.wn from by omega),rfl⟩:qEd l (qJj l)) (aI (sK2 (aI (aT (@w21 19 20 l.wb l.wo l.wn l.wc x1 l.wa (hl.ad (show 0<l.wn from by omega)) (show x1<l.wn from by omega))) (aI (aT (aI (show x1<l.wn from by omega) (v3D l x1))) (aI (v2Q l x1) (aI (v5Q l x1) (sk (aI (fun(hg:(sB (qJk l x1) false)=true)=>t2) (aI (fun(hg:(sB (qJk l x1) false)=true)=>t2) (aI (fun(hg:(sB (qJk l x1) false)=true)=>have f5:¬((l.wf x1).wn<1):=(oF (qAP hg));(aI (aI hg (aI hg tV)) (@w21 26 27 l.wb l.wo l.wn l.wc x1 l.wa (hl.ad (show 0<l.wn from by omega)) (show x1<l.wn from by omega)))) (aI (fun(hg:(sB (qJk l x1) false)=true)=>have f5:¬((l.wf x1).wn<1):=(oF (qAP hg));(aI (aI hg tV) (aI (show x1<l.wn from by omega) (v3D l x1)))) (aI (fun(hg:(sB (qJk l x1) false)=true)=>have f5:¬((l.wf x1).wn<1):=(oF (qAP hg));(aI (aI hg tV) (v3b l x1))) (aI (fun(hg:(sB (qJk l x1) false)=true)=>(aI (aI hg tV) (@w91 30  (l.wf x1).wn 1000))) (aI (aT (aI (fun(_:(qJk l x1)=true)=>tV) (fun(hp:(qJk l x1)=false)=>(qAS hp)))) tV))))))))))))) ((fun(hp3:(jEw l x1)=false)=>have f5:¬((l.wf x1).wn<1):=(oF (qBj hp3));have f6:¬(1000<(l.wf x1).wn):=(oF (qBK hp3));aT (aI hp3 (aI (sk (aI (aT (@w31 17  x1 1 (show x1+1≤9223372036854775807 from by omega))) kV1)) ((rnd (qI1 h l) (qNj h l) (qIw h l) x1 (x1+1:Nat) (show(((x1+1)≤l.wn))∧(l.wn-(x1+1))<(l.wn-x1) from by exact⟨by omega,by omega⟩)))))) (show(qA0 (decide ((l.wf x1).wn<1)) true (decide (1000<(l.wf x1).wn)))=false from by exact jCE (hf.2 _ (by omega)))))) (fun(h2:(decide (x1<l.wn))=false)=>have f4:=(oF h2);aI (sk (aI (aT (qMA l hl)) kV1)) (aI kV1 ((fun(hp4:(twB l.wf l.wn)=true)=>aT (aI hp4 (aI kV2 (aT (eX (fun(ns:List Nat)=>ns.length=0∧((vT #[v1l,(int 13)]):Value)=(fun _=>vT #[vS none 0 0,int 13]) ns∧([]:List (Option Blk))=(fun _=>[]) ns) [] (aI v0b (aI (@rfl Value (vT #[vS none 0 0,int 13])) v0f))))))) (show(twB l.wf l.wn)=true from by exact ht)))))))))))) (show(decide (10<l.wn))=false from by exact decide_eq_false (by omega))))))
def qM9 (h:UInt64) (l:qA6) (x1:Nat):St:=⟨[(0,.v (u64 h)),(1,.v (v27 l)),(6,.v (nat x1))],[],0⟩
def qIA (h:UInt64) (l:qA6) (x1:Nat):Prop:=(x1≤l.wn)
def qJa (h:UInt64) (l:qA6) (x1:Nat):Nat:=l.wn-x1
def v4f(l:qA6)(n4:Nat):=spr (smN (uO l.wn)+n4) (qTM l) (fun k=>u8 (smB (uO l.wn) k)) (u8 0)
def qNG (h:UInt64) (l:qA6) (x1:Nat) (n1:Nat) (n2:Nat) (n3:Nat) (n4:Nat) (n5:Nat) (n6:Nat) (x2:Nat×Nat×Nat×(Nat→UInt8)×Nat):St:=⟨[(1,.v (v27 l)),(8,.v (v2W x2)),(9,.v (nat x2.1))],[(0,some ⟨x2.2.2.2.2,true,0,(v1u x2)⟩),(1,some ⟨n3,true,0,(v4f l n4)⟩)],2⟩
def qIv (h:UInt64) (l:qA6) (x1:Nat) (n1:Nat) (n2:Nat) (n3:Nat) (n4:Nat) (n5:Nat) (n6:Nat) (x2:Nat×Nat×Nat×(Nat→UInt8)×Nat):Prop:=(x2.1≤l.wn)∧(x2.2.1=pkL h l.wn l.wf (x2.1))∧(x2.2.2.2.1=(pkF h l.wn l.wf (x2.1)))
def qIV (h:UInt64) (l:qA6) (x1:Nat) (n1:Nat) (n2:Nat) (n3:Nat) (n4:Nat) (n5:Nat) (n6:Nat) (x2:Nat×Nat×Nat×(Nat→UInt8)×Nat):Nat:=l.wn-x2.1
def v1z(h:UInt64)(l:qA6)(x2:Nat×Nat×Nat×(Nat→UInt8)×Nat):=spr (pkL h l.wn l.wf l.wn+x2.2.2.1) (pkL h l.wn l.wf l.wn) (fun k=>u8 (pkF h l.wn l.wf l.wn k)) (u8 0)
def v21(x2:Nat×Nat×Nat×(Nat→UInt8)×Nat)(h:UInt64)(l:qA6):=vS (some ⟨x2.2.2.2.2,0,none⟩) (pkL h l.wn l.wf l.wn) (pkL h l.wn l.wf l.wn+x2.2.2.1)
def v4U(l:qA6)(x2:Nat×Nat×Nat×(Nat→UInt8)×Nat):=byN (l.wf x2.1).wn
def v6e:H:=.reg v0F .done
def jFU (h:UInt64) (l:qA6) (hl:OkS l) (hf:l.wn≤10∧∀i,i<l.wn→1≤(l.wf i).wn∧(l.wf i).wn≤1000) (ht:twB l.wf l.wn=false):qAt (qEd l) TP 22 [(u64 h),(Value.slice l.wa l.wn l.wc)] [] 2 (fun ns=>(Value.tuple #[(Value.slice (some ⟨(ns.getD 0 0),0,none⟩) (pkL h l.wn l.wf l.wn) (pkL h l.wn l.wf l.wn+(ns.getD 1 0))),(int 0)])) (fun ns=>[some ⟨(ns.getD 0 0),true,0,(spr (pkL h l.wn l.wf l.wn+(ns.getD 1 0)) (pkL h l.wn l.wf l.wn) (fun k=>u8 (pkF h l.wn l.wf l.wn k)) (u8 0))⟩]):=
 qAm (F:=(qEd l)) mix Tryz.func22 rfl rfl 400 (.reg v00 (.reg (v1S l) (.no (.reg (rg [.g]) (.inv [0,1,6] [] 0 (qIA h l) (qM9 h l) (qJa h l) (0:Nat) (fun(x1:Nat)=>(.reg (v1x l x1) (.br (v0A l x1) (.reg (v3d l) (.reg (rg [.g]) (.no (.regn (rg [.g,(.callF [] 2 1 (fun ns=>vS (some ⟨(g0 ns),0,none⟩) (smN h) (smN h+(g1 ns))) (fun ns=>[some ⟨(g0 ns),true,0,(spr (smN h+(g1 ns)) (smN h) (fun k=>u8 (smB h k)) (u8 0))⟩])),.g,(aN l.wn),(aQ (uO l.wn)),(.callF [] 2 1 (fun ns=>vS (some ⟨(g0 ns),0,none⟩) (qTM l) (smN (uO l.wn)+(g1 ns))) (fun ns=>[some ⟨(g0 ns),true,0,(spr (smN (uO l.wn)+(g1 ns)) (qTM l) (fun k=>u8 (smB (uO l.wn) k)) (u8 0))⟩])),(.oth [(0,false),(1,true)] 2 0 (fun ns=>vS (some ⟨(g0 ns),0,none⟩) (smN h+(qTM l)) (smN h+(qTM l)+(g1 ns))) (fun ns=>[some ⟨(g0 ns),true,0,(spr (smN h+(qTM l)+(g1 ns)) (smN h+(qTM l)) (fun k=>u8 (qAj (smB h) (smN h) (smB (uO l.wn)) k)) (u8 0))⟩,none])),.g]) (m6 fun n1 n2 n3 n4 n5 n6=>(.reg (rg [.g]) (.inv [1,8,9] [0,1] 2 (qIv h l x1 n1 n2 n3 n4 n5 n6) (qNG h l x1 n1 n2 n3 n4 n5 n6) (qIV h l x1 n1 n2 n3 n4 n5 n6) ((0,smN h+(qTM l),n6,qAj (smB h) (smN h) (smB (uO l.wn)),n5):Nat×Nat×Nat×(Nat→UInt8)×Nat) (fun(x2:Nat×Nat×Nat×(Nat→UInt8)×Nat)=>(.reg (rg [.g,.g,(aN l.wn),(aB (decide (x2.1<l.wn)))]) (.br (.openr (qJj l) (.regn (rg [.g,.g,.g,(.as (qQR l x2.1)),(.ld 2 (.tab x2.1 0)),(.callF [] 2 1 (fun ns=>vS (some ⟨(g0 ns),0,none⟩) (v4U l x2) (byN (l.wf x2.1).wn+(g1 ns))) (fun ns=>[some ⟨(g0 ns),true,0,(spr (byN (l.wf x2.1).wn+(g1 ns)) (v4U l x2) (fun k=>u8 (byB (l.wf x2.1).wf (l.wf x2.1).wn k)) (u8 0))⟩])),(.oth [(0,false),(3,true)] 2 0 (fun ns=>vS (some ⟨(g0 ns),0,none⟩) (x2.2.1+(v4U l x2)) (x2.2.1+(v4U l x2)+(g1 ns))) (fun ns=>[some ⟨(g0 ns),true,0,(spr (x2.2.1+(v4U l x2)+(g1 ns)) (x2.2.1+(v4U l x2)) (fun k=>u8 (qAj x2.2.2.2.1 x2.2.1 (byB (l.wf x2.1).wf (l.wf x2.1).wn) k)) (u8 0))⟩,none])),.g]) (m4 fun n7 n8 n9 n10=>(.reg (rg [.g,(aN (x2.1+1)),.g]) .done)))) (.keep [8] [0] 2 (.told ⟨[(8,.v (v21 x2 h l))],[(0,some ⟨x2.2.2.2.2,true,0,(v1z h l x2)⟩)],2⟩ v6e)))))))))))))))))))) [] [0] rfl
  (have f0:l.wn≤l.wc∧l.wn≤9223372036854775807:=⟨hl.cap,hl.len⟩;have f1:=hf.1;Eq.mp (by kernel_rfl) (aI kV2 (aI (v11 l) ((fun(hp1:(decide (10<l.wn))=false)=>have f2:=(oF hp1);aT (aI hp1 (aI kV1 (aI (show(0≤l.wn) from by exact Nat.zero_le _) (aI (@rfl St ((qM9 h l) (0:Nat))) (fun(x1:Nat) (hx1:(qIA h l) x1)=>have B0:x1≤l.wn:=hx1;aI (v1K l x1) (aT (aI (fun(h2:(decide (x1<l.wn))=true)=>have f4:=(oT h2);aI (Or.inl ⟨(show 0<l.wn from by omega),rfl⟩:qEd l (qJj l)) (aI (sK2 (aI (aT (@w21 19 20 l.wb l.wo l.wn l.wc x1 l.wa (hl.ad (show 0<l.wn from by omega)) (show x1<l.wn from by omega))) (aI (aT (aI (show x1<l.wn from by omega) (v3D l x1))) (aI (v2Q l x1) (aI (v5Q l x1) (sk (aI (fun(hg:(sB (qJk l x1) false)=true)=>t2) (aI (fun(hg:(sB (qJk l x1) false)=true)=>t2) (aI (fun(hg:(sB (qJk l x1) false)=true)=>have f5:¬((l.wf x1).wn<1):=(oF (qAP hg));(aI (aI hg (aI hg tV)) (@w21 26 27 l.wb l.wo l.wn l.wc x1 l.wa (hl.ad (show 0<l.wn from by omega)) (show x1<l.wn from by omega)))) (aI (fun(hg:(sB (qJk l x1) false)=true)=>have f5:¬((l.wf x1).wn<1):=(oF (qAP hg));(aI (aI hg tV) (aI (show x1<l.wn from by omega) (v3D l x1)))) (aI (fun(hg:(sB (qJk l x1) false)=true)=>have f5:¬((l.wf x1).wn<1):=(oF (qAP hg));(aI (aI hg tV) (v3b l x1))) (aI (fun(hg:(sB (qJk l x1) false)=true)=>(aI (aI hg tV) (@w91 30  (l.wf x1).wn 1000))) (aI (aT (aI (fun(_:(qJk l x1)=true)=>tV) (fun(hp:(qJk l x1)=false)=>(qAS hp)))) tV))))))))))))) ((fun(hp3:(jEw l x1)=false)=>have f5:¬((l.wf x1).wn<1):=(oF (qBj hp3));have f6:¬(1000<(l.wf x1).wn):=(oF (qBK hp3));aT (aI hp3 (aI (sk (aI (aT (@w31 17  x1 1 (show x1+1≤9223372036854775807 from by omega))) kV1)) ((rnd (qIA h l) (qM9 h l) (qJa h l) x1 (x1+1:Nat) (show(((x1+1)≤l.wn))∧(l.wn-(x1+1))<(l.wn-x1) from by exact⟨by omega,by omega⟩)))))) (show(qA0 (decide ((l.wf x1).wn<1)) true (decide (1000<(l.wf x1).wn)))=false from by exact jCE (hf.2 _ (by omega)))))) (fun(h2:(decide (x1<l.wn))=false)=>have f4:=(oF h2);aI (sk (aI (aT (qMA l hl)) kV1)) (aI kV1 ((fun(hp4:(twB l.wf l.wn)=false)=>aT (aI hp4 (fun(n1 n2 n3 n4 n5 n6:Nat)=>aI (sk (aI (aT (qNX (F:=(qEd l)) h)) (sk (aI (aT (@w01 38 l.wa l.wn l.wc)) (aI (aT (@qAM TP 3 23 (.tmp 39) (by kernel_rfl) (by kernel_rfl) l.wn)) (aI (aT (qNX (F:=(qEd l)) (uO l.wn))) (aI (aT (qAu.dark [false,true] (qAZ (P:=TP) (t:=29) (ty:=29) (e:=5) (by kernel_rfl) qDK n1 (smN h) n2 n3 0 0 (qTM l) (smN (uO l.wn)+n4) u8 (smB h) (smB (uO l.wn)) (v4f l n4) (qRk) (fun _=>rfl) (show(smN h+(smN (uO l.wn)))*1≤140737488355328∧smN h+(smN (uO l.wn))≤9223372036854775807 from by have hb1:=qGs h;have hb2:=qGs (uO l.wn);omega)))) kV1))))))) (aI kV1 (aI (show(0≤l.wn)∧((smN h+(smN (uO l.wn)))=pkL h l.wn l.wf (0))∧((qAj (smB h) (smN h) (smB (uO l.wn)))=(pkF h l.wn l.wf (0))) from by exact⟨Nat.zero_le _,rfl,rfl⟩) (aI (@rfl St ((qNG h l x1 n1 n2 n3 n4 n5 n6) ((0,smN h+(qTM l),n6,qAj (smB h) (smN h) (smB (uO l.wn)),n5):Nat×Nat×Nat×(Nat→UInt8)×Nat))) (fun(x2:Nat×Nat×Nat×(Nat→UInt8)×Nat) (hx2:(qIv h l x1 n1 n2 n3 n4 n5 n6) x2)=>have C0:x2.1≤l.wn:=hx2.1;have C1:x2.2.1=pkL h l.wn l.wf (x2.1):=hx2.2.1;have C2:x2.2.2.2.1=(pkF h l.wn l.wf (x2.1)):=hx2.2.2;aI (sK2 (aI (aT (@w01 44 l.wa l.wn l.wc)) (aI (aT (@w11 43 45  x2.1 l.wn)) tV))) (aT (aI (fun(h5:(decide (x2.1<l.wn))=true)=>have f9:=(oT h5);aI (Or.inl ⟨(show 0<l.wn from by omega),rfl⟩:qEd l (qJj l)) (fun(n7 n8 n9 n10:Nat)=>aI (sK3 (aI (aT (@w21 50 51 l.wb l.wo l.wn l.wc x2.1 l.wa (hl.ad (show 0<l.wn from by omega)) (show x2.1<l.wn from by omega))) (aI (aT (aI (show x2.1<l.wn from by omega) (@rfl Value (qQR l x2.1)))) (aI (aT (qAt.mono (jCc (show x2.1<l.wn from by omega)) (qWo (l.wf x2.1) (hl.el _ (show x2.1<l.wn from by omega)) (Nat.le_trans (hf.2 _ (show x2.1<l.wn from by omega)).2 (by decide))))) (aI (aT (qAu.dark [false,true] (qAZ (P:=TP) (t:=29) (ty:=29) (e:=5) (by kernel_rfl) qDK x2.2.2.2.2 x2.2.1 x2.2.2.1 n7 0 0 (v4U l x2) (byN (l.wf x2.1).wn+n8) u8 x2.2.2.2.1 (byB (l.wf x2.1).wf (l.wf x2.1).wn) (spr (byN (l.wf x2.1).wn+n8) (v4U l x2) (fun k=>u8 (byB (l.wf x2.1).wf (l.wf x2.1).wn k)) (u8 0)) (qRk) (fun _=>rfl) (show(x2.2.1+(byN (l.wf x2.1).wn))*1≤140737488355328∧x2.2.1+(byN (l.wf x2.1).wn)≤9223372036854775807 from by have hb1:=qYS (h:=h) (n:=l.wn) (e:=l.wf) (k:=x2.1) (fun j hj=>(hf.2 j (by omega)).2);have hb2:=qVX (l.wf x2.1).wn;have hb3:=(hf.2 x2.1 (by omega)).2;omega)))) kV1))))) (aI (sk (aI (aT (@w31 47  x2.1 1 (show x2.1+1≤9223372036854775807 from by omega))) kV1)) ((rnd (qIv h l x1 n1 n2 n3 n4 n5 n6) (qNG h l x1 n1 n2 n3 n4 n5 n6) (qIV h l x1 n1 n2 n3 n4 n5 n6) x2 ((x2.1+1,x2.2.1+(v4U l x2),n10,qAj x2.2.2.2.1 x2.2.1 (byB (l.wf x2.1).wf (l.wf x2.1).wn),n9):Nat×Nat×Nat×(Nat→UInt8)×Nat) (show(((x2.1+1)≤l.wn)∧((x2.2.1+(byN (l.wf x2.1).wn))=pkL h l.wn l.wf ((x2.1+1)))∧((qAj x2.2.2.2.1 x2.2.1 (byB (l.wf x2.1).wf (l.wf x2.1).wn))=(pkF h l.wn l.wf ((x2.1+1)))))∧(l.wn-(x2.1+1))<(l.wn-x2.1) from by exact⟨⟨by omega,by rw[C1]<;>rfl,by rw[C2,C1]<;>rfl⟩,by omega⟩)))))) (fun(h5:(decide (x2.1<l.wn))=false)=>have f9:=(oF h5);aI (show(⟨[(8,.v (vS (some ⟨x2.2.2.2.2,0,none⟩) x2.2.1 (x2.2.1+x2.2.2.1)))],[(0,some ⟨x2.2.2.2.2,true,0,(spr (x2.2.1+x2.2.2.1) x2.2.1 (fun k=>u8 (x2.2.2.2.1 k)) (u8 0))⟩)],2⟩:St)=⟨[(8,.v (vS (some ⟨x2.2.2.2.2,0,none⟩) (pkL h l.wn l.wf l.wn) (pkL h l.wn l.wf l.wn+x2.2.2.1)))],[(0,some ⟨x2.2.2.2.2,true,0,(spr (pkL h l.wn l.wf l.wn+x2.2.2.1) (pkL h l.wn l.wf l.wn) (fun k=>u8 (pkF h l.wn l.wf l.wn k)) (u8 0))⟩)],2⟩ from by have e0:x2.1=l.wn:=(by omega);rw[C2,C1,e0]) (aI kV3 (aT (eX (fun(ns:List Nat)=>ns.length=2∧((vT #[(v21 x2 h l),(int 0)]):Value)=(fun ns=>(vT #[(vS (some ⟨(g0 ns),0,none⟩) (pkL h l.wn l.wf l.wn) (pkL h l.wn l.wf l.wn+(g1 ns))),(int 0)])) ns∧([some ⟨x2.2.2.2.2,true,0,(v1z h l x2)⟩]:List (Option Blk))=(fun ns=>[some ⟨(g0 ns),true,0,(spr (pkL h l.wn l.wf l.wn+(g1 ns)) (pkL h l.wn l.wf l.wn) (fun k=>u8 (pkF h l.wn l.wf l.wn k)) (u8 0))⟩]) ns) [x2.2.2.2.2,x2.2.2.1] (aI v0W (aI (@rfl Value (vT #[(v21 x2 h l),(int 0)])) (@rfl (List (Option Blk)) [some ⟨x2.2.2.2.2,true,0,(v1z h l x2)⟩])))))))))))))))) (show(twB l.wf l.wn)=false from by exact ht)))))))))))) (show(decide (10<l.wn))=false from by exact decide_eq_false (by omega))))))
def qVN (h:UInt64) (l:qA6) (hl:OkS l):qAc (qEd l) TP 22 [u64 h,jGj l] [] 2 (fun ns=>.tuple #[gsV (qUN h l (ns.getD 0 0) (ns.getD 1 0)),int (qKn l)]) (fun ns=>[gsE u8C [u8 0] 1 (qUN h l (ns.getD 0 0) (ns.getD 1 0))]):=by
 by_cases h1:(qA0 (decide (10<l.wn)) true (qMt (unB l.wf) l.wn))=true
 ·have e:=jFJ h1
  simp only[e,qU5 (show qKn l≠0 by rw[e];decide)]
  have h2:qAt (qEd l) TP 22 [u64 h,jGj l] [] 0 (fun _=>.tuple #[Value.slice none 0 0,int 2]) (fun _=>[]):=by
   by_cases h10:10<l.wn
   ·exact jFp h l hl h10
   ·rw[qCL,decide_eq_false h10,Bool.false_or] at h1
    obtain⟨i,hi,hb⟩:=qFZ.1 h1;exact jFh h l i hl (by omega) hi hb
  exact h2.toO.as (.refl _) (fun _=>[0,0]) fun ns _=>⟨rfl,rfl,.dn (.zz _),tV⟩
 ·have h1':(qA0 (decide (10<l.wn)) true (qMt (unB l.wf) l.wn))=false:=by simpa using h1
  by_cases h2:twB l.wf l.wn=true
  ·have e:=jFR h1' h2
   simp only[e,qU5 (show qKn l≠0 by rw[e];decide)]
   exact(jET h l hl (qM3 h1') h2).toO.as (.refl _) (fun _=>[0,0]) fun ns _=>⟨rfl,rfl,.dn (.zz _),tV⟩
  ·have h2':twB l.wf l.wn=false:=by simpa using h2
   have e:=jDB h1' h2';simp only[e,qNq e,jFN,jFE];exact(jFU h l hl (qM3 h1') h2').toO
end Go.Proofs.YtmdpendnbkajdaaGreatDoor
end
