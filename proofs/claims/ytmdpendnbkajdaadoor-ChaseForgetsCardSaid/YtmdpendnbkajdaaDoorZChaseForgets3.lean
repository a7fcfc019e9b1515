/-
  Many in one: EngL, Nat4, EngM, LimbDefs, LimbMath.
-/
import Derived.Test.YtmdpendnbkajdaaDoorZChaseForgets2
import Derived.KernelRfl
set_option linter.unusedVariables false
set_option linter.unusedSimpArgs false
set_option maxRecDepth 100000
set_option maxHeartbeats 1000000
section
namespace Go.Eng
def jEf (P:Program) (fn:Func) (hs:List (Nat×Nat)) (v:Value):Exit→St→Prop:=fun e s=>match e with
 |.ret|.normal=>match qFg P s fn.results.toList hs with
  |some (vc,vs)=>vc∧qOx vs=v
  |none=>False
 | _=>False
theorem qPn {P:Program} {fn:Func} {hs:List (Nat×Nat)} {v:Value} {e:Exit} {s:St} (h:jEf P fn hs v e s):fin P fn hs [] 0 (fun _=>v) (fun _=>[]) 0 e s:=by
 have key:(match qFg P s fn.results.toList hs with
  |some (vc,vs)=>vc∧qOx vs=v
  |none=>False)→(match qFg P s fn.results.toList hs with
  |some (vc,vs)=>vc∧∃ns:List Nat,ns.length=0∧qOx vs=v∧qMd s (List.range 0++[])=[]
  |none=>False):=fun h=>by
  split
  ·rename_i vc vs hr
   rw[hr] at h
   exact⟨h.1,[],rfl,h.2,rfl⟩
  ·rename_i hr;rw[hr] at h;exact h
 cases e with
 |normal=>exact key h
 |ret=>exact key h
 | _=>exact h.elim
def qEs (P:Program) (f:FuncId) (args:List Value) (v:Value):Prop:=qBp P f args [] 0 (fun _=>v) (fun _=>[])
theorem qBW {F:Blk→Prop} {P:Program} {nt:Nat}:∀(n:Nat) (lp:Bool) (c:Code) (s:St) (h:H) (K K':Exit→St→H→Prop),(∀e s h,K e s h→K' e s h)→evF F P nt n lp c s h K→evF F P nt n lp c s h K'
 |0,_,_,_,_,_,_,_,h=>h
 |n+1,lp,c,s,h,K,K',hK,hev=>by
  by_cases hkeep:∃ts ps nx r,h=.keep ts ps nx r
  ·obtain⟨ts,ps,nx,r,rfl⟩:=hkeep
   exact qBW n lp c _ r K K' hK hev
  ·by_cases htold:∃s' r,h=.told s' r
   ·obtain⟨s',r,rfl⟩:=htold
    simp only[evF] at hev ⊢
    exact⟨hev.1,qBW n lp c s' r K K' hK hev.2⟩
   by_cases hopen:∃b r,h=.openb b r
   ·obtain⟨b,r,rfl⟩:=hopen
    simp only[evF] at hev ⊢
    exact⟨hev.1,qBW n lp c _ r _ _ (fun e s h he=>hK _ _ _ he) hev.2⟩
   by_cases hopr:∃b r,h=.openr b r∧qMO c=true
   ·obtain⟨b,r,rfl,hreg⟩:=hopr
    simp only[evF,hreg] at hev ⊢
    exact⟨hev.1,qBW n lp c _ r _ _ (fun e s h he=>hK _ _ _ he) hev.2⟩
   by_cases hboth:∃b h1 h2,h=.both b h1 h2
   ·obtain⟨b,h1,h2,rfl⟩:=hboth
    simp only[evF] at hev ⊢
    exact⟨fun hb=>qBW n lp c s h1 K K' hK (hev.1 hb),fun hb=>qBW n lp c s h2 K K' hK (hev.2 hb)⟩
   by_cases hren:∃p q r,h=.ren p q r
   ·obtain⟨p,q,r,rfl⟩:=hren
    simp only[evF] at hev ⊢
    split
    ·rename_i b hb
     rw[hb] at hev
     simp only at hev
     split
     ·rename_i ho
      rw[ho] at hev
      simp only at hev
      split
      ·rename_i hq
       rw[hq] at hev
       exact qBW n lp c _ r K K' hK hev
      ·rename_i hq
       rw[hq] at hev;exact hev
     ·rename_i ho
      rw[ho] at hev;exact hev
    ·rename_i hb
     rw[hb] at hev;exact hev
   by_cases hrenO:∃p q r,h=.renO p q r
   ·obtain⟨p,q,r,rfl⟩:=hrenO
    simp only[evF] at hev ⊢
    exact⟨hev.1,qBW n lp c _ r K K' hK hev.2⟩
   by_cases hpack:∃q p m g r,h=.pack q p m g r
   ·obtain⟨q,p,m,g,r,rfl⟩:=hpack
    simp only[evF] at hev ⊢
    split
    ·rename_i b hb
     rw[hb] at hev
     simp only at hev
     split
     ·rename_i ho
      rw[ho] at hev
      exact⟨hev.1,qBW n lp c _ r K K' hK hev.2⟩
     ·rename_i ho
      rw[ho] at hev;exact hev
    ·rename_i hb
     rw[hb] at hev;exact hev
   by_cases hcast:∃p c' r,h=.cast p c' r
   ·obtain⟨p,c',r,rfl⟩:=hcast
    simp only[evF] at hev ⊢
    split
    ·rename_i b hb
     rw[hb] at hev
     simp only at hev
     split
     ·rename_i ho
      rw[ho] at hev
      simp only at hev
      split
      ·rename_i hnm;rw[hnm] at hev;exact hev
      ·rename_i hnm;rw[hnm] at hev
       exact⟨hev.1,qBW n lp c _ r K K' hK hev.2⟩
     ·rename_i ho
      rw[ho] at hev;exact hev
    ·rename_i hb
     rw[hb] at hev;exact hev
   by_cases hcut:∃(α:Type) (ts ps:List Nat) (nx:Nat) (R:α→Prop) (S:α→St) (h1:H) (r:α→H),h=.cut ts ps nx R S h1 r
   ·obtain⟨α,ts,ps,nx,R,S,h1,r,rfl⟩:=hcut
    simp only[evF] at hev ⊢
    cases lp with
    |true=>exact hev.elim
    |false=>
     refine⟨qBW n false c s h1 _ _ (fun e s h he=>?_) hev.1,fun x hx=>hK _ _ _ (hev.2 x hx)⟩
     cases e with
     |normal=>exact he
     | _=>exact hK _ _ _ he
   cases lp with
   |true=>
    cases h with
    |cut ts ps nx R S h1 r=>exact absurd ⟨_,ts,ps,nx,R,S,h1,r,rfl⟩ hcut
    |keep ts ps nx r=>exact absurd ⟨ts,ps,nx,r,rfl⟩ hkeep
    |cast p c' r=>exact absurd ⟨p,c',r,rfl⟩ hcast
    |told s' r=>exact absurd ⟨s',r,rfl⟩ htold
    |both b h1 h2=>exact absurd ⟨b,h1,h2,rfl⟩ hboth
    |openb b r=>exact absurd ⟨b,r,rfl⟩ hopen
    |ren p q r=>exact absurd ⟨p,q,r,rfl⟩ hren
    |renO p q r=>exact absurd ⟨p,q,r,rfl⟩ hrenO
    |pack q p m g r=>exact absurd ⟨q,p,m,g,r,rfl⟩ hpack
    |openr b r=>
     cases hreg:qMO c with
     |true=>exact absurd ⟨b,r,rfl,hreg⟩ hopr
     |false=>simp only[evF,hreg] at hev
    |unroll r=>
     refine qBW n false c s r _ _ (fun e s h he=>?_) hev
     cases e with
     |normal=>exact qBW n true c s h K K' hK he
     | _=>exact hK _ _ _ he
    | _=>exact hev
   |false=>
    have hnk:∀K,evF F P nt (n+1) false c s h K=qEF F P nt (fun lp c s h K=>evF F P nt n lp c s h K) c s h K:=fun K=>by
     cases h with
     |keep ts ps nx r=>exact absurd ⟨ts,ps,nx,r,rfl⟩ hkeep
     |cast p c' r=>exact absurd ⟨p,c',r,rfl⟩ hcast
     |told s' r=>exact absurd ⟨s',r,rfl⟩ htold
     |both b h1 h2=>exact absurd ⟨b,h1,h2,rfl⟩ hboth
     |openr b r=>
      cases hreg:qMO c with
      |true=>exact absurd ⟨b,r,rfl,hreg⟩ hopr
      |false=>simp only[evF,hreg]
     |openb b r=>exact absurd ⟨b,r,rfl⟩ hopen
     |ren p q r=>exact absurd ⟨p,q,r,rfl⟩ hren
     |renO p q r=>exact absurd ⟨p,q,r,rfl⟩ hrenO
     |pack q p m g r=>exact absurd ⟨q,p,m,g,r,rfl⟩ hpack
     |cut ts ps nx R S h1 r=>exact absurd ⟨_,ts,ps,nx,R,S,h1,r,rfl⟩ hcut
     | _=>rfl
    rw[hnk] at hev ⊢
    have ih:=fun lp c s h K K' hK=>qBW (F:=F) (P:=P) (nt:=nt) n lp c s h K K' hK
    cases c with
    |skip=>exact hK _ _ _ hev
    |label l=>exact hK _ _ _ hev
    |ret=>exact hK _ _ _ hev
    |exit id=>exact hK _ _ _ hev
    |seq x y=>
     refine ih false x s h _ _ (fun e s h he=>?_) hev
     cases e with
     |normal=>exact ih false y s h K K' hK he
     | _=>exact hK _ _ _ he
    |block id b=>
     refine ih false b s h _ _ (fun e s h he=>?_) hev
     cases e with
     |exit id'=>
      simp only at he ⊢
      split
      ·rename_i hb;rw[hb] at he;exact hK _ _ _ he
      ·rename_i hb;rw[hb] at he;exact hK _ _ _ he
     | _=>exact hK _ _ _ he
    |scope b=>
     refine ih false b s h _ _ (fun e s h he=>?_) hev
     cases e with
     |goto l=>exact he
     | _=>exact hK _ _ _ he
    |cond o x y=>
     simp only[qEF] at hev ⊢
     split
     ·rename_i ee hee
      rw[hee] at hev
      simp only at hev
      split
      ·rename_i b hb
       rw[hb] at hev
       simp only at hev
       cases h with
       |br h1 h2=>exact⟨hev.1,fun ht=>ih false x s h1 K K' hK (hev.2.1 ht),fun hf=>ih false y s h2 K K' hK (hev.2.2 hf)⟩
       |yes r=>exact⟨hev.1,hev.2.1,ih false x s r K K' hK hev.2.2⟩
       |no r=>exact⟨hev.1,hev.2.1,ih false y s r K K' hK hev.2.2⟩
       | _=>exact hev
      ·rename_i hne
       cases hv:ee.val with
       |bool b=>exact absurd hv (hne b)
       | _=>rw[hv] at hev;exact hev
     ·rename_i hee;rw[hee] at hev;exact hev
    |loop b=>
     cases h with
     |sum R E S r=>exact⟨hev.1,fun x hx=>hK _ _ _ (hev.2 x hx)⟩
     |inv ts ps nx R S μ x0 r=>
      refine⟨hev.1,hev.2.1,fun x hx=>ih false b (S x) (r x) _ _ (fun e s h he=>?_) (hev.2.2 x hx)⟩
      cases e with
      |normal=>exact he
      | _=>exact hK _ _ _ he
     |peel ts ps nx R S μ B f r=>
      refine⟨ih false b s f _ _ (fun e s h he=>?_) hev.1,fun x hx=>ih false b (S x) (r x) _ _ (fun e s h he=>?_) (hev.2 x hx)⟩
      ·cases e with
       |normal=>exact he
       | _=>exact hK _ _ _ he
      ·cases e with
       |normal=>exact he
       | _=>exact hK _ _ _ he
     |yes f0=>
      refine ih false b s f0 _ _ (fun e s h he=>?_) hev
      cases e with
      |normal=>
       cases h with
       |peel ts ps nx R S μ B f r=>
        refine⟨ih false b s f _ _ (fun e s h he=>?_) he.1,fun x hx=>ih false b (S x) (r x) _ _ (fun e s h he=>?_) (he.2 x hx)⟩
        ·cases e with
         |normal=>exact he
         | _=>exact hK _ _ _ he
        ·cases e with
         |normal=>exact he
         | _=>exact hK _ _ _ he
       | _=>exact he.elim
      | _=>exact hK _ _ _ he
     | _=>exact ih true b s _ K K' hK hev
    |region id ops draw=>
     have hns:∀(m:Nat) (F G:List Nat→Prop),(∀l,F l→G l)→qRc m F→qRc m G:=by
      intro m
      induction m with
      |zero=>intro F G hFG h;exact hFG _ h
      |succ m ihm=>intro F G hFG h x;exact ihm _ _ (fun l hl=>hFG _ hl) (h x)
     cases h with
     |reg ks r=>
      simp only[qEF] at hev ⊢
      split
      ·rename_i hok
       rw[hok] at hev
       refine hns _ _ _ (fun ns h=>?_) hev
       split
       ·rename_i vc s' he
        rw[he] at h
        exact⟨h.1,hK _ _ _ h.2⟩
       ·rename_i he
        rw[he] at h;exact h
      ·rename_i hok
       rw[hok] at hev;exact hev
     |regn ks r=>
      simp only[qEF] at hev ⊢
      split
      ·rename_i hok
       rw[hok] at hev
       refine hns _ _ _ (fun ns h=>?_) hev
       split
       ·rename_i vc s' he
        rw[he] at h
        exact⟨h.1,hK _ _ _ h.2⟩
       ·rename_i he
        rw[he] at h;exact h
      ·rename_i hok
       rw[hok] at hev;exact hev
     |byF R E S r=>
      simp only[qEF] at hev ⊢
      split
      ·rename_i hok
       rw[hok] at hev
       exact⟨hev.1,fun x hx=>hK _ _ _ (hev.2 x hx)⟩
      ·rename_i hok
       rw[hok] at hev;exact hev
     | _=>exact hev
    |rangeFunc g ps asg bd=>
     cases h with
     |byF R E S r=>exact⟨hev.1,fun x hx=>hK _ _ _ (hev.2 x hx)⟩
     | _=>exact hev
    | _=>exact hev
theorem qZR {P:Program} {nt:Nat} (n:Nat) (lp:Bool) (c:Code) (s:St) (h:H) (K K':Exit→St→H→Prop) (hK:∀e s h,K e s h→K' e s h) (hev:ev P nt n lp c s h K):ev P nt n lp c s h K':=qBW n lp c s h K K' hK hev
theorem qAj {P:Program} {f:FuncId} {fn:Func} {c:Code} {args:List Value} {v:Value}
  (hmix:P.follows .mixedOrders=true) (hf:P.funcs[f]?=some fn) (hb:fn.body=some c) (hn:Nat.ble args.length fn.ntmps=true) (n:Nat) (h:H) (hs:List (Nat×Nat))
  (hev:ev P fn.ntmps n false c (start args []) h fun e s _=>jEf P fn hs v e s):qEs P f args v:=
 qAh hmix hf hb hn n h hs [] rfl (qZR n false c _ h _ _ (fun _ _ _ he=>qPn he) hev)
theorem t2:True∧True:=⟨trivial,trivial⟩
theorem sk {q:Prop} (h:q):(True∧True)∧q:=⟨t2,h⟩
theorem ad (n o:Nat):True∧(Value.pointer (some ⟨n,o,none⟩)=Value.pointer (some ⟨n,o,none⟩)):=⟨trivial,rfl⟩
structure N4 where
 a:UInt64
 b:UInt64
 c:UInt64
 d:UInt64
structure N8 where
 lo:N4
 hi:N4
def qG7 (x:N4):Value:=.agg #[u64 x.a,u64 x.b,u64 x.c,u64 x.d]
def qZe (x:N8):Value:=.agg #[u64 x.lo.a,u64 x.lo.b,u64 x.lo.c,u64 x.lo.d,u64 x.hi.a,u64 x.hi.b,u64 x.hi.c,u64 x.hi.d]
def b2u (b:Bool):UInt64:=match b with
 |true=>1
 |false=>0
def qGV (x y:UInt64) (c:Bool):UInt64:=x+y+b2u c
def qDB (x y:UInt64) (c:Bool):Bool:=decide (18446744073709551616≤x.toNat+y.toNat+c.toNat)
theorem qH0 (c:Bool):(b2u c).toNat=c.toNat:=by cases c<;>rfl
theorem qLW (x y:UInt64) (c:Bool):(qGV x y c).toNat=(x.toNat+y.toNat+c.toNat)%18446744073709551616:=by
 rw[qGV,UInt64.toNat_add,UInt64.toNat_add,qH0]
 cases c<;>simp only[Bool.toNat_true,Bool.toNat_false]<;>omega
theorem qL3 (x y:UInt64) (c:Bool):(qDB x y c).toNat=(x.toNat+y.toNat+c.toNat)/18446744073709551616:=by
 have h1:=x.toNat_lt
 have h2:=y.toNat_lt
 unfold qDB
 cases c<;>simp only[Bool.toNat_true,Bool.toNat_false]<;>
  (by_cases h:18446744073709551616≤x.toNat+y.toNat+0<;>by_cases h':18446744073709551616≤x.toNat+y.toNat+1<;>simp only[h,h',decide_true,decide_false,Bool.toNat_true,Bool.toNat_false]<;>omega)
theorem qLY {P:Program} {f:FuncId} {args:Array Operand} {ts:Array TypeId} {vs:List Value} {v:Value} (h:qAa P (callFunc f vs.toArray)=some (.value v)):
  qB0 P (.call {callee:=.value (.func f),args:=args,argTypes:=ts}) ((.func (.func f) #[] #[])::vs) v:=by
 intro ρ o ho hv
 rw[ho] at hv
 have hops:(Op.call {callee:=.value (.func f),args:=args,argTypes:=ts}).operands=#[.func f]++args:=rfl
 rw[hops] at hv
 simp only[Array.toList_append,List.map_cons,List.cons_append,List.nil_append,List.cons.injEq] at hv
 obtain⟨h1,h2⟩:=hv
 unfold execOp
 rw[ho]
 simp only
 show qAa P (Sem.bind (resolve ρ {callee:=.value (.func f),args:=args,argTypes:=ts} o.type) fun d=>invoke d.target d.args)=_
 have hargs:args.map ρ=vs.toArray:=by
  apply Array.ext'
  simpa using h2
 rw[qAX]
 simp only[resolve,h1,hargs,Deferred.ofValue]
 show qAa P (invoke (.fn (.func f) #[]) (#[]++vs.toArray))=_
 simp only[invoke,Array.empty_append,Array.append_empty]
 exact h
theorem qW2 (x y:UInt64) (c:Bool):Extern.MathBitsCarry.pair ((x.toNat+y.toNat+c.toNat)%Extern.MathBitsCarry.m64) ((x.toNat+y.toNat+c.toNat)/Extern.MathBitsCarry.m64)=
  .tuple #[u64 (qGV x y c),u64 (b2u (qDB x y c))]:=by
 unfold Extern.MathBitsCarry.pair u64
 rw[qLW,qH0,qL3]
 rfl
def N4.val (x:N4):Nat:=x.a.toNat+2^64*x.b.toNat+2^128*x.c.toNat+2^192*x.d.toNat
def qIR (x y:UInt64):UInt64:=.ofNat (x.toNat*y.toNat/18446744073709551616)
def qSI (x y:N4):N4:=⟨qGV x.a y.a false,qGV x.b y.b (qDB x.a y.a false),qGV x.c y.c (qDB x.b y.b (qDB x.a y.a false)),qGV x.d y.d (qDB x.c y.c (qDB x.b y.b (qDB x.a y.a false)))⟩
def qRm (x y:N4):Bool:=qDB x.d y.d (qDB x.c y.c (qDB x.b y.b (qDB x.a y.a false)))
theorem qAi {α β:Type} (P:Program) (s:Go.Sem α) (f:α→Go.Sem β):qAa P (s >>= f)=match qAa P s with
  |some a=>qAa P (f a)
  |none=>none:=qAX P s f
theorem qAk {P:Program} {t:TypeId} {d:TypeDesc} (h:P.underlying t=some d):qAa P (underlying t)=some d:=by
 unfold underlying
 rw[qAi]
 show qAa P (match P.underlying t with|some d=>pure d|none=>stuck "no such type")=_
 rw[h];rfl
theorem qJw {P:Program} {t:TypeId} {i:TypeInfo} (h:P.info? t=some i):qAa P (typeInfo t)=some i:=by
 unfold typeInfo
 rw[qAi]
 show qAa P (match P.info? t with|some i=>pure i|none=>stuck "no such type")=_
 rw[h];rfl
theorem qA4 {P:Program} {t:TypeId} {n:Nat} (h:qBZ P t=some n):qAa P (sizeOf t)=some n:=by
 simp only[qBZ,Option.map_eq_some_iff] at h
 obtain⟨i,hi,rfl⟩:=h
 unfold sizeOf
 rw[qAi,qJw hi];rfl
theorem qGm {P:Program} {e:TypeId} {k:IntKind} {cs:Array Value} {i:Nat} {v:Value} (he:P.underlying e=some (.int k)) (hv:cs[i]?=some v):qAa P (part e cs i)=some v:=by
 unfold part
 rw[qAi]
 have:qAa P (isAgg e)=some false:=by
  unfold isAgg
  rw[qAi,qAk he];rfl
 rw[this]
 simp only[Bool.false_eq_true,if_false,hv]
 rfl
theorem qHG {P:Program} {e:TypeId} {k:IntKind} (d:Nat) (a b:Int) (he:P.underlying e=some (.int k)):qAa P (Op.equalIn (d+1) e (.int k a) (.int k b))=some (a==b):=by
 unfold Op.equalIn
 rw[qAi,qAk he]
 simp only[if_true]
 rfl
theorem qKl {P:Program} {α β:Type} (A:Nat→Go.Sem α) (B:Nat→Go.Sem β) (E:α→β→Go.Sem Bool) (f:Nat→Bool):∀(l:List Nat),
  (∀i∈l,∃a b,qAa P (A i)=some a∧qAa P (B i)=some b∧qAa P (E a b)=some (f i))→
  qAa P (forIn l (none,()) fun i _=>do
   let a←A i
   let b←B i
   let r←E a b
   if(!r)=true then pure (ForInStep.done (some false,())) else pure (ForInStep.yield ((none:Option Bool),())))=some (if l.all f then(none,()) else(some false,()))
 |[],_=>rfl
 |i::l,h=>by
  obtain⟨a,b,h1,h2,h3⟩:=h i (by simp)
  have ih:=qKl A B E f l fun j hj=>h j (by simp[hj])
  rw[List.forIn_cons,qAi,qAi,h1]
  simp only
  rw[qAi,h2]
  simp only
  rw[qAi,h3]
  simp only
  cases hf:f i with
  |true=>
   simp only[Bool.not_true,Bool.false_eq_true,if_false,List.all_cons,hf,Bool.true_and]
   exact ih
  |false=>
   simp only[Bool.not_false,if_true,List.all_cons,hf,Bool.false_and,Bool.false_eq_true,if_false]
   rfl
theorem qHI {P:Program} {t e:TypeId} {k:IntKind} {n:Nat} (d:Nat) (xs ys:List Int) (ht:P.underlying t=some (.array n e)) (he:P.underlying e=some (.int k)) (hs:qBZ P e=some 1)
  (hx:xs.length=n) (hy:ys.length=n):
  qAa P (Op.equalIn (d+2) t (.agg (xs.map (Value.int k)).toArray) (.agg (ys.map (Value.int k)).toArray))=some ((List.range n).all fun i=>xs.getD i 0==ys.getD i 0):=by
 rw[Op.equalIn,qAi,qAk ht]
 simp only
 rw[qAi,qA4 hs]
 simp only
 rw[Std.Legacy.Range.forIn_eq_forIn_range',qAi]
 have hr:List.range' ({stop:=n,step_pos:=by omega}:Std.Legacy.Range).start ({stop:=n,step_pos:=by omega}:Std.Legacy.Range).size ({stop:=n,step_pos:=by omega}:Std.Legacy.Range).step=List.range n:=by
  simp[Std.Legacy.Range.size,List.range_eq_range']
 have key:=qKl (P:=P) (fun i=>part e (xs.map (Value.int k)).toArray (i*1)) (fun i=>part e (ys.map (Value.int k)).toArray (i*1)) (fun a b=>Op.equalIn (d+1) e a b)
  (fun i=>xs.getD i 0==ys.getD i 0) (List.range n) (fun i hi=>by
   have hi':=List.mem_range.1 hi
   refine⟨.int k (xs.getD i 0),.int k (ys.getD i 0),qGm he ?_,qGm he ?_,qHG d _ _ he⟩
   ·simp[List.getD,List.getElem?_eq_getElem (show i<xs.length by omega)]
   ·simp[List.getD,List.getElem?_eq_getElem (show i<ys.length by omega)])
 rw[←hr] at key
 erw [key]
 simp only[hr]
 generalize((List.range n).all fun i=>xs.getD i 0==ys.getD i 0)=q
 cases q<;>rfl
theorem qTH {P:Program} {op:BinOp} {t:TypeId} {x y:Operand} {xs ys:Array Value} (hg:P.eqGuardType P.depth t=false):
  qAa P (eqGuard op t x y (.agg xs) (.agg ys))=some ():=by
 unfold eqGuard
 cases op<;>first|rfl|(show qAa P (if(!P.eqGuardType P.depth t)=true then _ else _)=_;rw[hg];rfl)
theorem qFP (n:Int) (h:-9223372036854775808≤n∧n≤9223372036854775807):IntKind.i64.wrap n=n:=by
 have e:IntKind.i64.wrap n=if n%18446744073709551616≥9223372036854775808 then n%18446744073709551616-18446744073709551616 else n%18446744073709551616:=by
  simp[IntKind.wrap,IntKind.bits,IntKind.signed]
 rw[e];split<;>omega
section ints
variable {P:Program} {t t':TypeId} {x y:Operand} (a b:Int)
end ints
theorem qZ0 {a b:Bool}:a=true→b=true→qA1 a b false=true:=by cases a<;>cases b<;>simp[qA1]
theorem qWj {a b:Bool} (h:qA1 a b false=true):a=true:=by cases a<;>first|rfl|cases h
theorem qVC {a b:Bool} (h:qA1 a b false=true):b=true:=by cases a<;>first|exact h|cases h
theorem qB9 {a b:Bool} (h:qA1 a b false=true):a=true:=by cases a<;>first|rfl|cases h
theorem qCg {a b:Bool} (h:qA1 a b false=true):b=true:=by cases a<;>first|exact h|cases h
theorem qCA {a b:Bool} (h:qA1 a b false=false):a=false∨b=false:=by cases a<;>first|exact .inl rfl|exact .inr h
theorem qKV {a b:Bool} (h:qA1 a true b=true):a=true∨b=true:=by cases a<;>first|exact .inl rfl|exact .inr h
theorem qFu {a b:Bool} (h:qA1 a true b=false):a=false:=by cases a<;>first|rfl|cases h
theorem qFf {a b:Bool} (h:qA1 a true b=false):b=false:=by cases a<;>first|exact h|cases h
theorem qAo {x:Bool} (h:sB x true=true):x=true:=h
theorem qBF {x:Bool} (h:sB x false=true):x=false:=by cases x<;>first|rfl|cases h
theorem qBr {x:Bool} (h:x=true):sB x true=true:=h
theorem qBf {x:Bool} (h:x=false):sB x false=true:=by rw[h];rfl
def gtL (a b c d:UInt64):UInt64:=qGV (qGV (a*b) c false) d false
def gtH (a b c d:UInt64):UInt64:=qIR a b+b2u (qDB (a*b) c false)+b2u (qDB (qGV (a*b) c false) d false)
structure Row where
 a:UInt64
 b:UInt64
 c:UInt64
 d:UInt64
 e:UInt64
def qEQ (x:UInt64) (y:N4) (w0 w1 w2 w3:UInt64):Row:=
 ⟨gtL x y.a w0 0,gtL x y.b w1 (gtH x y.a w0 0),gtL x y.c w2 (gtH x y.b w1 (gtH x y.a w0 0)),
  gtL x y.d w3 (gtH x y.c w2 (gtH x y.b w1 (gtH x y.a w0 0))),
  gtH x y.d w3 (gtH x y.c w2 (gtH x y.b w1 (gtH x y.a w0 0)))⟩
def qOo (x y:N4):Row:=qEQ x.a y 0 0 0 0
def qPm (x y:N4):Row:=qEQ x.b y (qOo x y).b (qOo x y).c (qOo x y).d (qOo x y).e
def qPf (x y:N4):Row:=qEQ x.c y (qPm x y).b (qPm x y).c (qPm x y).d (qPm x y).e
def qTs (x y:N4):Row:=qEQ x.d y (qPf x y).b (qPf x y).c (qPf x y).d (qPf x y).e
def qLl (x y:N4):N8:=⟨⟨(qOo x y).a,(qPm x y).a,(qPf x y).a,(qTs x y).a⟩,⟨(qTs x y).b,(qTs x y).c,(qTs x y).d,(qTs x y).e⟩⟩
def qGe (x y:UInt64):Int:=match decide (x<y) with
 |true=>-1
 |false=>match decide (y<x) with
  |true=>1
  |false=>0
def qOg (x y:N4):Int:=
 if qGe x.d y.d≠0 then qGe x.d y.d else if qGe x.c y.c≠0 then qGe x.c y.c else if qGe x.b y.b≠0 then qGe x.b y.b else qGe x.a y.a
theorem jC2 (x:UInt64):(x&&&4294967295).toNat=x.toNat%4294967296:=by
 rw[UInt64.toNat_and]
 exact Nat.and_two_pow_sub_one_eq_mod x.toNat 32
theorem qJC {a b:Nat} (ha:a<4294967296) (hb:b<4294967296):a*b≤18446744065119617025:=
 Nat.mul_le_mul (Nat.le_of_lt_succ ha) (Nat.le_of_lt_succ hb)
theorem qWL (x y:UInt64):(qAe x 32)*(qAe y 32)+qAe (((qAe x 32)*(y&&&4294967295))+(qAe ((x&&&4294967295)*(y&&&4294967295)) 32)) 32+
  qAe (((((qAe x 32)*(y&&&4294967295))+(qAe ((x&&&4294967295)*(y&&&4294967295)) 32))&&&4294967295)+((x&&&4294967295)*(qAe y 32))) 32=qIR x y:=by
 apply UInt64.toNat_inj.1
 have hx:=x.toNat_lt
 have hy:=y.toNat_lt
 have x0:(x&&&4294967295).toNat=x.toNat%4294967296:=jC2 x
 have y0:(y&&&4294967295).toNat=y.toNat%4294967296:=jC2 y
 have x1:(qAe x 32).toNat=x.toNat/4294967296:=qBS x 32
 have y1:(qAe y 32).toNat=y.toNat/4294967296:=qBS y 32
 have b00:=qJC (Nat.mod_lt x.toNat (show 0<4294967296 by omega)) (Nat.mod_lt y.toNat (show 0<4294967296 by omega))
 have hx1:x.toNat/4294967296<4294967296:=by omega
 have hy1:y.toNat/4294967296<4294967296:=by omega
 have b10:=qJC hx1 (Nat.mod_lt y.toNat (show 0<4294967296 by omega))
 have b01:=qJC (Nat.mod_lt x.toNat (show 0<4294967296 by omega)) hy1
 have b11:=qJC hx1 hy1
 have key:x.toNat*y.toNat=18446744073709551616*(x.toNat/4294967296*(y.toNat/4294967296))+4294967296*(x.toNat/4294967296*(y.toNat%4294967296))+
   4294967296*(x.toNat%4294967296*(y.toNat/4294967296))+x.toNat%4294967296*(y.toNat%4294967296):=by
  have e1:=Nat.div_add_mod x.toNat 4294967296
  have e2:=Nat.div_add_mod y.toNat 4294967296
  generalize x.toNat/4294967296=p at*
  generalize x.toNat%4294967296=q at*
  generalize y.toNat/4294967296=r at*
  generalize y.toNat%4294967296=s at*
  rw[←e1,←e2,Nat.add_mul,Nat.mul_add,Nat.mul_add]
  have h1:4294967296*p*(4294967296*r)=18446744073709551616*(p*r):=by
   rw[Nat.mul_mul_mul_comm]
  have h2:4294967296*p*s=4294967296*(p*s):=Nat.mul_assoc _ _ _
  have h3:q*(4294967296*r)=4294967296*(q*r):=Nat.mul_left_comm _ _ _
  omega
 have hi:(qIR x y).toNat=x.toNat*y.toNat/18446744073709551616:=by
  have:x.toNat*y.toNat/18446744073709551616<18446744073709551616:=by rw[key];omega
  rw[qIR,UInt64.toNat_ofNat',Nat.mod_eq_of_lt this]
 rw[hi,key]
 have m00:((x&&&4294967295)*(y&&&4294967295)).toNat=x.toNat%4294967296*(y.toNat%4294967296):=by
  rw[UInt64.toNat_mul,x0,y0];omega
 have m10:((qAe x 32)*(y&&&4294967295)).toNat=x.toNat/4294967296*(y.toNat%4294967296):=by
  rw[UInt64.toNat_mul,x1,y0];omega
 have m01:((x&&&4294967295)*(qAe y 32)).toNat=x.toNat%4294967296*(y.toNat/4294967296):=by
  rw[UInt64.toNat_mul,x0,y1];omega
 have m11:((qAe x 32)*(qAe y 32)).toNat=x.toNat/4294967296*(y.toNat/4294967296):=by
  rw[UInt64.toNat_mul,x1,y1];omega
 clear key hi x0 y0 x1 y1
 generalize x.toNat%4294967296*(y.toNat%4294967296)=p00 at*
 generalize x.toNat/4294967296*(y.toNat%4294967296)=p10 at*
 generalize x.toNat%4294967296*(y.toNat/4294967296)=p01 at*
 generalize x.toNat/4294967296*(y.toNat/4294967296)=p11 at*
 have s1:(qAe ((x&&&4294967295)*(y&&&4294967295)) 32).toNat=p00/4294967296:=by rw[qBS,m00]
 have t1:(((qAe x 32)*(y&&&4294967295))+(qAe ((x&&&4294967295)*(y&&&4294967295)) 32)).toNat=p10+p00/4294967296:=by
  rw[UInt64.toNat_add,m10,s1];omega
 have t2:(qAe (((qAe x 32)*(y&&&4294967295))+(qAe ((x&&&4294967295)*(y&&&4294967295)) 32)) 32).toNat=(p10+p00/4294967296)/4294967296:=by rw[qBS,t1]
 have t3:((((qAe x 32)*(y&&&4294967295))+(qAe ((x&&&4294967295)*(y&&&4294967295)) 32))&&&4294967295).toNat=(p10+p00/4294967296)%4294967296:=by rw[jC2,t1]
 have t4:(((((qAe x 32)*(y&&&4294967295))+(qAe ((x&&&4294967295)*(y&&&4294967295)) 32))&&&4294967295)+((x&&&4294967295)*(qAe y 32))).toNat=
   (p10+p00/4294967296)%4294967296+p01:=by
  rw[UInt64.toNat_add,t3,m01];omega
 have t5:(qAe (((((qAe x 32)*(y&&&4294967295))+(qAe ((x&&&4294967295)*(y&&&4294967295)) 32))&&&4294967295)+((x&&&4294967295)*(qAe y 32))) 32).toNat=
   ((p10+p00/4294967296)%4294967296+p01)/4294967296:=by rw[qBS,t4]
 rw[UInt64.toNat_add,UInt64.toNat_add,m11,t2,t5]
 omega
theorem qGR (x y:UInt64) (c:Bool):(qGV x y c).toNat+18446744073709551616*(qDB x y c).toNat=x.toNat+y.toNat+c.toNat:=by
 rw[qLW,qL3];omega
theorem N4.val_lt (x:N4):x.val<2^256:=by
 have:=x.a.toNat_lt;have:=x.b.toNat_lt;have:=x.c.toNat_lt;have:=x.d.toNat_lt
 unfold N4.val;omega
theorem N4.ext_val {x y:N4} (h:x.val=y.val):x=y:=by
 have:=x.a.toNat_lt;have:=x.b.toNat_lt;have:=x.c.toNat_lt;have:=x.d.toNat_lt
 have:=y.a.toNat_lt;have:=y.b.toNat_lt;have:=y.c.toNat_lt;have:=y.d.toNat_lt
 unfold N4.val at h
 have h1:x.a.toNat=y.a.toNat:=by omega
 have h2:x.b.toNat=y.b.toNat:=by omega
 have h3:x.c.toNat=y.c.toNat:=by omega
 have h4:x.d.toNat=y.d.toNat:=by omega
 cases x;cases y
 simp only at h1 h2 h3 h4
 rw[UInt64.toNat_inj.1 h1,UInt64.toNat_inj.1 h2,UInt64.toNat_inj.1 h3,UInt64.toNat_inj.1 h4]
theorem qWZ (x y:N4):(qSI x y).val+2^256*(qRm x y).toNat=x.val+y.val:=by
 have h1:=qGR x.a y.a false
 have h2:=qGR x.b y.b (qDB x.a y.a false)
 have h3:=qGR x.c y.c (qDB x.b y.b (qDB x.a y.a false))
 have h4:=qGR x.d y.d (qDB x.c y.c (qDB x.b y.b (qDB x.a y.a false)))
 simp only[Bool.toNat_false] at h1
 simp only[N4.val,qSI,qRm]
 omega
theorem qQv (b:Bool):b.toNat≤1:=by cases b<;>simp
theorem qYd (x y:UInt64):qGe x y=if x.toNat<y.toNat then-1 else if y.toNat<x.toNat then 1 else 0:=by
 unfold qGe
 by_cases h:x.toNat<y.toNat
 ·have:decide (x<y)=true:=decide_eq_true (UInt64.lt_iff_toNat_lt.2 h)
  rw[this,if_pos h]
 ·have:decide (x<y)=false:=decide_eq_false (fun h'=>h (UInt64.lt_iff_toNat_lt.1 h'))
  rw[this,if_neg h]
  by_cases h2:y.toNat<x.toNat
  ·have:decide (y<x)=true:=decide_eq_true (UInt64.lt_iff_toNat_lt.2 h2)
   rw[this,if_pos h2]
  ·have:decide (y<x)=false:=decide_eq_false (fun h'=>h2 (UInt64.lt_iff_toNat_lt.1 h'))
   rw[this,if_neg h2]
def ord (a b:Nat):Int:=if a<b then-1 else if b<a then 1 else 0
theorem qYf (x y:N4):qOg x y=ord x.val y.val:=by
 have:=x.a.toNat_lt;have:=x.b.toNat_lt;have:=x.c.toNat_lt;have:=x.d.toNat_lt
 have:=y.a.toNat_lt;have:=y.b.toNat_lt;have:=y.c.toNat_lt;have:=y.d.toNat_lt
 unfold qOg ord N4.val
 simp only[qYd]
 by_cases hd:x.d.toNat<y.d.toNat
 ·rw[if_pos hd,if_pos (by omega),if_pos (by omega)]
 ·by_cases hd':y.d.toNat<x.d.toNat
  ·rw[if_neg hd,if_pos hd',if_pos (by omega),if_neg (by omega),if_pos (by omega)]
  ·rw[if_neg hd,if_neg hd',if_neg (by omega)]
   by_cases hc:x.c.toNat<y.c.toNat
   ·rw[if_pos hc,if_pos (by omega),if_pos (by omega)]
   ·by_cases hc':y.c.toNat<x.c.toNat
    ·rw[if_neg hc,if_pos hc',if_pos (by omega),if_neg (by omega),if_pos (by omega)]
    ·rw[if_neg hc,if_neg hc',if_neg (by omega)]
     by_cases hb:x.b.toNat<y.b.toNat
     ·rw[if_pos hb,if_pos (by omega),if_pos (by omega)]
     ·by_cases hb':y.b.toNat<x.b.toNat
      ·rw[if_neg hb,if_pos hb',if_pos (by omega),if_neg (by omega),if_pos (by omega)]
      ·rw[if_neg hb,if_neg hb',if_neg (by omega)]
       by_cases ha:x.a.toNat<y.a.toNat
       ·rw[if_pos ha,if_pos (by omega)]
       ·by_cases ha':y.a.toNat<x.a.toNat
        ·rw[if_neg ha,if_pos ha',if_neg (by omega),if_pos (by omega)]
        ·rw[if_neg ha,if_neg ha',if_neg (by omega),if_neg (by omega)]
theorem qVR (a b:UInt64):a.toNat*b.toNat≤340282366920938463426481119284349108225:=
 Nat.mul_le_mul (Nat.le_of_lt_succ a.toNat_lt) (Nat.le_of_lt_succ b.toNat_lt)
theorem qGK (a b c d:UInt64):(gtL a b c d).toNat+18446744073709551616*(gtH a b c d).toNat=a.toNat*b.toNat+c.toNat+d.toNat:=by
 have hm:=qVR a b
 have hc:=c.toNat_lt
 have hd:=d.toNat_lt
 have h0:(a*b).toNat=a.toNat*b.toNat%18446744073709551616:=UInt64.toNat_mul a b
 have h1:(qIR a b).toNat=a.toNat*b.toNat/18446744073709551616:=by
  rw[qIR,UInt64.toNat_ofNat',Nat.mod_eq_of_lt (by omega)]
 have h2:=qGR (a*b) c false
 have h3:=qGR (qGV (a*b) c false) d false
 simp only[Bool.toNat_false,Nat.add_zero] at h2 h3
 have h4:=qQv (qDB (a*b) c false)
 have h5:=qQv (qDB (qGV (a*b) c false) d false)
 unfold gtL gtH
 rw[UInt64.toNat_add,UInt64.toNat_add,qH0,qH0,h1]
 generalize a.toNat*b.toNat=m at*
 omega
theorem qMm (x:UInt64) (y:N4) (w0 w1 w2 w3:UInt64):
  (qEQ x y w0 w1 w2 w3).a.toNat+18446744073709551616*((qEQ x y w0 w1 w2 w3).b.toNat+18446744073709551616*((qEQ x y w0 w1 w2 w3).c.toNat+18446744073709551616*((qEQ x y w0 w1 w2 w3).d.toNat+18446744073709551616*(qEQ x y w0 w1 w2 w3).e.toNat)))=
   x.toNat*y.val+(w0.toNat+18446744073709551616*(w1.toNat+18446744073709551616*(w2.toNat+18446744073709551616*w3.toNat))):=by
 have h1:=qGK x y.a w0 0
 have h2:=qGK x y.b w1 (gtH x y.a w0 0)
 have h3:=qGK x y.c w2 (gtH x y.b w1 (gtH x y.a w0 0))
 have h4:=qGK x y.d w3 (gtH x y.c w2 (gtH x y.b w1 (gtH x y.a w0 0)))
 have h0:(0:UInt64).toNat=0:=rfl
 rw[h0] at h1
 have hv:x.toNat*y.val=x.toNat*y.a.toNat+2^64*(x.toNat*y.b.toNat)+2^128*(x.toNat*y.c.toNat)+2^192*(x.toNat*y.d.toNat):=by
  unfold N4.val
  rw[Nat.mul_add,Nat.mul_add,Nat.mul_add,Nat.mul_left_comm,Nat.mul_left_comm _ (2^128),Nat.mul_left_comm _ (2^192)]
 rw[hv]
 simp only[qEQ]
 omega
theorem qV1 (x y:N4):(qLl x y).lo.val+2^256*(qLl x y).hi.val=x.val*y.val:=by
 have h1:=qMm x.a y 0 0 0 0
 have h2:=qMm x.b y (qOo x y).b (qOo x y).c (qOo x y).d (qOo x y).e
 have h3:=qMm x.c y (qPm x y).b (qPm x y).c (qPm x y).d (qPm x y).e
 have h4:=qMm x.d y (qPf x y).b (qPf x y).c (qPf x y).d (qPf x y).e
 have h0:(0:UInt64).toNat=0:=rfl
 rw[h0] at h1
 have e1:qEQ x.a y 0 0 0 0=qOo x y:=rfl
 have e2:qEQ x.b y (qOo x y).b (qOo x y).c (qOo x y).d (qOo x y).e=qPm x y:=rfl
 have e3:qEQ x.c y (qPm x y).b (qPm x y).c (qPm x y).d (qPm x y).e=qPf x y:=rfl
 have e4:qEQ x.d y (qPf x y).b (qPf x y).c (qPf x y).d (qPf x y).e=qTs x y:=rfl
 rw[e1] at h1;rw[e2] at h2;rw[e3] at h3;rw[e4] at h4
 have hv:x.val*y.val=x.a.toNat*y.val+2^64*(x.b.toNat*y.val)+2^128*(x.c.toNat*y.val)+2^192*(x.d.toNat*y.val):=by
  have:x.val=x.a.toNat+2^64*x.b.toNat+2^128*x.c.toNat+2^192*x.d.toNat:=rfl
  rw[this,Nat.add_mul,Nat.add_mul,Nat.add_mul,Nat.mul_assoc,Nat.mul_assoc,Nat.mul_assoc]
 rw[hv]
 have hlo:(qLl x y).lo.val=(qOo x y).a.toNat+2^64*(qPm x y).a.toNat+2^128*(qPf x y).a.toNat+2^192*(qTs x y).a.toNat:=rfl
 have hhi:(qLl x y).hi.val=(qTs x y).b.toNat+2^64*(qTs x y).c.toNat+2^128*(qTs x y).d.toNat+2^192*(qTs x y).e.toNat:=rfl
 rw[hlo,hhi]
 generalize x.a.toNat*y.val=p1 at*
 generalize x.b.toNat*y.val=p2 at*
 generalize x.c.toNat*y.val=p3 at*
 generalize x.d.toNat*y.val=p4 at*
 omega
end Go.Eng
end
