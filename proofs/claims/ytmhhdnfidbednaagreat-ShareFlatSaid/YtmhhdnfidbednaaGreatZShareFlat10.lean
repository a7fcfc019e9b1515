/-
  Many in one: EngRf.
-/
import Derived.Test.YtmhhdnfidbednaaGreatZShareFlat9
import Derived.Below
import Derived.RangeFuncFrom
set_option linter.unusedVariables false
set_option linter.unusedSimpArgs false
set_option maxRecDepth 100000
set_option maxHeartbeats 1000000
section
namespace Go.Eng
variable {ds:Nat}
def TmOk (nt:Nat) (env:Nat→Option EV) (tm:Array Value):Prop:=tm.size=nt∧∀ t e,env t=some e→tm[t]? = some e.den
def yv (l:Nat):Value:=.func (.yield l) #[] #[]
def recL (st:LoopState) (pe:Option Code) (fn:FuncId) (tm:Array Value) (ps:Array Tmp) (asg bd:Code) (D:Nat):Loop :=
  { state:=st,pending:=pe,fn,tmps:=tm,params:=ps,assign:=asg,body:=bd,defers:=D }
def stL (pe:Option Code):LoopState:=match pe with | none=>.ready | some _=>.done
def loopB (l:Nat) (L:Loop):Blk:=⟨l,true,0,.map (.o (.loop L)) 0⟩
theorem loopB_holds {l:Nat} {L:Loop} {w:World} (h:w.heap[l]? = some (.loop L)):Holds (loopB l L) w :=
  ⟨(Array.getElem?_eq_some_iff.1 h).1,(fun o v ho=>by cases ho),(fun _ o v ho=>by cases ho),h⟩
def shB (x:Option Blk) (m:Nat→Option Blk):Nat→Option Blk
  | 0=>x
  | p+1=>m p
def shP (ps:List (Nat × Bool)):List (Nat × Bool):=ps.map fun x=>(x.1+1,x.2)
theorem lendO_sh (x:Option Blk) (m:Nat→Option Blk):∀ ps:List (Nat × Bool),lendO (shB x m) (shP ps)=lendO m ps
  | []=>rfl
  | (p,ro) :: r=>by
    show _ :: lendO (shB x m) (shP r)=_ :: lendO m r
    rw [lendO_sh x m r]; rfl
theorem look_sh:∀ (ps:List (Nat × Bool)) (nx:Nat) (out:List (Option Blk)) (p:Nat),look (outUpd (shP ps) (nx+1) out) (p+1)=look (outUpd ps nx out) p
  | [],nx,[],p=>rfl
  | [],nx,b :: out,p=>by
    show look ((nx+1,b) :: outUpd [] (nx+1+1) out) (p+1)=look ((nx,b) :: outUpd [] (nx+1) out) p
    rw [look_cons,look_cons]
    have:=look_sh [] (nx+1) out p
    by_cases h:nx=p
    · rw [if_pos h,if_pos (by omega)]
    · rw [if_neg h,if_neg (by omega)]; exact this
  | (q,ro) :: r,nx,[],p=>rfl
  | (q,true) :: r,nx,b :: out,p=>look_sh r nx out p
  | (q,false) :: r,nx,b :: out,p=>by
    show look ((q+1,b) :: outUpd (shP r) (nx+1) out) (p+1)=look ((q,b) :: outUpd r nx out) p
    rw [look_cons,look_cons]
    by_cases h:q=p
    · rw [if_pos h,if_pos (by omega)]
    · rw [if_neg h,if_neg (by omega)]; exact look_sh r nx out p
theorem apply_sh (x x' : Option Blk) (m : Nat → Option Blk) (ps : List (Nat × Bool)) (nx : Nat) (out : List (Option Blk)) :
    memApply (shB x m) (outUpd ((0,false) :: shP ps) (nx+1) (x' :: out))=shB x' (memApply m (outUpd ps nx out)):=by
  funext p
  show(match look ((0,x') :: outUpd (shP ps) (nx+1) out) p with | some ob=>ob | none=>shB x m p)=_
  rw [look_cons]
  cases p with
  | zero=>rfl
  | succ p =>
    rw [if_neg (by omega),look_sh]
    rfl
theorem memOf_app (l r:List (Nat × Option Blk)):memOf (l ++ r)=memApply (memOf r) l:=by
  funext p
  unfold memOf memApply
  induction l with
  | nil=>rfl
  | cons x l ih =>
    obtain⟨q,b⟩:=x
    simp only [List.cons_append,look_cons]
    by_cases h:q=p
    · simp [h]
    · simp only [h,if_false]; exact ih
theorem shB_owns {x:Option Blk} {m:Nat→Option Blk} {k:Nat} (h:Owns (shB x m) k):(∃ b,x=some b∧b.own=true∧b.has k)∨Owns m k:=by
  obtain⟨p,b,h1,h2,h3⟩:=h
  cases p with
  | zero=>exact .inl ⟨b,h1,h2,h3⟩
  | succ p=>exact .inr ⟨p,b,h1,h2,h3⟩
theorem awp_rangeFunc {F : Blk → Prop} {P : Program} {nt : Nat} {g : Operand} {ps : Array Tmp} {asg bd : Code} {s : St} {gf : Nat} {caps : List Value} {psl : List (Nat × Bool)} {k : Nat} {v : List Nat → Value}
    {out:List Nat→List (Option Blk)} {pe:Option Code} {E:Exit} (hg:opdEV s.fs.env g=some (.v (.func (.func gf) #[] caps.toArray))) (eg:∀ args w,(callFunc gf args).run P w = .ok (.enter gf args) w)
    (hn:nodupPs psl=true) (hlen:∀ ns,ns.length=k→psl.length≤(out ns).length) (hpe:pe=none∧E = .normal∨pe=some .ret∧E = .ret∨∃ id,pe=some (.exit id)∧E = .exit id) (nb:Nat)
    (hc:∀ l D fn tm,TmOk nt s.fs.env tm→RunsO F P gf (yv l :: caps) (some (loopB l (recL .ready none fn tm ps asg bd D)) :: lendO s.fs.mem psl) k v
      (fun ns=>some (loopB l (recL (stL pe) pe fn tm ps asg bd D)) :: out ns)) :
    AWPF F ds P nt (.rangeFunc g ps asg bd) s (fun e s'=>∃ ns:List Nat,ns.length=k∧e=E∧s'=⟨s.env,outUpd psl s.nx (out ns) ++ s.mem,s.nx+nb⟩):=by
  intro a w hs hF
  refine(wpIn_wide (n:=1)).1 (wpIn_rangeFunc (F:=Fence.wide) (n:=1) ?_)
  intro fn _
  obtain⟨l,hl⟩:∃ l,l=w.heap.size+1:=⟨_,rfl⟩
  obtain⟨W1,hW1⟩:∃ W1,(w.alloc (.deferred (some []))).alloc (.loop (recL .ready none fn a.tmps ps asg bd w.heap.size))=W1:=⟨_,rfl⟩
  have hL1:W1.heap[l]? = some (.loop (recL .ready none fn a.tmps ps asg bd w.heap.size)):=by
    rw [← hW1,hl]; have:=World.alloc_heap_new (w.alloc (.deferred (some []))) (.loop (recL .ready none fn a.tmps ps asg bd w.heap.size)); rwa [World.size_alloc] at this
  have hK1:W1.heap[w.heap.size]? = some (.deferred (some [])):=by
    rw [← hW1]; exact(Go.RowKit.Below.heap_alloc _ _ _ (by simp)).trans (World.alloc_heap_new w _)
  have hsz:W1.heap.size=w.heap.size+2:=by rw [← hW1]; simp
  have hold:∀ q,q < w.heap.size→W1.heap[q]? = w.heap[q]?:=fun q hq=>by
    rw [← hW1]; exact(Go.RowKit.Below.heap_alloc _ _ _ (by simp; omega)).trans (Go.RowKit.Below.heap_alloc _ _ _ hq)
  have hev:a.eval g = .func (.func gf) #[] caps.toArray:=opd_eval hs hg
  refine⟨l,[{ target:=.collected w.heap.size,args:=#[] }],W1,{ target:=.fn (.func gf) caps.toArray,args:=#[.func (.yield l) #[] #[]] },W1,gf,
    #[.func (.yield l) #[] #[]] ++ caps.toArray,W1,?_,?_,fun _ _=>trivial,?_,fun _=>Nat.le_refl _,?_⟩
  · rw [← hW1,hl]; exact run_enterLoop_outer _ _ _ _ _
  · simp only [resolve,hev]
    simp [go_sem]
  · simp [invoke,go_sem,eg]
  have hm1:∀ p b,shB (some (loopB l (recL .ready none fn a.tmps ps asg bd w.heap.size))) s.fs.mem p=some b→Holds b W1:=fun p b hb=>by
    cases p with
    | zero=>injection hb with hb; subst hb; exact loopB_holds hL1
    | succ p=>have:=hs.mem p b hb; exact this.of_heap (by omega) fun k hk=>hold _ (this.has_lt hk)
  have ha1:Apart (shB (some (loopB l (recL .ready none fn a.tmps ps asg bd w.heap.size))) s.fs.mem):=fun p q b c hpq hb hc ho=>by
    cases p with
    | zero =>
      cases q with
      | zero=>exact absurd rfl hpq
      | succ q=>injection hb with hb; subst hb; intro k k1 k2; have:=(hs.mem q c hc).has_lt k2; have:l=k:=k1; omega
    | succ p =>
      cases q with
      | zero=>injection hc with hc; subst hc; intro k k1 k2; have:=(hs.mem p b hb).has_lt k1; have:l=k:=k2; omega
      | succ q=>exact hs.apart p q b c (by omega) hb hc ho
  have hF1:Fam F (shB (some (loopB l (recL .ready none fn a.tmps ps asg bd w.heap.size))) s.fs.mem) W1:=fun b hb=>by
    obtain⟨h1,h2,h3⟩:=hF b hb
    refine⟨h1.of_heap (by omega) fun k hk=>hold _ (h1.has_lt hk),h2,fun k hk ho=>?_⟩
    rcases shB_owns ho with ⟨c,e,_,h5⟩ | h4
    · injection e with e; subst e; have:=h1.has_lt hk; have:l=k:=h5; omega
    · exact h3 k hk h4
  have hn1:nodupPs ((0,false) :: shP psl)=true:=by
    have h1:∀ qs:List (Nat × Bool),nodupPs qs=true→nodupPs (shP qs)=true:=by
      intro qs
      induction qs with
      | nil=>intro _; rfl
      | cons x r ih =>
        intro h
        simp only [nodupPs,Bool.and_eq_true,List.all_eq_true] at h
        show((shP r).all _ && nodupPs (shP r))=true
        rw [ih h.2,Bool.and_true,List.all_eq_true]
        intro y hy
        obtain⟨z,hz,rfl⟩:=List.mem_map.1 hy
        exact h.1 z hz
    show((shP psl).all _ && nodupPs (shP psl))=true
    rw [h1 psl hn,Bool.and_true,List.all_eq_true]
    intro y hy
    obtain⟨z,hz,rfl⟩:=List.mem_map.1 hy
    rfl
  have hlend:lendO (shB (some (loopB l (recL .ready none fn a.tmps ps asg bd w.heap.size))) s.fs.mem) ((0,false) :: shP psl)=some (loopB l (recL .ready none fn a.tmps ps asg bd w.heap.size)) :: lendO s.fs.mem psl:=by
    show _ :: lendO _ (shP psl)=_
    rw [lendO_sh]; rfl
  have hcall:=hc l w.heap.size fn a.tmps ⟨hs.size,hs.env⟩ W1 (by rw [← hlend]; exact lendO_holds hm1) (by rw [← hlend]; exact lendO_apart ha1 hn1) (by rw [← hlend]; exact fam_lendO hF1)
  have hargs:(yv l :: caps).toArray = #[.func (.yield l) #[] #[]] ++ caps.toArray:=by simp [yv]
  rw [hargs] at hcall
  refine callsIn_wide.2 (Calls.mono hcall ?_)
  rintro e W2 ⟨ns,hns,rfl,hp⟩
  have hl0:=(hp.holds 0 _ rfl).objm rfl
  have hl2:W2.heap[l]? = some (.loop (recL (stL pe) pe fn a.tmps ps asg bd w.heap.size)):=hl0
  have hp1:=post_frameO (nx:=s.nx+1) (out:=some (loopB l (recL (stL pe) pe fn a.tmps ps asg bd w.heap.size)) :: out ns) hm1 ha1 (ps:=(0,false) :: shP psl) (by simp [shP]; exact hlen ns hns) (by rw [hlend]; exact hp)
  rw [apply_sh] at hp1
  obtain⟨W4,hW4⟩:∃ W4,W2.putObj l (.loop { recL (stL pe) pe fn a.tmps ps asg bd w.heap.size with state:=.exhausted })=W4:=⟨_,rfl⟩
  have hoth:∀ q,q≠l→W4.heap[q]? = W2.heap[q]?:=fun q hq=>by rw [← hW4]; exact World.putObj_heap_other hq
  have hsz4:W4.heap.size=W2.heap.size:=by rw [← hW4]; simp [World.putObj]
  have hname:∀ p b,memApply s.fs.mem (outUpd psl s.nx (out ns)) p=some b→¬ b.has l:=fun p b hb e=>by
    cases ho:b.own with
    | true=>exact hp1.apart (p+1) 0 b _ (by omega) hb rfl ho l e rfl
    | false=>have h1:=hp1.adv.ro (p+1) b hb ho; have:=(hs.mem p b h1).has_lt e; omega
  have hnames:∀ q,Owns (memApply s.fs.mem (outUpd psl s.nx (out ns))) q→Owns s.fs.mem q∨w.heap.size+2≤q:=fun q hq=>by
    obtain⟨p,b,h1,h2,h3⟩:=hq
    rcases hp1.adv.names q ⟨p+1,b,h1,h2,h3⟩ with h4 | h4
    · rcases shB_owns h4 with ⟨c,e,_,h5⟩ | h5
      · injection e with e; subst e; have:l=q:=h5; subst this; exact absurd h3 (hname p b h1)
      · exact .inl h5
    · exact .inr (by omega)
  have hkeep:∀ q,q < W1.heap.size→q≠l→¬ Owns s.fs.mem q→W4.heap[q]? = W1.heap[q]?:=fun q hq hql hno=>by
    rw [hoth q hql]
    refine hp1.adv.heap q hq fun ho=>?_
    rcases shB_owns ho with ⟨c,e,_,h5⟩ | h5
    · injection e with e; subst e; exact hql h5.symm
    · exact hno h5
  obtain⟨hB,D,hD1,hD2,hD3⟩:=hs.defers
  have hfs:(St.mk s.env (outUpd psl s.nx (out ns) ++ s.mem) (s.nx+nb)).fs.mem=memApply s.fs.mem (outUpd psl s.nx (out ns)):=memOf_app _ _
  have hmk:w.heap.size ∉ D:=fun h=>by
    have:=(Array.getElem?_eq_some_iff.1 (hD3 _ h).2.1).1; omega
  have hno0:¬ Owns s.fs.mem w.heap.size:=fun⟨p,b,h1,_,h3⟩=>by have:=(hs.mem p b h1).has_lt h3; omega
  have hsat:Sat ds nt (St.mk s.env (outUpd psl s.nx (out ns) ++ s.mem) (s.nx+nb)).fs { a with defers:=[{ target:=.collected w.heap.size,args:=#[] }] ++ a.defers } W4:=by
    refine⟨⟨?_,w.heap.size :: D,List.nodup_cons.2 ⟨hmk,hD1⟩,by simp [hD2],fun r hr=>?_⟩,hs.size,hs.env,fun p b hb=>?_,?_⟩
    · have:=hp1.adv.size; omega
    · rw [hfs]
      rcases List.mem_cons.1 hr with rfl | hr
      · refine⟨hB,(hkeep _ (by omega) (by omega) hno0).trans hK1,fun ho=>?_⟩
        rcases hnames _ ho with h4 | h4
        · exact hno0 h4
        · omega
      · obtain⟨k1,k2,k3⟩:=hD3 r hr
        have hlt:=(Array.getElem?_eq_some_iff.1 k2).1
        refine⟨k1,((hkeep r (by omega) (by omega) k3).trans (hold r hlt)).trans k2,fun ho=>?_⟩
        rcases hnames _ ho with h4 | h4
        · exact k3 h4
        · omega
    · rw [hfs] at hb
      exact(hp1.holds (p+1) b hb).of_heap (by omega) fun k hk=>hoth _ fun e=>hname p b hb (e ▸ hk)
    · rw [hfs]
      exact fun p q b c hpq hb hc ho=>hp1.apart (p+1) (q+1) b c (by omega) hb hc ho
  have hadv:Adv s.fs.mem w (St.mk s.env (outUpd psl s.nx (out ns) ++ s.mem) (s.nx+nb)).fs.mem W4:=by
    rw [hfs]
    refine⟨?_,?_,?_,?_,fun q hq hno=>?_,fun q hq=>?_,fun p b hb ho=>hp1.adv.ro (p+1) b hb ho⟩
    · rw [← hW4]; exact hp1.adv.os.trans (by rw [← hW1]; rfl)
    · rw [← hW4]; exact hp1.adv.output.trans (by rw [← hW1]; rfl)
    · rw [← hW4]; exact hp1.adv.tape.trans (by rw [← hW1]; rfl)
    · have:=hp1.adv.size; omega
    · exact(hkeep q (by omega) (by omega) hno).trans (hold q hq)
    · rcases hnames q hq with h4 | h4
      · exact .inl h4
      · exact .inr (by omega)
  have hend:(Instr.endLoop l).run P W2 = .ok pe W4:=by
    have:=run_endLoop (P:=P) hl2 (by cases pe <;> simp [recL,stL])
    rw [← hW4]; exact this
  refine⟨pe,W4,hend,?_⟩
  rcases hpe with ⟨rfl,rfl⟩ | ⟨rfl,rfl⟩ | ⟨id,rfl,rfl⟩
  · exact⟨_,⟨ns,hns,rfl,rfl⟩,hsat,hadv⟩
  · exact wpIn_wide.2 (wp_ret ⟨_,⟨ns,hns,rfl,rfl⟩,hsat,hadv⟩)
  · exact wpIn_wide.2 (wp_exit ⟨_,⟨ns,hns,rfl,rfl⟩,hsat,hadv⟩)
theorem lmS {o:Option Blk} {r:List (Option Blk)} (p:Nat):listMem (o :: r) (p+1)=listMem r p:=by simp [listMem]
theorem optMem_look:∀ (l:List (Option Blk)) (i p:Nat),memOf (optMem l i) p=if i≤p then listMem l (p - i) else none
  | [],i,p=>by simp [optMem,memOf,look,listMem]
  | b :: r,i,p=>by
    have:=optMem_look r (i+1) p
    simp only [memOf] at this
    simp only [optMem,memOf,look_cons]
    by_cases hip:i=p
    · subst hip; simp [listMem]
    · simp only [hip,if_false]
      rw [this]
      by_cases hle:i≤p
      · rw [if_pos hle,if_pos (by omega),show p - i=(p - (i+1))+1 by omega]; simp [listMem]
      · rw [if_neg hle,if_neg (by omega)]
theorem startO_mem (env:List (Nat × EV)) (bs:List (Option Blk)):(St.mk env (optMem bs 0) bs.length).fs.mem=listMem bs:=by
  funext p
  show memOf (optMem bs 0) p=_
  rw [optMem_look]; simp
theorem putObj_self {w:World} {l:Nat} {o:Obj} (h:l < w.heap.size):(w.putObj l o).heap[l]? = some o:=World.putObj_heap_same h
def Free (l:Nat) (m:Nat→Option Blk):Prop:=∀ p b,m p=some b→¬ b.has l
theorem Free.adv {l:Nat} {m m':Nat→Option Blk} {w w':World} (h:Free l m) (hl:l < w.heap.size) (ha:Adv m w m' w'):Free l m':=fun p b hb e=>by
  cases ho:b.own with
  | true =>
    rcases ha.names l ⟨p,b,hb,ho,e⟩ with ⟨q,c,h1,_,h3⟩ | h1
    · exact h q c h1 h3
    · omega
  | false=>exact h p b (ha.ro p b hb ho) e
theorem Free.owns {l:Nat} {m:Nat→Option Blk} (h:Free l m):¬ Owns m l:=fun⟨p,b,h1,_,h3⟩=>h p b h1 h3
theorem Sat.put {nt:Nat} {s:FSt} {a:Act} {w:World} (h:Sat ds nt s a w) {l:Nat} {L:Loop} {o:Obj} (hl:w.heap[l]? = some (.loop L)) (hf:Free l s.mem):Sat ds nt s a (w.putObj l o):=by
  refine⟨?_,h.size,h.env,fun p b hb=>(h.mem p b hb).of_heap (by simp [World.putObj]) (fun k hk=>World.putObj_heap_other fun e=>hf p b hb (e ▸ hk)),h.apart⟩
  obtain⟨h0,D,h1,h2,h3⟩:=h.defers
  refine⟨by simpa [World.putObj] using h0,D,h1,h2,fun r hr=>?_⟩
  obtain⟨k1,k2,k3⟩:=h3 r hr
  have hne:r≠l:=fun e=>by subst e; rw [hl] at k2; cases k2
  exact⟨k1,(World.putObj_heap_other hne).trans k2,k3⟩
def YRuns (F:Blk→Prop) (P:Program) (l:Nat) (args:List Value) (bs:List (Option Blk)) (k:Nat) (v:List Nat→Value) (out:List Nat→List (Option Blk)):Prop :=
  ∀ w,(∀ p b,listMem bs p=some b→Holds b w)→Apart (listMem bs)→Fam F (listMem bs) w →
    ∃ fn tmps asg bd,(Instr.yield l args.toArray).run P w = .ok (.round l fn tmps asg bd) w∧∀ m,RoundIn Fence.wide m P l fn tmps asg bd w fun e w' =>
      ∃ ns,ns.length=k∧e = .returned (v ns)∧Post (listMem bs) w (listMem (out ns)) w'
def parEnv:List Tmp→List Value→List (Nat × EV)
  | p :: ps,x :: xs=>(p,.v x) :: parEnv ps xs
  | _,_=>[]
theorem fold_get (nt:Nat):∀ (ps:List Tmp) (xs:List Value) (tm:Array Value) (t:Nat) (e:EV),ps.Nodup→(∀ p ∈ ps,p < tm.size)→look (parEnv ps xs) t=some e→((ps.zip xs).foldl (fun t (p,v)=>t.setIfInBounds p v) tm)[t]? = some e.den
  | [],xs,tm,t,e,_,_,h=>by cases h
  | p :: ps,[],tm,t,e,_,_,h=>by cases h
  | p :: ps,x :: xs,tm,t,e,hn,hp,h=>by
    rw [List.nodup_cons] at hn
    simp only [List.zip_cons_cons,List.foldl_cons]
    by_cases hin:∃ e',look (parEnv ps xs) t=some e'
    · obtain⟨e',he'⟩:=hin
      have hmem:∀ (qs:List Tmp) (ys:List Value) (t:Nat) (e:EV),look (parEnv qs ys) t=some e→t ∈ qs:=by
        intro qs
        induction qs with
        | nil=>intro ys t e h; cases h
        | cons q qs ih =>
          intro ys t e h
          cases ys with
          | nil=>cases h
          | cons y ys =>
            rw [parEnv,look_cons] at h
            split at h
            · rename_i e1; subst e1; simp
            · exact List.mem_cons_of_mem _ (ih ys t e h)
      have htp:p≠t:=fun e1=>hn.1 (by subst e1; exact hmem ps xs _ _ he')
      rw [parEnv,look_cons,if_neg htp] at h
      exact fold_get nt ps xs _ t e hn.2 (fun q hq=>by simpa using hp q (by simp [hq])) h
    · rw [parEnv,look_cons] at h
      have key:∀ (qs:List Tmp) (ys:List Value) (tm:Array Value),look (parEnv qs ys) t=none→((qs.zip ys).foldl (fun t (p,v)=>t.setIfInBounds p v) tm)[t]? = tm[t]?:=by
        intro qs
        induction qs with
        | nil=>intro ys tm _; rfl
        | cons q qs ih =>
          intro ys tm hq
          cases ys with
          | nil=>rfl
          | cons y ys =>
            rw [parEnv,look_cons] at hq
            split at hq
            · cases hq
            · rename_i hne
              simp only [List.zip_cons_cons,List.foldl_cons]
              rw [ih ys _ hq,Array.getElem?_setIfInBounds_ne hne]
      have hnone:look (parEnv ps xs) t=none:=by
        cases hk:look (parEnv ps xs) t with
        | none=>rfl
        | some e'=>exact absurd ⟨e',hk⟩ hin
      rw [key ps xs _ hnone]
      split at h
      · rename_i e1; subst e1
        injection h with h; subst h
        rw [Array.getElem?_setIfInBounds_self_of_lt (hp p (by simp))]; rfl
      · rw [hnone] at h; cases h
theorem fold_old:∀ (ps:List Tmp) (xs:List Value) (tm:Array Value) (t:Nat),look (parEnv ps xs) t=none→ps.length≤xs.length→((ps.zip xs).foldl (fun t (p,v)=>t.setIfInBounds p v) tm)[t]? = tm[t]?
  | [],xs,tm,t,_,_=>rfl
  | p :: ps,[],tm,t,_,h=>by simp at h
  | p :: ps,x :: xs,tm,t,hq,hl=>by
    rw [parEnv,look_cons] at hq
    split at hq
    · cases hq
    · rename_i hne
      simp only [List.zip_cons_cons,List.foldl_cons]
      rw [fold_old ps xs _ t hq (by simpa using hl),Array.getElem?_setIfInBounds_ne hne]
theorem fold_size:∀ (ps:List Tmp) (xs:List Value) (tm:Array Value),((ps.zip xs).foldl (fun t (p,v)=>t.setIfInBounds p v) tm).size=tm.size
  | [],_,_=>rfl
  | _ :: _,[],_=>rfl
  | p :: ps,x :: xs,tm=>by simp only [List.zip_cons_cons,List.foldl_cons]; rw [fold_size ps xs]; simp
theorem look_app (l r : List (Nat × EV)) (t : Nat) : look (l ++ r) t = match look l t with
    | some e=>some e
    | none=>look r t:=by
  induction l with
  | nil=>rfl
  | cons x l ih =>
    obtain⟨q,b⟩:=x
    simp only [List.cons_append,look_cons]
    by_cases h:q=t
    · simp [h]
    · simp only [h,if_false]; exact ih
def roundFin (mk:LoopState→Option Code→Blk) (ps:List Nat) (k:Nat) (v:List Nat→Value) (out:List Nat→List (Option Blk)) (nb:Nat):Exit→St→Prop:=fun e s=>match e with
  | .normal=>∃ ns,ns.length=k∧Value.bool true=v ns∧some (mk .ready none) :: outOf s (List.range nb ++ ps)=out ns
  | .ret=>∃ ns,ns.length=k∧Value.bool false=v ns∧some (mk .done (some .ret)) :: outOf s (List.range nb ++ ps)=out ns
  | .exit id=>∃ ns,ns.length=k∧Value.bool false=v ns∧some (mk .done (some (.exit id))) :: outOf s (List.range nb ++ ps)=out ns
  | _=>False
theorem yruns_of_ev {F : Blk → Prop} {P : Program} {nt l D : Nat} {fn : FuncId} {tm : Array Value} {pars : Array Tmp} {asg bd : Code} {env : List (Nat × EV)} {args : List Value} {bs : List (Option Blk)} {k : Nat} {v : List Nat → Value}
    {out:List Nat→List (Option Blk)} (hmix:P.follows .mixedOrders=true) (htm:TmOk nt (fun t=>look env t) tm) (hpn:pars.toList.Nodup) (hlen:args.length=pars.size) (hlt:∀ p ∈ pars.toList,p < nt)
    (hC1:okCd asg=true) (hC2:okCd bd=true) (n:Nat) (h:H) (ps:List Nat) (hps:(nodupL (List.range bs.length ++ ps) && ps.all (fun p=>Nat.ble bs.length p))=true)
    (hev:evF F P nt n false asg ⟨parEnv pars.toList args ++ env,optMem bs 0,bs.length⟩ h fun e s h'=>match e with
      | .normal=>evF F P nt n false bd s h' fun e s _=>roundFin (fun st pe=>loopB l (recL st pe fn tm pars asg bd D)) ps k v out bs.length e s
      | _=>False) :
    YRuns F P l args (some (loopB l (recL .ready none fn tm pars asg bd D)) :: bs) k v out:=by
  intro w hm ha hF
  simp only [Bool.and_eq_true,List.all_eq_true] at hps
  have hl:w.heap[l]? = some (.loop (recL .ready none fn tm pars asg bd D)):=(hm 0 _ rfl).objm rfl
  have hlw:l < w.heap.size:=(Array.getElem?_eq_some_iff.1 hl).1
  have hmem:(St.mk (parEnv pars.toList args ++ env) (optMem bs 0) bs.length).fs.mem=listMem bs:=startO_mem _ _
  have hfree:Free l (listMem bs):=fun p b hb e=>ha 0 (p+1) _ b (by omega) rfl (by rw [lmS]; exact hb) rfl l rfl e
  have hfold:(pars.zip args.toArray).foldl (fun t (p,v)=>t.setIfInBounds p v) tm=(pars.toList.zip args).foldl (fun t (p,v)=>t.setIfInBounds p v) tm:=by
    rw [← Array.foldl_toList]; simp
  have hs:Sat 0 nt (St.mk (parEnv pars.toList args ++ env) (optMem bs 0) bs.length).fs { tmps:=(pars.zip args.toArray).foldl (fun t (p,v)=>t.setIfInBounds p v) tm,defers:=[] } w:=by
    rw [hfold]
    refine⟨.none (Nat.zero_le _),(fold_size _ _ _).trans htm.1,fun t e ht=>?_,fun p b hb=>?_,?_⟩
    · have ht2:look (parEnv pars.toList args ++ env) t=some e:=ht
      rw [look_app] at ht2
      cases hk:look (parEnv pars.toList args) t with
      | some e'=>rw [hk] at ht2; injection ht2 with ht2; subst ht2; exact fold_get nt _ _ _ t _ hpn (fun p hp=>by rw [htm.1]; exact hlt p hp) hk
      | none=>rw [hk] at ht2; exact(fold_old _ _ _ t hk (by simp [hlen])).trans (htm.2 t e ht2)
    · rw [hmem] at hb; exact hm (p+1) b (by rw [lmS]; exact hb)
    · rw [hmem]; exact fun p q b c hpq hb hc ho=>ha (p+1) (q+1) b c (by omega) (by rw [lmS]; exact hb) (by rw [lmS]; exact hc) ho
  have hF0:Fam F (St.mk (parEnv pars.toList args ++ env) (optMem bs 0) bs.length).fs.mem w:=fun b hb=>by
    obtain⟨h1,h2,h3⟩:=hF b hb
    rw [hmem]
    exact⟨h1,h2,fun k hk ⟨p,c,k1,k2,k3⟩=>h3 k hk ⟨p+1,c,by rw [lmS]; exact k1,k2,k3⟩⟩
  have hFl:∀ b,F b→∀ k,b.has k→k≠l:=fun b hb k hk e=>(hF b hb).2.2 k hk ⟨0,_,rfl,rfl,e.symm⟩
  refine⟨fn,_,asg,bd,run_yield hl (by simpa [recL] using hlen),fun m=>roundIn_of_wpIn trivial ?_⟩
  refine wpIn_mono (evIn_sound (l:=l) hmix n asg _ h _ _ w (fun _ _ h=>h) hC1 hev hs hF0) ?_
  rintro e a1 w1 ⟨s1,h1,hK1,hS1,hA1⟩
  cases e with
  | normal =>
    rw [hmem] at hA1
    have hl1:w1.heap[l]? = some (.loop (recL .ready none fn tm pars asg bd D)):=(hA1.heap l hlw hfree.owns).trans hl
    have hf1:=hfree.adv hlw hA1
    obtain⟨w2,hw2⟩:∃ w2,w1.putObj l (.loop { recL .ready none fn tm pars asg bd D with state:=.busy })=w2:=⟨_,rfl⟩
    have hlw1:l < w1.heap.size:=(Array.getElem?_eq_some_iff.1 hl1).1
    have hl2:w2.heap[l]? = some (.loop { recL .ready none fn tm pars asg bd D with state:=.busy }):=by rw [← hw2]; exact putObj_self hlw1
    have hS2:Sat 0 nt s1.fs a1 w2:=by rw [← hw2]; exact hS1.put hl1 hf1
    have hF2:Fam F s1.fs.mem w2:=fun b hb=>by
      obtain⟨k1,k2,k3⟩:=hF0.adv (hmem ▸ hA1) b hb
      exact⟨k1.of_heap (by rw [← hw2]; simp [World.putObj]) (by rw [← hw2]; exact fun k hk=>World.putObj_heap_other (hFl b hb k hk)),k2,k3⟩
    refine⟨w2,by rw [← hw2]; exact run_beginRound hl1 rfl,?_⟩
    refine wpIn_mono (evIn_sound (l:=l) hmix n bd s1 h1 _ a1 w2 (fun _ _ h=>h) hC2 hK1 hS2 hF2) ?_
    have hsz2:w2.heap.size=w1.heap.size:=by rw [← hw2]; simp [World.putObj]
    have oth2:∀ q,q≠l→w2.heap[q]? = w1.heap[q]?:=fun q hq=>by rw [← hw2]; exact World.putObj_heap_other hq
    have fin : ∀ (jump : Option Code) (a3 : Act) (w3 : World) (s2 : St), Sat 0 nt s2.fs a3 w3 → Adv s1.fs.mem w2 s2.fs.mem w3 →
        (Instr.endRound l jump).run P w3 = .ok (.bool jump.isNone) (w3.putObj l (.loop (recL (stL jump) jump fn tm pars asg bd D))) ∧
        Post (listMem (some (loopB l (recL .ready none fn tm pars asg bd D)) :: bs)) w (listMem (some (loopB l (recL (stL jump) jump fn tm pars asg bd D)) :: outOf s2 (List.range bs.length ++ ps))) (w3.putObj l (.loop (recL (stL jump) jump fn tm pars asg bd D))):=fun jump a3 w3 s2 hS3 hA3=>by
      have hl3:w3.heap[l]? = some (.loop { recL .ready none fn tm pars asg bd D with state:=.busy }):=(hA3.heap l (by omega) hf1.owns).trans hl2
      have hlw3:=(Array.getElem?_eq_some_iff.1 hl3).1
      have hf3:=hf1.adv (by omega) hA3
      obtain⟨w4,hw4⟩:∃ w4,w3.putObj l (.loop (recL (stL jump) jump fn tm pars asg bd D))=w4:=⟨_,rfl⟩
      have oth4:∀ q,q≠l→w4.heap[q]? = w3.heap[q]?:=fun q hq=>by rw [← hw4]; exact World.putObj_heap_other hq
      have hsz4:w4.heap.size=w3.heap.size:=by rw [← hw4]; simp [World.putObj]
      refine⟨?_,?_⟩
      · have:=run_endRound (P:=P) jump hl3
        rw [this]
        cases jump <;> rfl
      rw [hw4]
      have hnm:∀ q,Owns s2.fs.mem q→Owns (listMem bs) q∨w.heap.size≤q:=fun q hq=>by
        rcases hA3.names q hq with h4 | h4
        · exact hA1.names q h4
        · right; have:=hA1.size; omega
      have hget:∀ p b,listMem (some (loopB l (recL (stL jump) jump fn tm pars asg bd D)) :: outOf s2 (List.range bs.length ++ ps)) (p+1)=some b→∃ q,(List.range bs.length ++ ps)[p]? = some q∧s2.fs.mem q=some b:=fun p b hb=>by
        rw [lmS] at hb; exact outOf_get hb
      refine⟨fun p b hb=>?_,fun p q b c hpq hb hc ho=>?_,⟨?_,?_,?_,?_,fun q hq hno=>?_,fun q hq=>?_,fun p b hb ho=>?_⟩⟩
      · cases p with
        | zero=>injection hb with hb; subst hb; exact loopB_holds (by rw [← hw4]; exact putObj_self hlw3)
        | succ p =>
          obtain⟨q,_,hq⟩:=hget p b hb
          exact(hS3.mem q b hq).of_heap (by omega) fun k hk=>oth4 _ fun e=>hf3 q b hq (e ▸ hk)
      · cases p with
        | zero =>
          cases q with
          | zero=>exact absurd rfl hpq
          | succ q =>
            injection hb with hb; subst hb
            obtain⟨x,_,hx⟩:=hget q c hc
            intro k k1 k2; have:l=k:=k1; subst this; exact hf3 x c hx k2
        | succ p =>
          obtain⟨x,hx1,hx2⟩:=hget p b hb
          cases q with
          | zero=>injection hc with hc; subst hc; intro k k1 k2; have:l=k:=k2; subst this; exact hf3 x b hx2 k1
          | succ q =>
            obtain⟨y,hy1,hy2⟩:=hget q c hc
            exact hS3.apart x y b c (nodupL_get hps.1 p q x y hx1 hy1 (by omega)) hx2 hy2 ho
      · rw [← hw4]; exact hA3.os.trans ((by rw [← hw2]; rfl:w2.os=w1.os).trans hA1.os)
      · rw [← hw4]; exact hA3.output.trans ((by rw [← hw2]; rfl:w2.output=w1.output).trans hA1.output)
      · rw [← hw4]; exact hA3.tape.trans ((by rw [← hw2]; rfl:w2.tape=w1.tape).trans hA1.tape)
      · have:=hA1.size; have:=hA3.size; omega
      · have hql:q≠l:=fun e=>hno ⟨0,_,rfl,rfl,e.symm⟩
        have hnb:¬ Owns (listMem bs) q:=fun⟨p,b,k1,k2,k3⟩=>hno ⟨p+1,b,by rw [lmS]; exact k1,k2,k3⟩
        have hn1:¬ Owns s1.fs.mem q:=fun ho=>by
          rcases hA1.names q ho with h4 | h4
          · exact hnb h4
          · omega
        have:=hA1.size
        exact(oth4 q hql).trans ((hA3.heap q (by omega) hn1).trans ((oth2 q hql).trans (hA1.heap q hq hnb)))
      · obtain⟨p,b,hb,ho,hbq⟩:=hq
        cases p with
        | zero=>injection hb with hb; subst hb; exact .inl ⟨0,_,rfl,rfl,hbq⟩
        | succ p =>
          obtain⟨x,_,hx2⟩:=hget p b hb
          rcases hnm q ⟨x,b,hx2,ho,hbq⟩ with ⟨y,c,k1,k2,k3⟩ | h4
          · exact .inl ⟨y+1,c,by rw [lmS]; exact k1,k2,k3⟩
          · exact .inr h4
      · cases p with
        | zero=>injection hb with hb; subst hb; cases ho
        | succ p =>
          obtain⟨x,hx1,hx2⟩:=hget p b hb
          have hro:=hA1.ro x b (hA3.ro x b hx2 ho) ho
          have hx:x=p:=by
            by_cases hi:p < bs.length
            · rw [List.getElem?_append_left (by simpa using hi),List.getElem?_range hi] at hx1
              injection hx1 with hx1; exact hx1.symm
            · rw [List.getElem?_append_right (by simp; omega)] at hx1
              have:=Nat.le_of_ble_eq_true (hps.2 x (List.mem_of_getElem? hx1))
              have:bs[x]? = none:=List.getElem?_eq_none (by omega)
              simp [listMem,this] at hro
          subst hx
          rw [lmS]; exact hro
    rintro e a3 w3 ⟨s2,h2,hK2,hS3,hA3⟩
    cases e with
    | normal =>
      obtain⟨ns,hns,hv,ho⟩:=hK2
      obtain⟨f1,f2⟩:=fin none a3 w3 s2 hS3 hA3
      exact⟨_,_,f1,ns,hns,by rw [← hv]; rfl,by rw [← ho]; exact f2⟩
    | ret =>
      obtain⟨ns,hns,hv,ho⟩:=hK2
      obtain⟨f1,f2⟩:=fin (some .ret) a3 w3 s2 hS3 hA3
      exact⟨_,_,f1,ns,hns,by rw [← hv]; rfl,by rw [← ho]; exact f2⟩
    | exit id =>
      obtain⟨ns,hns,hv,ho⟩:=hK2
      obtain⟨f1,f2⟩:=fin (some (.exit id)) a3 w3 s2 hS3 hA3
      exact⟨_,_,f1,ns,hns,by rw [← hv]; rfl,by rw [← ho]; exact f2⟩
    | _=>exact hK2.elim
  | _=>exact hK1.elim
theorem rows_wide {n:Nat} {P:Program} {row:String} {args:Array Value} {w:World} {R:Value→World→Prop} (h:Rows P row args w R):RowsIn Fence.wide n P row args w R :=
  fun c cs _=>let ⟨v,w',r,s⟩:=h c cs; ⟨v,w',r,(stepsIn_wide (P:=P)).2 s⟩
theorem op_wide {n : Nat} {P : Program} {o : Oper} {a : Act} {w : World} {K : Act → World → Prop} {Q : Exit → Act → World → Prop} (hd : ∀ c, o.op ≠ .defer c) (hQ : ¬ LetsOut Q)
    (h:o.wp P a w K Q∨(o.asks P a w∧LetsOut Q)):o.wpIn Fence.wide n P a w K Q:=by
  have h:=h.resolve_right fun h=>hQ h.2
  refine⟨fun _ _=>trivial,?_⟩
  rw [Oper.semAt_eq _ _ _ hd]
  unfold Oper.wp at h
  generalize (execOp a.eval o).run P w=r at h ⊢
  unfold Oper.upon at h
  unfold Oper.uponIn
  split at h
  · exact h
  · exact h
  · exact h
  · exact⟨fun h=>by simp [Fence.wide] at h,callsIn_wide.2 h⟩
  · exact⟨fun h=>by simp [Fence.wide] at h,rows_wide h⟩
  · exact h
  · exact h.elim
theorem wpOp_wide {n : Nat} {P : Program} {ops : Array Oper} {Q : Exit → Act → World → Prop} {i : Nat} {K : Act → World → Prop} {a : Act} {w : World} (hd : noDefer ops = true) (hQ : ¬ LetsOut Q)
    (h:wpOp P ops Q i K a w):wpOpIn Fence.wide n P ops Q i K a w:=by
  unfold wpOp at h
  unfold wpOpIn
  cases ho:ops[i]? with
  | none=>rw [ho] at h; exact h
  | some o =>
    rw [ho] at h
    simp only at h ⊢
    split at h
    · rename_i hw; rw [if_pos hw]; exact op_wide (noDefer_get hd ho) hQ h
    · rename_i hw; rw [if_neg hw]; exact⟨fun _ _=>trivial,h⟩
def chainW (n:Nat) (P:Program) (ops:Array Oper) (Q:Exit→Act→World→Prop):List Nat→(Act→World→Prop)→Act→World→Prop
  | [],K,a,w=>K a w
  | i :: r,K,a,w=>wpOpIn Fence.wide n P ops Q i (chainW n P ops Q r K) a w
theorem chain_app {n:Nat} {P:Program} {ops:Array Oper} {Q:Exit→Act→World→Prop}:∀ (is js:List Nat) (a:Act) (w:World),chainW n P ops Q is (wpOpsIn Fence.wide n P ops Q js) a w→wpOpsIn Fence.wide n P ops Q (is ++ js) a w
  | [],_,_,_,h=>h
  | i :: r,js,a,w,h=>by
    show wpOpsIn Fence.wide n P ops Q (i :: (r ++ js)) a w
    rw [wpOpsIn_cons]
    exact wpOpIn_mono (fun a w=>chain_app r js a w) h
theorem seq_chain {F : Blk → Prop} {P : Program} {ops : Array Oper} {nt m : Nat} {Q : Exit → Act → World → Prop} {K : Act → World → Prop} (hd : noDefer ops = true) (hQ : ¬ LetsOut Q) : ∀ (ks : (List (Nat × OpH))) {s : St} {a : Act} {w : World}, Sat ds nt s.fs a w → Fam F s.fs.mem w →
    (∀ ns,ns.length=nnL ks→∃ vc s',evSeq F P ops nt ks ns s=some (vc,s')∧vc) →
    (∀ ns vc s' a' w',ns.length=nnL ks→evSeq F P ops nt ks ns s=some (vc,s')→vc→Sat ds nt s'.fs a' w'→Adv s.fs.mem w s'.fs.mem w'→K a' w') →
    chainW m P ops Q (ks.map (·.1)) K a w
  | [],s,a,w,hs,hF,hall,hK=>hK [] True s a w rfl rfl trivial hs (.refl _ _)
  | (i,h) :: ks,s,a,w,hs,hF,hall,hK=>by
    obtain⟨vc,s',hev,hvc⟩:=hall (List.replicate _ 0) List.length_replicate
    obtain⟨o,vc1,e,vc2,ho,hok,he,hr,hv⟩:=evSeq_cons hev
    show wpOpIn Fence.wide m P ops Q i (chainW m P ops Q (ks.map (·.1)) K) a w
    refine wpOp_wide hd hQ (op_sound (nx:=s.nx) (h:=h) ho hs hF (opOk_sel hok) (fun ns hns=>?_) (fun ns vc1' e' w' hns hev' hvc1 hp=>?_))
    · obtain⟨vc,s',hev,hvc⟩:=hall (ns ++ List.replicate (nnL ks) 0) (by simp [nnL,hns])
      obtain⟨o',vc1,e,vc2,ho',hok,he,hr,rfl⟩:=evSeq_cons hev
      rw [ho] at ho'; injection ho' with ho'; subst ho'
      rw [List.take_left' hns] at he
      exact⟨vc1,e,he,hvc.1⟩
    · have hsat:=sat_apply hs (opOk_dst hok) hp
      rw [← St.fs_apply s o.dst e' h.nb] at hsat
      have hmem:(s.apply o.dst e' h.nb).fs.mem=memApply s.fs.mem e'.upd:=by rw [St.fs_apply]; rfl
      refine seq_chain hd hQ ks hsat (hmem ▸ hF.adv hp.adv) (fun ns2 hns2=>?_) (fun ns2 vc2 s2 a2 w2 hns2 hev2 hvc2 hsat2 hadv2=>?_)
      · obtain⟨vc,s',hev,hvc⟩:=hall (ns ++ ns2) (by simp [nnL,hns,hns2])
        obtain⟨o',vc1,e,vc2,ho',hok,he,hr,rfl⟩:=evSeq_cons hev
        rw [ho] at ho'; injection ho' with ho'; subst ho'
        rw [List.take_left' hns,hev'] at he
        injection he with he; injection he with h1 h2; subst h2
        rw [List.drop_left' hns] at hr
        exact⟨vc2,s',hr,hvc.2⟩
      · refine hK (ns ++ ns2) (vc1'∧vc2) s2 a2 w2 (by simp [nnL,hns,hns2]) ?_ ⟨hvc1,hvc2⟩ hsat2 ((hp.adv).trans (hmem ▸ hadv2))
        exact evSeq_mk ho hok (by rw [List.take_left' hns]; exact hev') (by rw [List.drop_left' hns]; exact hev2)
def gset (ops:Array Oper) (env:Nat→Option EV) (o:Oper):Bool:=match o.guard with
  | none=>true
  | some (j,want)=>match gval ops env j want with
    | some b=>b
    | none=>false
theorem gset_wanted {ops:Array Oper} {nt:Nat} {s:FSt} {a:Act} {w:World} (hs:Sat ds nt s a w) {o:Oper} (h:gset ops s.env o=true):Region.wanted o (yielded ops a.tmps)=true:=by
  unfold gset at h
  cases hg:o.guard with
  | none=>unfold Region.wanted; rw [hg]
  | some jw =>
    obtain⟨j,want⟩:=jw
    rw [hg] at h
    simp only at h
    cases hb:gval ops s.env j want with
    | none=>rw [hb] at h; cases h
    | some b=>rw [hb] at h; simp only at h; rw [wanted_eq hs hg hb]; exact h
theorem awp_yield {F : Blk → Prop} {P : Program} {nt id : Nat} {ops : Array Oper} {s s1 : St} {ks1 ks2 : List (Nat × OpH)} {i : Nat} {o : Oper} {vc1 : Prop} {l : Nat} {args : List Value} {psl : List (Nat × Bool)} {k nb : Nat}
    {v:List Nat→Value} {out:List Nat→List (Option Blk)} (hd:noDefer ops=true) (hidx:ks1.map (·.1) ++ i :: ks2.map (·.1)=List.range ops.size) (hn1:nnL ks1=0) (hn2:nnL ks2=0)
    (he1:evSeq F P ops nt ks1 [] s=some (vc1,s1)) (hv1:vc1) (ho:ops[i]? = some o) (hok:opOk nt o=true) (hg:gset ops s1.fs.env o=true) (hk:known s1.fs.env o.op.operands.toList=true) (hc:conds s1.fs.env o.op.operands.toList)
    (hex:∀ w,(execOp (rho s1.fs.env) o).run P w=(Instr.yield l args.toArray).run P w) (hn:nodupPs psl=true) (hlen:∀ ns,ns.length=k→psl.length≤(out ns).length) (hy:YRuns F P l args (lendO s1.fs.mem psl) k v out)
    (vc2:List Nat→Prop) (s2:List Nat→St) (he2:∀ ns,ns.length=k→evSeq F P ops nt ks2 [] (s1.apply o.dst ⟨.v (v ns),outUpd psl s1.nx (out ns)⟩ nb)=some (vc2 ns,s2 ns)∧vc2 ns) :
    AWPF F ds P nt (.region id ops false) s (fun e s'=>∃ ns:List Nat,ns.length=k∧e = .normal∧s'=s2 ns):=by
  intro a w hs hF
  have hQ:¬ LetsOut (fun e a' w'=>∃ s',(∃ ns:List Nat,ns.length=k∧e=Exit.normal∧s'=s2 ns)∧Sat ds nt s'.fs a' w'∧Adv s.fs.mem w s'.fs.mem w'):=fun⟨_,_,_,⟨_,_,h,_⟩,_⟩=>by cases h
  refine(wpIn_wide (n:=1)).1 (wpIn_region ?_)
  rw [← hidx]
  refine chain_app _ _ _ _ (seq_chain hd hQ ks1 hs hF (fun ns hns=>?_) fun ns vc s' a1 w1 hns hev _ hS1 hA1=>?_)
  · have:ns=[]:=List.eq_nil_of_length_eq_zero (by omega)
    subst this; exact⟨vc1,s1,he1,hv1⟩
  have hnil:ns=[]:=List.eq_nil_of_length_eq_zero (by omega)
  subst hnil
  rw [he1] at hev
  injection hev with hev; injection hev with _ hs'; subst hs'
  have hF1:=hF.adv hA1
  obtain⟨fn,tmps,asg,bd,hrun,hR⟩:=hy w1 (lendO_holds hS1.mem) (lendO_apart hS1.apart hn) (fam_lendO hF1)
  rw [wpOpsIn_cons]
  unfold wpOpIn
  rw [ho]
  have hw:Region.wanted o (yielded ops a1.tmps)=true:=gset_wanted hS1 hg
  simp only [hw,if_true]
  refine⟨fun _ _=>trivial,?_⟩
  rw [Oper.semAt_eq _ _ _ (noDefer_get hd ho),exec_eq hS1 (opOk_sel hok) hk hc,hex,hrun]
  refine⟨fun h=>by simp [Fence.wide] at h,(hR _).mono ?_⟩
  rintro e w2 ⟨ns,hns,rfl,hp⟩
  have hp2:=post_frameO (nx:=s1.nx) hS1.mem hS1.apart (hlen ns hns) hp
  have hS2:=sat_apply (dst:=o.dst) (e:=⟨.v (v ns),outUpd psl s1.nx (out ns)⟩) hS1 (opOk_dst hok) hp2
  rw [← St.fs_apply s1 o.dst _ nb] at hS2
  have hmem:(s1.apply o.dst ⟨.v (v ns),outUpd psl s1.nx (out ns)⟩ nb).fs.mem=memApply s1.fs.mem (outUpd psl s1.nx (out ns)):=by rw [St.fs_apply]; rfl
  obtain⟨he3,hv3⟩:=he2 ns hns
  have:=chain_app (n:=1) (P:=P) (ops:=ops) (Q:=fun e a' w'=>∃ s',(∃ ns:List Nat,ns.length=k∧e=Exit.normal∧s'=s2 ns)∧Sat ds nt s'.fs a' w'∧Adv s.fs.mem w s'.fs.mem w') (ks2.map (·.1)) [] (a1.put o.dst (v ns)) w2
    (seq_chain hd hQ ks2 hS2 (hmem ▸ hF1.adv hp2.adv) (fun ns2 hns2=>?_) fun ns2 vc s' a3 w3 hns2 hev _ hS3 hA3=>?_)
  · rw [List.append_nil] at this; exact this
  · have:ns2=[]:=List.eq_nil_of_length_eq_zero (by omega)
    subst this; exact⟨_,_,he3,hv3⟩
  · have:ns2=[]:=List.eq_nil_of_length_eq_zero (by omega)
    subst this
    rw [he3] at hev
    injection hev with hev; injection hev with _ hs'; subst hs'
    exact⟨_,⟨ns,hns,rfl,rfl⟩,hS3,hA1.trans (hp2.adv.trans (hmem ▸ hA3))⟩
def findReg (id:Nat):Code→Option Code
  | .region i ops d=>match Nat.beq i id with
    | true=>some (.region i ops d)
    | false=>none
  | .seq a b=>match findReg id a with
    | some c=>some c
    | none=>findReg id b
  | .block _ b=>findReg id b
  | .scope b=>findReg id b
  | .loop b=>findReg id b
  | .cond _ x y=>match findReg id x with
    | some c=>some c
    | none=>findReg id y
  | .rangeFunc _ _ a b=>match findReg id a with
    | some c=>some c
    | none=>findReg id b
  | _=>none
def findRf:Code→List Code
  | .seq a b=>findRf a ++ findRf b
  | .block _ b=>findRf b
  | .scope b=>findRf b
  | .loop b=>findRf b
  | .cond _ x y=>findRf x ++ findRf y
  | .rangeFunc g p a b=>[.rangeFunc g p a b]
  | _=>[]
def regC (id:Nat) (c:Option Code):Code:=match c with
  | some c=>(findReg id c).getD .skip
  | none=>.skip
def rfC (k:Nat) (c:Option Code):Code:=match c with
  | some c=>(findRf c).getD k .skip
  | none=>.skip
def rfA:Code→Code
  | .rangeFunc _ _ a _=>a
  | _=>.skip
def rfB:Code→Code
  | .rangeFunc _ _ _ b=>b
  | _=>.skip
def rfP:Code→Array Tmp
  | .rangeFunc _ p _ _=>p
  | _=>#[]
def rfG:Code→Operand
  | .rangeFunc g _ _ _=>g
  | _=>.func 0
def opsOf:Code→Array Oper
  | .region _ ops _=>ops
  | _=>#[]
def idOf:Code→Nat
  | .region i _ _=>i
  | _=>0
def isPlain:Code→Bool
  | .region _ _ false=>true
  | _=>false
theorem isPlain_eq {c:Code} (h:isPlain c=true):c = .region (idOf c) (opsOf c) false:=by
  unfold isPlain at h
  split at h
  · rfl
  · cases h
def yldOk (c:Code) (nt:Nat) (ks1:List (Nat × OpH)) (i:Nat) (ks2:List (Nat × OpH)) (psl:List (Nat × Bool)):Bool :=
  isPlain c && noDefer (opsOf c) && idxIs (ks1 ++ (i,.g) :: ks2) 0 (opsOf c).size && Nat.beq (nnL ks1) 0 && Nat.beq (nnL ks2) 0 && nodupPs psl && (match (opsOf c)[i]? with
    | some o=>opOk nt o
    | none=>false)
def evYld (F : Blk → Prop) (P : Program) (nt : Nat) (c : Code) (ks1 : List (Nat × OpH)) (i : Nat) (ks2 : List (Nat × OpH)) (psl : List (Nat × Bool)) (k nb l : Nat) (args : List Value) (v : List Nat → Value) (out : List Nat → List (Option Blk))
    (ts ps:List Nat) (nx:Nat) (S:List Nat→St) (s:St):Prop:=match evSeq F P (opsOf c) nt ks1 [] s with
  | some (vc1,s1)=>vc1∧match (opsOf c)[i]? with
    | some o => known s1.fs.env o.op.operands.toList = true ∧ conds s1.fs.env o.op.operands.toList ∧ gset (opsOf c) s1.fs.env o = true ∧ execOp (rho s1.fs.env) o = Instr.yield l args.toArray ∧
        (∀ ns:List Nat,ns.length=k→Nat.ble psl.length (out ns).length=true)∧YRuns F P l args (lendO s1.fs.mem psl) k v out ∧
        ∀ ns:List Nat,ns.length=k→match evSeq F P (opsOf c) nt ks2 [] (s1.apply o.dst ⟨.v (v ns),outUpd psl s1.nx (out ns)⟩ nb) with
          | some (vc2,s2)=>vc2∧s2.keep ts ps nx=S ns
          | none=>False
    | none=>False
  | none=>False
theorem awp_yld {F : Blk → Prop} {P : Program} {nt : Nat} {c : Code} {s : St} (ks1 : List (Nat × OpH)) (i : Nat) (ks2 : List (Nat × OpH)) (psl : List (Nat × Bool)) (k nb l : Nat) (args : List Value) (v : List Nat → Value) (out : List Nat → List (Option Blk))
    (ts ps:List Nat) (nx:Nat) (S:List Nat→St) (hok:yldOk c nt ks1 i ks2 psl=true) (hev:evYld F P nt c ks1 i ks2 psl k nb l args v out ts ps nx S s) :
    ∀ ds,AWPF F ds P nt c s (fun e s'=>∃ x:List Nat,x.length=k∧e=Exit.normal∧Le (S x).fs s'.fs):=by
  intro ds
  unfold yldOk at hok
  simp only [Bool.and_eq_true] at hok
  obtain⟨⟨⟨⟨⟨⟨h1,h2⟩,h3⟩,h4⟩,h5⟩,h6⟩,h7⟩:=hok
  unfold evYld at hev
  split at hev
  · rename_i vc1 s1 he1
    obtain⟨hv1,hev⟩:=hev
    split at hev
    · rename_i o ho
      rw [ho] at h7
      simp only at h7
      obtain⟨k1,k2,hg,k3,k4,k5,k6⟩:=hev
      have hidx:=(idxIs_range _ 0 (opsOf c).size h3).1
      rw [Nat.sub_zero,← List.range_eq_range',List.map_append,List.map_cons] at hidx
      have key:=awp_yield (ds:=ds) (F:=F) (P:=P) (nt:=nt) (id:=idOf c) (ops:=opsOf c) (s:=s) (s1:=s1) (ks1:=ks1) (ks2:=ks2) (i:=i) (o:=o) (l:=l) (args:=args) (psl:=psl) (k:=k) (nb:=nb) (v:=v) (out:=out)
        h2 hidx (Nat.eq_of_beq_eq_true h4) (Nat.eq_of_beq_eq_true h5) he1 hv1 ho h7 hg k1 k2 (fun w=>by rw [k3]) h6 (fun ns hns=>Nat.le_of_ble_eq_true (k4 ns hns)) k5
        (fun ns=>match evSeq F P (opsOf c) nt ks2 [] (s1.apply o.dst ⟨.v (v ns),outUpd psl s1.nx (out ns)⟩ nb) with | some (vc2,_)=>vc2 | none=>False)
        (fun ns=>match evSeq F P (opsOf c) nt ks2 [] (s1.apply o.dst ⟨.v (v ns),outUpd psl s1.nx (out ns)⟩ nb) with | some (_,s2)=>s2 | none=>s1)
        (fun ns hns=>by
          have:=k6 ns hns
          split at this
          · rename_i vc2 s2 he2
            rw [he2]; exact⟨rfl,this.1⟩
          · exact this.elim)
      rw [isPlain_eq h1]
      intro a w hs hF
      refine wp_mono (key a w hs hF) ?_
      rintro e a' w' ⟨s',⟨ns,hns,he,rfl⟩,hS,hA⟩
      refine⟨_,⟨ns,hns,he,?_⟩,hS,hA⟩
      have:=k6 ns hns
      split at this
      · rename_i vc2 s2 he2
        rw [← this.2]; exact keep_le s2 ts ps nx
      · exact this.elim
    · exact hev.elim
  · exact hev.elim
theorem awp_rf {F : Blk → Prop} {P : Program} {nt : Nat} {c : Code} {s : St} (gf : Nat) (caps : List Value) (psl : List (Nat × Bool)) (k nb : Nat) (v : List Nat → Value) (out : List Nat → List (Option Blk)) (pe : Option Code) (E : Exit)
    (ts ps:List Nat) (nx:Nat) (S:List Nat→St) (hc:c = .rangeFunc (rfG c) (rfP c) (rfA c) (rfB c)) (hg:opdEV s.fs.env (rfG c)=some (.v (.func (.func gf) #[] caps.toArray))) (eg:∀ args w,(callFunc gf args).run P w = .ok (.enter gf args) w)
    (hn:nodupPs psl=true) (hlen:∀ ns:List Nat,ns.length=k→Nat.ble psl.length (out ns).length=true) (hpe:pe=none∧E = .normal∨pe=some .ret∧E = .ret∨∃ id,pe=some (.exit id)∧E = .exit id)
    (hr:∀ l D fn tm,TmOk nt s.fs.env tm→RunsO F P gf (yv l :: caps) (some (loopB l (recL .ready none fn tm (rfP c) (rfA c) (rfB c) D)) :: lendO s.fs.mem psl) k v
      (fun ns=>some (loopB l (recL (stL pe) pe fn tm (rfP c) (rfA c) (rfB c) D)) :: out ns))
    (hS:∀ ns:List Nat,ns.length=k→(St.mk s.env (outUpd psl s.nx (out ns) ++ s.mem) (s.nx+nb)).keep ts ps nx=S ns) :
    ∀ ds,AWPF F ds P nt c s (fun e s'=>∃ x:List Nat,x.length=k∧e=E∧Le (S x).fs s'.fs):=by
  intro ds a w hs hF
  have key:=awp_rangeFunc (ds:=ds) (nt:=nt) (ps:=rfP c) (asg:=rfA c) (bd:=rfB c) hg eg hn (fun ns hns=>Nat.le_of_ble_eq_true (hlen ns hns)) hpe nb hr a w hs hF
  rw [← hc] at key
  refine wp_mono key ?_
  rintro e a' w' ⟨s',⟨ns,hns,he,rfl⟩,hS',hA⟩
  exact⟨_,⟨ns,hns,he,hS ns hns ▸ keep_le _ ts ps nx⟩,hS',hA⟩
end Go.Eng
end
