/-
  Many in one: EngRf, VotGa, VotFn, VotVo.
-/
import Derived.Test.YtmdpendnbkajdaaGreatDoorZChaseAnswers12
import Derived.Below
import Derived.RangeFuncFrom
set_option linter.unusedVariables false
set_option linter.unusedSimpArgs false
set_option maxRecDepth 100000
set_option maxHeartbeats 1000000
section
namespace Go.Eng
variable {ds:Nat}
def TmOk (nt:Nat) (env:Nat→Option EV) (tm:Array Value):Prop:=tm.size=nt∧∀ t e,env t=some e→tm[t]? = some e.den
def yv (l:Nat):Value:=.func (.yield l) #[] #[]
def recL (st:LoopState) (pe:Option Code) (fn:FuncId) (tm:Array Value) (ps:Array Tmp) (asg bd:Code) (D:Nat):Loop :=
  { state:=st,pending:=pe,fn,tmps:=tm,params:=ps,assign:=asg,body:=bd,defers:=D }
def stL (pe:Option Code):LoopState:=match pe with | none=>.ready | some _=>.done
def loopB (l:Nat) (L:Loop):Blk:=⟨l,true,0,.map (.o (.loop L)) 0⟩
theorem loopB_holds {l:Nat} {L:Loop} {w:World} (h:w.heap[l]? = some (.loop L)):Holds (loopB l L) w :=
  ⟨(Array.getElem?_eq_some_iff.1 h).1,(fun o v ho=>by cases ho),(fun _ o v ho=>by cases ho),h⟩
def shB (x:Option Blk) (m:Nat→Option Blk):Nat→Option Blk
  | 0=>x
  | p+1=>m p
def shP (ps:List (Nat × Bool)):List (Nat × Bool):=ps.map fun x=>(x.1+1,x.2)
theorem lendO_sh (x:Option Blk) (m:Nat→Option Blk):∀ ps:List (Nat × Bool),lendO (shB x m) (shP ps)=lendO m ps
  | []=>rfl
  | (p,ro) :: r=>by
    show _ :: lendO (shB x m) (shP r)=_ :: lendO m r
    rw [lendO_sh x m r]; rfl
theorem look_sh:∀ (ps:List (Nat × Bool)) (nx:Nat) (out:List (Option Blk)) (p:Nat),look (outUpd (shP ps) (nx+1) out) (p+1)=look (outUpd ps nx out) p
  | [],nx,[],p=>rfl
  | [],nx,b :: out,p=>by
    show look ((nx+1,b) :: outUpd [] (nx+1+1) out) (p+1)=look ((nx,b) :: outUpd [] (nx+1) out) p
    rw [look_cons,look_cons]
    have:=look_sh [] (nx+1) out p
    by_cases h:nx=p
    · rw [if_pos h,if_pos (by omega)]
    · rw [if_neg h,if_neg (by omega)]; exact this
  | (q,ro) :: r,nx,[],p=>rfl
  | (q,true) :: r,nx,b :: out,p=>look_sh r nx out p
  | (q,false) :: r,nx,b :: out,p=>by
    show look ((q+1,b) :: outUpd (shP r) (nx+1) out) (p+1)=look ((q,b) :: outUpd r nx out) p
    rw [look_cons,look_cons]
    by_cases h:q=p
    · rw [if_pos h,if_pos (by omega)]
    · rw [if_neg h,if_neg (by omega)]; exact look_sh r nx out p
theorem apply_sh (x x' : Option Blk) (m : Nat → Option Blk) (ps : List (Nat × Bool)) (nx : Nat) (out : List (Option Blk)) :
    memApply (shB x m) (outUpd ((0,false) :: shP ps) (nx+1) (x' :: out))=shB x' (memApply m (outUpd ps nx out)):=by
  funext p
  show(match look ((0,x') :: outUpd (shP ps) (nx+1) out) p with | some ob=>ob | none=>shB x m p)=_
  rw [look_cons]
  cases p with
  | zero=>rfl
  | succ p =>
    rw [if_neg (by omega),look_sh]
    rfl
theorem memOf_app (l r:List (Nat × Option Blk)):memOf (l ++ r)=memApply (memOf r) l:=by
  funext p
  unfold memOf memApply
  induction l with
  | nil=>rfl
  | cons x l ih =>
    obtain⟨q,b⟩:=x
    simp only [List.cons_append,look_cons]
    by_cases h:q=p
    · simp [h]
    · simp only [h,if_false]; exact ih
theorem shB_owns {x:Option Blk} {m:Nat→Option Blk} {k:Nat} (h:Owns (shB x m) k):(∃ b,x=some b∧b.own=true∧b.has k)∨Owns m k:=by
  obtain⟨p,b,h1,h2,h3⟩:=h
  cases p with
  | zero=>exact .inl ⟨b,h1,h2,h3⟩
  | succ p=>exact .inr ⟨p,b,h1,h2,h3⟩
theorem awp_rangeFunc {F : Blk → Prop} {P : Program} {nt : Nat} {g : Operand} {ps : Array Tmp} {asg bd : Code} {s : St} {gf : Nat} {caps : List Value} {psl : List (Nat × Bool)} {k : Nat} {v : List Nat → Value}
    {out:List Nat→List (Option Blk)} {pe:Option Code} {E:Exit} (hg:opdEV s.fs.env g=some (.v (.func (.func gf) #[] caps.toArray))) (eg:∀ args w,(callFunc gf args).run P w = .ok (.enter gf args) w)
    (hn:nodupPs psl=true) (hlen:∀ ns,ns.length=k→psl.length≤(out ns).length) (hpe:pe=none∧E = .normal∨pe=some .ret∧E = .ret∨∃ id,pe=some (.exit id)∧E = .exit id) (nb:Nat)
    (hc:∀ l D fn tm,TmOk nt s.fs.env tm→RunsO F P gf (yv l :: caps) (some (loopB l (recL .ready none fn tm ps asg bd D)) :: lendO s.fs.mem psl) k v
      (fun ns=>some (loopB l (recL (stL pe) pe fn tm ps asg bd D)) :: out ns)) :
    AWPF F ds P nt (.rangeFunc g ps asg bd) s (fun e s'=>∃ ns:List Nat,ns.length=k∧e=E∧s'=⟨s.env,outUpd psl s.nx (out ns) ++ s.mem,s.nx+nb⟩):=by
  intro a w hs hF
  refine(wpIn_wide (n:=1)).1 (wpIn_rangeFunc (F:=Fence.wide) (n:=1) ?_)
  intro fn _
  obtain⟨l,hl⟩:∃ l,l=w.heap.size+1:=⟨_,rfl⟩
  obtain⟨W1,hW1⟩:∃ W1,(w.alloc (.deferred (some []))).alloc (.loop (recL .ready none fn a.tmps ps asg bd w.heap.size))=W1:=⟨_,rfl⟩
  have hL1:W1.heap[l]? = some (.loop (recL .ready none fn a.tmps ps asg bd w.heap.size)):=by
    rw [← hW1,hl]; have:=World.alloc_heap_new (w.alloc (.deferred (some []))) (.loop (recL .ready none fn a.tmps ps asg bd w.heap.size)); rwa [World.size_alloc] at this
  have hK1:W1.heap[w.heap.size]? = some (.deferred (some [])):=by
    rw [← hW1]; exact(Go.RowKit.Below.heap_alloc _ _ _ (by simp)).trans (World.alloc_heap_new w _)
  have hsz:W1.heap.size=w.heap.size+2:=by rw [← hW1]; simp
  have hold:∀ q,q < w.heap.size→W1.heap[q]? = w.heap[q]?:=fun q hq=>by
    rw [← hW1]; exact(Go.RowKit.Below.heap_alloc _ _ _ (by simp; omega)).trans (Go.RowKit.Below.heap_alloc _ _ _ hq)
  have hev:a.eval g = .func (.func gf) #[] caps.toArray:=opd_eval hs hg
  refine⟨l,[{ target:=.collected w.heap.size,args:=#[] }],W1,{ target:=.fn (.func gf) caps.toArray,args:=#[.func (.yield l) #[] #[]] },W1,gf,
    #[.func (.yield l) #[] #[]] ++ caps.toArray,W1,?_,?_,fun _ _=>trivial,?_,fun _=>Nat.le_refl _,?_⟩
  · rw [← hW1,hl]; exact run_enterLoop_outer _ _ _ _ _
  · simp only [resolve,hev]
    simp [go_sem]
  · simp [invoke,go_sem,eg]
  have hm1:∀ p b,shB (some (loopB l (recL .ready none fn a.tmps ps asg bd w.heap.size))) s.fs.mem p=some b→Holds b W1:=fun p b hb=>by
    cases p with
    | zero=>injection hb with hb; subst hb; exact loopB_holds hL1
    | succ p=>have:=hs.mem p b hb; exact this.of_heap (by omega) fun k hk=>hold _ (this.has_lt hk)
  have ha1:Apart (shB (some (loopB l (recL .ready none fn a.tmps ps asg bd w.heap.size))) s.fs.mem):=fun p q b c hpq hb hc ho=>by
    cases p with
    | zero =>
      cases q with
      | zero=>exact absurd rfl hpq
      | succ q=>injection hb with hb; subst hb; intro k k1 k2; have:=(hs.mem q c hc).has_lt k2; have:l=k:=k1; omega
    | succ p =>
      cases q with
      | zero=>injection hc with hc; subst hc; intro k k1 k2; have:=(hs.mem p b hb).has_lt k1; have:l=k:=k2; omega
      | succ q=>exact hs.apart p q b c (by omega) hb hc ho
  have hF1:Fam F (shB (some (loopB l (recL .ready none fn a.tmps ps asg bd w.heap.size))) s.fs.mem) W1:=fun b hb=>by
    obtain⟨h1,h2,h3⟩:=hF b hb
    refine⟨h1.of_heap (by omega) fun k hk=>hold _ (h1.has_lt hk),h2,fun k hk ho=>?_⟩
    rcases shB_owns ho with ⟨c,e,_,h5⟩ | h4
    · injection e with e; subst e; have:=h1.has_lt hk; have:l=k:=h5; omega
    · exact h3 k hk h4
  have hn1:nodupPs ((0,false) :: shP psl)=true:=by
    have h1:∀ qs:List (Nat × Bool),nodupPs qs=true→nodupPs (shP qs)=true:=by
      intro qs
      induction qs with
      | nil=>intro _; rfl
      | cons x r ih =>
        intro h
        simp only [nodupPs,Bool.and_eq_true,List.all_eq_true] at h
        show((shP r).all _ && nodupPs (shP r))=true
        rw [ih h.2,Bool.and_true,List.all_eq_true]
        intro y hy
        obtain⟨z,hz,rfl⟩:=List.mem_map.1 hy
        exact h.1 z hz
    show((shP psl).all _ && nodupPs (shP psl))=true
    rw [h1 psl hn,Bool.and_true,List.all_eq_true]
    intro y hy
    obtain⟨z,hz,rfl⟩:=List.mem_map.1 hy
    rfl
  have hlend:lendO (shB (some (loopB l (recL .ready none fn a.tmps ps asg bd w.heap.size))) s.fs.mem) ((0,false) :: shP psl)=some (loopB l (recL .ready none fn a.tmps ps asg bd w.heap.size)) :: lendO s.fs.mem psl:=by
    show _ :: lendO _ (shP psl)=_
    rw [lendO_sh]; rfl
  have hcall:=hc l w.heap.size fn a.tmps ⟨hs.size,hs.env⟩ W1 (by rw [← hlend]; exact lendO_holds hm1) (by rw [← hlend]; exact lendO_apart ha1 hn1) (by rw [← hlend]; exact fam_lendO hF1)
  have hargs:(yv l :: caps).toArray = #[.func (.yield l) #[] #[]] ++ caps.toArray:=by simp [yv]
  rw [hargs] at hcall
  refine callsIn_wide.2 (Calls.mono hcall ?_)
  rintro e W2 ⟨ns,hns,rfl,hp⟩
  have hl0:=(hp.holds 0 _ rfl).objm rfl
  have hl2:W2.heap[l]? = some (.loop (recL (stL pe) pe fn a.tmps ps asg bd w.heap.size)):=hl0
  have hp1:=post_frameO (nx:=s.nx+1) (out:=some (loopB l (recL (stL pe) pe fn a.tmps ps asg bd w.heap.size)) :: out ns) hm1 ha1 (ps:=(0,false) :: shP psl) (by simp [shP]; exact hlen ns hns) (by rw [hlend]; exact hp)
  rw [apply_sh] at hp1
  obtain⟨W4,hW4⟩:∃ W4,W2.putObj l (.loop { recL (stL pe) pe fn a.tmps ps asg bd w.heap.size with state:=.exhausted })=W4:=⟨_,rfl⟩
  have hoth:∀ q,q≠l→W4.heap[q]? = W2.heap[q]?:=fun q hq=>by rw [← hW4]; exact World.putObj_heap_other hq
  have hsz4:W4.heap.size=W2.heap.size:=by rw [← hW4]; simp [World.putObj]
  have hname:∀ p b,memApply s.fs.mem (outUpd psl s.nx (out ns)) p=some b→¬ b.has l:=fun p b hb e=>by
    cases ho:b.own with
    | true=>exact hp1.apart (p+1) 0 b _ (by omega) hb rfl ho l e rfl
    | false=>have h1:=hp1.adv.ro (p+1) b hb ho; have:=(hs.mem p b h1).has_lt e; omega
  have hnames:∀ q,Owns (memApply s.fs.mem (outUpd psl s.nx (out ns))) q→Owns s.fs.mem q∨w.heap.size+2≤q:=fun q hq=>by
    obtain⟨p,b,h1,h2,h3⟩:=hq
    rcases hp1.adv.names q ⟨p+1,b,h1,h2,h3⟩ with h4 | h4
    · rcases shB_owns h4 with ⟨c,e,_,h5⟩ | h5
      · injection e with e; subst e; have:l=q:=h5; subst this; exact absurd h3 (hname p b h1)
      · exact .inl h5
    · exact .inr (by omega)
  have hkeep:∀ q,q < W1.heap.size→q≠l→¬ Owns s.fs.mem q→W4.heap[q]? = W1.heap[q]?:=fun q hq hql hno=>by
    rw [hoth q hql]
    refine hp1.adv.heap q hq fun ho=>?_
    rcases shB_owns ho with ⟨c,e,_,h5⟩ | h5
    · injection e with e; subst e; exact hql h5.symm
    · exact hno h5
  obtain⟨hB,D,hD1,hD2,hD3⟩:=hs.defers
  have hfs:(St.mk s.env (outUpd psl s.nx (out ns) ++ s.mem) (s.nx+nb)).fs.mem=memApply s.fs.mem (outUpd psl s.nx (out ns)):=memOf_app _ _
  have hmk:w.heap.size ∉ D:=fun h=>by
    have:=(Array.getElem?_eq_some_iff.1 (hD3 _ h).2.1).1; omega
  have hno0:¬ Owns s.fs.mem w.heap.size:=fun⟨p,b,h1,_,h3⟩=>by have:=(hs.mem p b h1).has_lt h3; omega
  have hsat:Sat ds nt (St.mk s.env (outUpd psl s.nx (out ns) ++ s.mem) (s.nx+nb)).fs { a with defers:=[{ target:=.collected w.heap.size,args:=#[] }] ++ a.defers } W4:=by
    refine⟨⟨?_,w.heap.size :: D,List.nodup_cons.2 ⟨hmk,hD1⟩,by simp [hD2],fun r hr=>?_⟩,hs.size,hs.env,fun p b hb=>?_,?_⟩
    · have:=hp1.adv.size; omega
    · rw [hfs]
      rcases List.mem_cons.1 hr with rfl | hr
      · refine⟨hB,(hkeep _ (by omega) (by omega) hno0).trans hK1,fun ho=>?_⟩
        rcases hnames _ ho with h4 | h4
        · exact hno0 h4
        · omega
      · obtain⟨k1,k2,k3⟩:=hD3 r hr
        have hlt:=(Array.getElem?_eq_some_iff.1 k2).1
        refine⟨k1,((hkeep r (by omega) (by omega) k3).trans (hold r hlt)).trans k2,fun ho=>?_⟩
        rcases hnames _ ho with h4 | h4
        · exact k3 h4
        · omega
    · rw [hfs] at hb
      exact(hp1.holds (p+1) b hb).of_heap (by omega) fun k hk=>hoth _ fun e=>hname p b hb (e ▸ hk)
    · rw [hfs]
      exact fun p q b c hpq hb hc ho=>hp1.apart (p+1) (q+1) b c (by omega) hb hc ho
  have hadv:Adv s.fs.mem w (St.mk s.env (outUpd psl s.nx (out ns) ++ s.mem) (s.nx+nb)).fs.mem W4:=by
    rw [hfs]
    refine⟨?_,?_,?_,?_,fun q hq hno=>?_,fun q hq=>?_,fun p b hb ho=>hp1.adv.ro (p+1) b hb ho⟩
    · rw [← hW4]; exact hp1.adv.os.trans (by rw [← hW1]; rfl)
    · rw [← hW4]; exact hp1.adv.output.trans (by rw [← hW1]; rfl)
    · rw [← hW4]; exact hp1.adv.tape.trans (by rw [← hW1]; rfl)
    · have:=hp1.adv.size; omega
    · exact(hkeep q (by omega) (by omega) hno).trans (hold q hq)
    · rcases hnames q hq with h4 | h4
      · exact .inl h4
      · exact .inr (by omega)
  have hend:(Instr.endLoop l).run P W2 = .ok pe W4:=by
    have:=run_endLoop (P:=P) hl2 (by cases pe <;> simp [recL,stL])
    rw [← hW4]; exact this
  refine⟨pe,W4,hend,?_⟩
  rcases hpe with ⟨rfl,rfl⟩ | ⟨rfl,rfl⟩ | ⟨id,rfl,rfl⟩
  · exact⟨_,⟨ns,hns,rfl,rfl⟩,hsat,hadv⟩
  · exact wpIn_wide.2 (wp_ret ⟨_,⟨ns,hns,rfl,rfl⟩,hsat,hadv⟩)
  · exact wpIn_wide.2 (wp_exit ⟨_,⟨ns,hns,rfl,rfl⟩,hsat,hadv⟩)
def Free (l:Nat) (m:Nat→Option Blk):Prop:=∀ p b,m p=some b→¬ b.has l
theorem Free.adv {l:Nat} {m m':Nat→Option Blk} {w w':World} (h:Free l m) (hl:l < w.heap.size) (ha:Adv m w m' w'):Free l m':=fun p b hb e=>by
  cases ho:b.own with
  | true =>
    rcases ha.names l ⟨p,b,hb,ho,e⟩ with ⟨q,c,h1,_,h3⟩ | h1
    · exact h q c h1 h3
    · omega
  | false=>exact h p b (ha.ro p b hb ho) e
theorem Sat.put {nt:Nat} {s:FSt} {a:Act} {w:World} (h:Sat ds nt s a w) {l:Nat} {L:Loop} {o:Obj} (hl:w.heap[l]? = some (.loop L)) (hf:Free l s.mem):Sat ds nt s a (w.putObj l o):=by
  refine⟨?_,h.size,h.env,fun p b hb=>(h.mem p b hb).of_heap (by simp [World.putObj]) (fun k hk=>World.putObj_heap_other fun e=>hf p b hb (e ▸ hk)),h.apart⟩
  obtain⟨h0,D,h1,h2,h3⟩:=h.defers
  refine⟨by simpa [World.putObj] using h0,D,h1,h2,fun r hr=>?_⟩
  obtain⟨k1,k2,k3⟩:=h3 r hr
  have hne:r≠l:=fun e=>by subst e; rw [hl] at k2; cases k2
  exact⟨k1,(World.putObj_heap_other hne).trans k2,k3⟩
def findRf:Code→List Code
  | .seq a b=>findRf a ++ findRf b
  | .block _ b=>findRf b
  | .scope b=>findRf b
  | .loop b=>findRf b
  | .cond _ x y=>findRf x ++ findRf y
  | .rangeFunc g p a b=>[.rangeFunc g p a b]
  | _=>[]
def rfC (k:Nat) (c:Option Code):Code:=match c with
  | some c=>(findRf c).getD k .skip
  | none=>.skip
def rfA:Code→Code
  | .rangeFunc _ _ a _=>a
  | _=>.skip
def rfB:Code→Code
  | .rangeFunc _ _ _ b=>b
  | _=>.skip
def rfP:Code→Array Tmp
  | .rangeFunc _ p _ _=>p
  | _=>#[]
def rfG:Code→Operand
  | .rangeFunc g _ _ _=>g
  | _=>.func 0
theorem awp_rf {F : Blk → Prop} {P : Program} {nt : Nat} {c : Code} {s : St} (gf : Nat) (caps : List Value) (psl : List (Nat × Bool)) (k nb : Nat) (v : List Nat → Value) (out : List Nat → List (Option Blk)) (pe : Option Code) (E : Exit)
    (ts ps:List Nat) (nx:Nat) (S:List Nat→St) (hc:c = .rangeFunc (rfG c) (rfP c) (rfA c) (rfB c)) (hg:opdEV s.fs.env (rfG c)=some (.v (.func (.func gf) #[] caps.toArray))) (eg:∀ args w,(callFunc gf args).run P w = .ok (.enter gf args) w)
    (hn:nodupPs psl=true) (hlen:∀ ns:List Nat,ns.length=k→Nat.ble psl.length (out ns).length=true) (hpe:pe=none∧E = .normal∨pe=some .ret∧E = .ret∨∃ id,pe=some (.exit id)∧E = .exit id)
    (hr:∀ l D fn tm,TmOk nt s.fs.env tm→RunsO F P gf (yv l :: caps) (some (loopB l (recL .ready none fn tm (rfP c) (rfA c) (rfB c) D)) :: lendO s.fs.mem psl) k v
      (fun ns=>some (loopB l (recL (stL pe) pe fn tm (rfP c) (rfA c) (rfB c) D)) :: out ns))
    (hS:∀ ns:List Nat,ns.length=k→(St.mk s.env (outUpd psl s.nx (out ns) ++ s.mem) (s.nx+nb)).keep ts ps nx=S ns) :
    ∀ ds,AWPF F ds P nt c s (fun e s'=>∃ x:List Nat,x.length=k∧e=E∧Le (S x).fs s'.fs):=by
  intro ds a w hs hF
  have key:=awp_rangeFunc (ds:=ds) (nt:=nt) (ps:=rfP c) (asg:=rfA c) (bd:=rfB c) hg eg hn (fun ns hns=>Nat.le_of_ble_eq_true (hlen ns hns)) hpe nb hr a w hs hF
  rw [← hc] at key
  refine wp_mono key ?_
  rintro e a' w' ⟨s',⟨ns,hns,he,rfl⟩,hS',hA⟩
  exact⟨_,⟨ns,hns,he,hS ns hns ▸ keep_le _ ts ps nx⟩,hS',hA⟩
end Go.Eng
end
section
namespace Go.Proofs.YtmdpendnbkajdaaGreatDoor
open Go Go.Eng
theorem mT72:MapT Tryz.prog 82 3 48 int rowV (fun _=>0) eqI:=int_keys (by kernel_rfl) (by kernel_rfl) fun w=>pureRun_run (show pureRun Tryz.prog (zeroValue 48)=some (rowV fun _=>0) by kernel_rfl) w
theorem mT73:MapT Tryz.prog 83 3 97 int ev0 () eqI:=int_keys (by kernel_rfl) (by kernel_rfl) fun w=>pureRun_run (show pureRun Tryz.prog (zeroValue 97)=some (ev0 ()) by kernel_rfl) w
theorem mT81:MapT Tryz.prog 124 4 23 Value.bool u64 0 eqT:=bool_keys (by kernel_rfl) (by kernel_rfl) fun w=>pureRun_run (show pureRun Tryz.prog (zeroValue 23)=some (u64 0) by kernel_rfl) w
theorem digT:Tryz.prog.underlying 48=some (.array 32 5):=by kernel_rfl
theorem digE:Tryz.prog.underlying 5=some (.int .u8):=by kernel_rfl
theorem digS:sizeB Tryz.prog 5=some 1:=by kernel_rfl
theorem digG:Tryz.prog.eqGuardType Tryz.prog.depth 48=false:=by kernel_rfl
theorem times_pure (x y:UInt64):Pure Tryz.prog 72 [(u64 x),(u64 y)] (nat4 (mul8 (smallN x) (smallN y)).lo) :=
  pure_of_ev mix Tryz.func72 rfl rfl 400 (.regn (rg [.new]) (more (fun n1=>fun _=>(.regn (rg [.g,(.call [] 0 0 (fun _=>(Value.agg #[(u64 x),(u64 0),(u64 0),(u64 0)])) (fun _=>[])),.g,(.call [] 0 0 (fun _=>(Value.agg #[(u64 y),(u64 0),(u64 0),(u64 0)])) (fun _=>[])),(.call [] 0 0 (fun _=>(wide8 (mul8 (N4.mk x 0 0 0) (N4.mk y 0 0 0)))) (fun _=>[])),.new,(.st 1 (.lit 0))]) (more (fun n2=>fun _=>(.reg (rg [.g,.g,(.ld 1 (.lit 0)),(.st 0 (.lit 0))]) .done))))))) [(0,0)]
    (Eq.mp (by kernel_rfl) (fun(n1:Nat)=>aI kV1 (fun(n2:Nat)=>aI (sk (aI (aT (small_pure x)) (sk (aI (aT (small_pure y)) (aI (aT (mul_pure (N4.mk x 0 0 0) (N4.mk y 0 0 0))) (sk (aI (aT (ad n2 0)) tV))))))) (aI (sK2 (aI (aT (ad n2 0)) (aI (aT (ad n1 0)) tV))) (aI (aI (@rfl Value (ptr n1 0)) tV) (@rfl Value (nat4 (mul8 (smallN x) (smallN y)).lo)))))))
theorem more_pure (x y:UInt64):Pure Tryz.prog 47 [(u64 x),(u64 y)] (Value.bool (moreU x y)) :=
  pure_of_ev mix Tryz.func47 rfl rfl 400 (.reg (rg [.g]) (.reg (rg [.g,(.call [] 0 0 (fun _=>(nat4 ((mul8 (smallN x) (smallN 3)).lo))) (fun _=>[])),.g,(.call [] 0 0 (fun _=>(Value.agg #[(u64 y),(u64 0),(u64 0),(u64 0)])) (fun _=>[])),(.call [] 0 0 (fun _=>(int (cmp4 ((mul8 (smallN x) (smallN 3)).lo) (N4.mk y 0 0 0)))) (fun _=>[])),.g,.g]) .done)) []
    (Eq.mp (by kernel_rfl) (aI kV1 (aI (sk (aI (aT (times_pure x 3)) (sk (aI (aT (small_pure y)) (aI (aT (cmp_pure ((mul8 (smallN x) (smallN 3)).lo) (N4.mk y 0 0 0))) kV2))))) (aT ((show(Value.bool (decide (((cmp4 ((mul8 (smallN x) (smallN 3)).lo) (N4.mk y 0 0 0)):Int) > 0)))=Value.bool (moreU x y) from congrArg Value.bool more_val))))))
theorem for1_runs (vb:Nat) (v w:Nat→UInt8):Runs Tryz.prog 74 [(vecV 32 (fun k=>u8 (v k))),(ptr vb 0)] [⟨vb,false,0,(litF 32 (fun k=>u8 (w k)))⟩] 0 (fun _=>Value.bool (sR v w)) (fun _=>[some ⟨vb,false,0,(litF 32 (fun k=>u8 (w k)))⟩]) :=
  runs_of_ev mix Tryz.func74 rfl rfl 400 (.regn (rg [.new,.g]) (more (fun n1=>fun _=>(.reg (rg [(.ld 1 (.lit 0)),(.ld 0 (.lit 0)),(.as (Value.bool (sR v w))),.g]) .done)))) [] [] rfl
    (Eq.mp (by kernel_rfl) (fun(n1:Nat)=>aI kV2 (aI (aI (aT (ad n1 0)) (aI (aT (ad vb 0)) (aI (aT (is_eqlR (P:=Tryz.prog) (t:=48) (t':=48) (x:=(.tmp 4)) (y:=(.tmp 5)) digT digE digS digG v w)) kV1))) (aT (eX (fun(ns:List Nat)=>ns.length=0∧((Value.bool (sR v w)):Value)=(fun _=>Value.bool (sR v w)) ns∧([some ⟨vb,false,0,(litF 32 (fun k=>u8 (w k)))⟩]:List (Option Blk))=(fun _=>[some ⟨vb,false,0,(litF 32 (fun k=>u8 (w k)))⟩]) ns) [] (aI (@rfl Nat 0) (aI (@rfl Value (Value.bool (sR v w))) (@rfl (List (Option Blk)) [some ⟨vb,false,0,(litF 32 (fun k=>u8 (w k)))⟩]))))))))
def gather_bit_S1 (t:Nat) (sp:Nat) (sc:Nat) (fm:Nat) (am:Nat) (n:Nat) (s:Nat→UInt64) (F:Fst) (vb:Nat) (w:Nat→UInt8) (n1:Nat) (n2:Nat) (x1:(List Nat) × (List (Bool × UInt64))):St:=⟨[(0,.v (ptr t 0)),(1,.v (Value.func (.func 74) #[] #[(ptr vb 0)])),(5,.v (Value.map (some n1))),(13,.v (ptr n2 0))],[(0,some ⟨t,false,0,(.lit [(Value.slice (some ⟨sp,0,none⟩) n sc),(u64 ((totN s n).a)),(Value.map (some fm)),(Value.map (some am))])⟩),(1,some ⟨sp,false,0,(tabF n (fun k=>u64 (s k)))⟩),(2,some ⟨fm,false,0,(firC F)⟩),(3,some ⟨vb,false,0,(litF 32 (fun k=>u8 (w k)))⟩),(4,some ⟨n1,true,0,(bitC x1.2)⟩),(5,some ⟨n2,true,0,(itC fm F.length x1.1)⟩)],6⟩
def gather_bit_R1 (t:Nat) (sp:Nat) (sc:Nat) (fm:Nat) (am:Nat) (n:Nat) (s:Nat→UInt64) (F:Fst) (vb:Nat) (w:Nat→UInt8) (n1:Nat) (n2:Nat) (x1:(List Nat) × (List (Bool × UInt64))):Prop:=(OrdN F.length x1.1)∧(x1.2=bitM s F w x1.1)
def gather_bit_mu1 (t:Nat) (sp:Nat) (sc:Nat) (fm:Nat) (am:Nat) (n:Nat) (s:Nat→UInt64) (F:Fst) (vb:Nat) (w:Nat→UInt8) (n1:Nat) (n2:Nat) (x1:(List Nat) × (List (Bool × UInt64))):Nat:=leftN x1.1 F.length
theorem gather_bit (t sp sc fm am n:Nat) (s:Nat→UInt64) (F:Fst) (vb:Nat) (w:Nat→UInt8) (hV:VOk n s F):Runs Tryz.prog 73 [(ptr t 0),(Value.func (.func 74) #[] #[(ptr vb 0)])] [⟨t,false,0,(.lit [(Value.slice (some ⟨sp,0,none⟩) n sc),(u64 ((totN s n).a)),(Value.map (some fm)),(Value.map (some am))])⟩,⟨sp,false,0,(tabF n (fun k=>u64 (s k)))⟩,⟨fm,false,0,(firC F)⟩,⟨vb,false,0,(litF 32 (fun k=>u8 (w k)))⟩] 2 (fun(ns:List Nat)=>(Value.map (some (ns.getD 0 0)))) (fun(ns:List Nat)=>[some ⟨t,false,0,(.lit [(Value.slice (some ⟨sp,0,none⟩) n sc),(u64 ((totN s n).a)),(Value.map (some fm)),(Value.map (some am))])⟩,some ⟨sp,false,0,(tabF n (fun k=>u64 (s k)))⟩,some ⟨fm,false,0,(firC F)⟩,some ⟨vb,false,0,(litF 32 (fun k=>u8 (w k)))⟩,some ⟨(ns.getD 0 0),true,0,(bitC (bitM s F w (ordD F.length (ns.getD 1 0))))⟩]) :=
  runs_of_ev mix Tryz.func73 rfl rfl 400 (.reg (rg [.g]) (.regn (rg [(.oth [] 1 1 (fun ns=>Value.map (some (ns.getD 0 0))) (fun ns=>[some ⟨ns.getD 0 0,true,0,bitC []⟩])),.g]) (more (fun n1=>fun _=>(.regn (rg [.g,.g,.g,(.ld 0 (.lit 2)),(.othB [(2,true)] 1 1 (fun ns=>ptr (ns.getD 0 0) 0) (fun bs ns=>[none,some ⟨(ns.getD 0 0),true,0,itB bs⟩]))]) (more (fun n2=>fun _=>(.inv [0,1,5,13] [0,1,2,3,4,5] 6 (gather_bit_R1 t sp sc fm am n s F vb w n1 n2) (gather_bit_S1 t sp sc fm am n s F vb w n1 n2) (gather_bit_mu1 t sp sc fm am n s F vb w n1 n2) ((([]),([])):(List Nat) × (List (Bool × UInt64))) (fun(x1:(List Nat) × (List (Bool × UInt64)))=>(.both (unseen x1.1 F.length) (.regn (rg [(.oth [(5,false),(2,true)] 1 0 (fun ns=>(Value.tuple #[(Value.bool true),(int ((kvAt d0 F (pk x1.1 F.length (ns.getD 0 0))).1)),(vecV 32 (fun k=>u8 ((kvAt d0 F (pk x1.1 F.length (ns.getD 0 0))).2 k)))])) (fun ns=>[some ⟨n2,true,0,(itC fm F.length (x1.1 ++ [pk x1.1 F.length (ns.getD 0 0)]))⟩,none])),.g]) (more (fun n3=>fun _=>(.yes (.regn (rg [(.oth [(5,true),(2,true)] 0 0 (fun _=>(Value.tuple #[(int ((kvAt d0 F (pk x1.1 F.length n3)).1)),(vecV 32 (fun k=>u8 ((kvAt d0 F (pk x1.1 F.length n3)).2 k)))])) (fun _=>[none,none])),.g,.g,.new,.g,(.st 6 (.lit 0))]) (more (fun n4=>fun _=>(.reg (rg [.g,.g,(.ld 6 (.lit 0)),(.call [(3,true)] 0 0 (fun _=>(Value.bool (sR ((kvAt d0 F (pk x1.1 F.length n3)).2) w))) (fun _=>[none])),(.oth [(4,true)] 0 0 (fun _=>(u64 ((findE eqT (sR ((kvAt d0 F (pk x1.1 F.length n3)).2) w) x1.2).getD 0))) (fun _=>[none])),.g,.g,.g,(.ld 0 (.lit 0)),(.as (nat (((kvAt d0 F (pk x1.1 F.length n3)).1).toNat))),(.as (ptr sp (0+(((kvAt d0 F (pk x1.1 F.length n3)).1).toNat)*1))),(.ld 1 (.tab (((kvAt d0 F (pk x1.1 F.length n3)).1).toNat) 0)),(.as (u64 (((findE eqT (sR ((kvAt d0 F (pk x1.1 F.length n3)).2) w) x1.2).getD 0)+(s (((kvAt d0 F (pk x1.1 F.length n3)).1).toNat))))),(.upd 4 (bitC (putE eqT (sR ((kvAt d0 F (pk x1.1 F.length n3)).2) w) (((findE eqT (sR ((kvAt d0 F (pk x1.1 F.length n3)).2) w) x1.2).getD 0)+(s (((kvAt d0 F (pk x1.1 F.length n3)).1).toNat))) x1.2)))]) .done)))))))) (.reg (rg [(.oth [(5,true),(2,true)] 0 0 (fun _=>Value.tuple #[.bool false]) (fun _=>[none,none])),.g]) (.no (.reg (rg [.g,.g]) .done))))))))))))) [] [4] rfl
    (Eq.mp (by kernel_rfl) (aI kV1 (fun(n1:Nat)=>aI (aI (aT (srun_mkm (P:=Tryz.prog) (kv:=Value.bool) (ev:=u64) 124)) kV1) (fun(n2:Nat)=>aI (sK3 (aI (aT (ad t 2)) (aI (aT (SRuns.dark [true] (srun_rng (P:=Tryz.prog) (mt:=82) (kv:=int) (ev:=rowV) mT72.hm fm false F))) tV))) (aI (show(gather_bit_R1 t sp sc fm am n s F vb w n1 n2) ((([]),([])):(List Nat) × (List (Bool × UInt64))) from(show(OrdN F.length ([]))∧(([])=bitM s F w ([])) from by exact⟨OrdN.nil _,rfl⟩)) (aI (@rfl St ((gather_bit_S1 t sp sc fm am n s F vb w n1 n2) ((([]),([])):(List Nat) × (List (Bool × UInt64))))) (fun(x1:(List Nat) × (List (Bool × UInt64))) (hx1:(gather_bit_R1 t sp sc fm am n s F vb w n1 n2) x1)=>have B0:OrdN F.length x1.1:=hx1.1; have B1:x1.2=bitM s F w x1.1:=hx1.2; aI (fun(h1:(unseen x1.1 F.length)=true)=>fun(n3:Nat)=>aI (aI (aT (SRuns.dark [false,true] (srun_nxt (P:=Tryz.prog) (kv:=int) (ev:=rowV) 0 n2 fm false F x1.1 d0 h1))) kV1) ((have f3:(pk x1.1 F.length n3) < F.length:=((pk_ok h1 n3)).1; have f4:0≤(kvAt d0 F (pk x1.1 F.length n3)).1∧(kvAt d0 F (pk x1.1 F.length n3)).1.toNat < n:=(hV.key (pk x1.1 F.length n3) ((pk_ok h1 n3)).1); aT (aI (@rfl Bool true) (fun(n4:Nat)=>aI (aI (aT (srun_ent (P:=Tryz.prog) (kv:=int) (ev:=rowV) n2 fm false false F x1.1 (pk x1.1 F.length n3) d0 (show pk x1.1 F.length n3 < F.length from by omega))) (sK4 (aI (aT (ad n4 0)) tV))) (aI (sK2 (aI (aT (ad n4 0)) (aI (aT (Runs.dark [true] (for1_runs vb ((kvAt d0 F (pk x1.1 F.length n3)).2) w))) (aI (aT (srun_look1 (P:=Tryz.prog) mT81 n1 false x1.2 (sR ((kvAt d0 F (pk x1.1 F.length n3)).2) w))) (sK3 (aI (aT (ad t 0)) (aI (aT (@is_move_nat Tryz.prog (.tmp 6) ((kvAt d0 F (pk x1.1 F.length n3)).1) (((kvAt d0 F (pk x1.1 F.length n3)).1).toNat) (show(((kvAt d0 F (pk x1.1 F.length n3)).1):Int)=((((kvAt d0 F (pk x1.1 F.length n3)).1).toNat:Nat):Int) from by omega))) (aI (aT (@is_ixSl Tryz.prog 35 23 (.tmp 27) (.tmp 28) 1 (by kernel_rfl) (by kernel_rfl) sp 0 n sc (((kvAt d0 F (pk x1.1 F.length n3)).1).toNat) (show((kvAt d0 F (pk x1.1 F.length n3)).1).toNat < n from by omega))) (aI (aT (aI (show((kvAt d0 F (pk x1.1 F.length n3)).1).toNat < n from by omega) (@rfl Value (ptr sp (0+(((kvAt d0 F (pk x1.1 F.length n3)).1).toNat)*1))))) (aI (aT (@is_add64 Tryz.prog 23 23 (.tmp 23) (.tmp 30) ((findE eqT (sR ((kvAt d0 F (pk x1.1 F.length n3)).2) w) x1.2).getD 0) (s (((kvAt d0 F (pk x1.1 F.length n3)).1).toNat)))) (aI (aT (srun_upd (P:=Tryz.prog) mT81 n1 x1.2 (sR ((kvAt d0 F (pk x1.1 F.length n3)).2) w) (((findE eqT (sR ((kvAt d0 F (pk x1.1 F.length n3)).2) w) x1.2).getD 0)+(s (((kvAt d0 F (pk x1.1 F.length n3)).1).toNat))))) tV))))))))))) ((rnd (gather_bit_R1 t sp sc fm am n s F vb w n1 n2) (gather_bit_S1 t sp sc fm am n s F vb w n1 n2) (gather_bit_mu1 t sp sc fm am n s F vb w n1 n2) x1 (((x1.1 ++ [pk x1.1 F.length n3]),(putE eqT (sR ((kvAt d0 F (pk x1.1 F.length n3)).2) w) (((findE eqT (sR ((kvAt d0 F (pk x1.1 F.length n3)).2) w) x1.2).getD 0)+(s (((kvAt d0 F (pk x1.1 F.length n3)).1).toNat))) x1.2)):(List Nat) × (List (Bool × UInt64))) (show(gather_bit_R1 t sp sc fm am n s F vb w n1 n2) (((x1.1 ++ [pk x1.1 F.length n3]),(putE eqT (sR ((kvAt d0 F (pk x1.1 F.length n3)).2) w) (((findE eqT (sR ((kvAt d0 F (pk x1.1 F.length n3)).2) w) x1.2).getD 0)+(s (((kvAt d0 F (pk x1.1 F.length n3)).1).toNat))) x1.2)):(List Nat) × (List (Bool × UInt64)))∧(gather_bit_mu1 t sp sc fm am n s F vb w n1 n2) (((x1.1 ++ [pk x1.1 F.length n3]),(putE eqT (sR ((kvAt d0 F (pk x1.1 F.length n3)).2) w) (((findE eqT (sR ((kvAt d0 F (pk x1.1 F.length n3)).2) w) x1.2).getD 0)+(s (((kvAt d0 F (pk x1.1 F.length n3)).1).toNat))) x1.2)):(List Nat) × (List (Bool × UInt64))) < (gather_bit_mu1 t sp sc fm am n s F vb w n1 n2) x1 from(show((OrdN F.length (x1.1 ++ [pk x1.1 F.length n3]))∧((putE eqT (sR ((kvAt d0 F (pk x1.1 F.length n3)).2) w) (((findE eqT (sR ((kvAt d0 F (pk x1.1 F.length n3)).2) w) x1.2).getD 0)+(s (((kvAt d0 F (pk x1.1 F.length n3)).1).toNat))) x1.2)=bitM s F w (x1.1 ++ [pk x1.1 F.length n3])))∧(leftN (x1.1 ++ [pk x1.1 F.length n3]) F.length) < (leftN x1.1 F.length) from by exact⟨⟨B0.snoc h1 _,by rw [B1]; exact(gm_snoc eqT (fun i=>sR (vF F i) w) (sF s F) _ _).symm⟩,leftN_lt (pk_ok h1 _).1 (pk_ok h1 _).2⟩)))))))))) (fun(h1:(unseen x1.1 F.length)=false)=>aI (aI (aT (srun_nxt0 (P:=Tryz.prog) (kv:=int) (ev:=rowV) 0 n2 fm false false F x1.1 h1)) kV1) (aT (aI (@rfl Bool false) (aI kV2 (aT (eX (fun(ns:List Nat)=>ns.length=2∧((Value.map (some n1)):Value)=(fun(ns:List Nat)=>(Value.map (some (ns.getD 0 0)))) ns∧([some ⟨t,false,0,(.lit [(Value.slice (some ⟨sp,0,none⟩) n sc),(u64 ((totN s n).a)),(Value.map (some fm)),(Value.map (some am))])⟩,some ⟨sp,false,0,(tabF n (fun k=>u64 (s k)))⟩,some ⟨fm,false,0,(firC F)⟩,some ⟨vb,false,0,(litF 32 (fun k=>u8 (w k)))⟩,some ⟨n1,true,0,(bitC x1.2)⟩]:List (Option Blk))=(fun(ns:List Nat)=>[some ⟨t,false,0,(.lit [(Value.slice (some ⟨sp,0,none⟩) n sc),(u64 ((totN s n).a)),(Value.map (some fm)),(Value.map (some am))])⟩,some ⟨sp,false,0,(tabF n (fun k=>u64 (s k)))⟩,some ⟨fm,false,0,(firC F)⟩,some ⟨vb,false,0,(litF 32 (fun k=>u8 (w k)))⟩,some ⟨(ns.getD 0 0),true,0,(bitC (bitM s F w (ordD F.length (ns.getD 1 0))))⟩]) ns) [n1,(codO x1.1)] (aI (@rfl Nat 2) (aI (@rfl Value (Value.map (some n1))) ((show([some ⟨t,false,0,(.lit [(Value.slice (some ⟨sp,0,none⟩) n sc),(u64 ((totN s n).a)),(Value.map (some fm)),(Value.map (some am))])⟩,some ⟨sp,false,0,(tabF n (fun k=>u64 (s k)))⟩,some ⟨fm,false,0,(firC F)⟩,some ⟨vb,false,0,(litF 32 (fun k=>u8 (w k)))⟩,some ⟨n1,true,0,(bitC x1.2)⟩]:List (Option Blk))=[some ⟨t,false,0,(.lit [(Value.slice (some ⟨sp,0,none⟩) n sc),(u64 ((totN s n).a)),(Value.map (some fm)),(Value.map (some am))])⟩,some ⟨sp,false,0,(tabF n (fun k=>u64 (s k)))⟩,some ⟨fm,false,0,(firC F)⟩,some ⟨vb,false,0,(litF 32 (fun k=>u8 (w k)))⟩,some ⟨n1,true,0,(bitC (bitM s F w (ordD F.length (codO x1.1))))⟩] from by rw [ordD_cod (show OrdA F.length x1.1 from⟨B0,h1⟩) (Nat.le_trans hV.len (by decide)),← B1])))))))))))))))))
end Go.Proofs.YtmdpendnbkajdaaGreatDoor
end
section
namespace Go.Proofs.YtmdpendnbkajdaaGreatDoor
open Go Go.Eng
theorem for_runs (t sp sc fm am n:Nat) (s:Nat→UInt64) (F:Fst) (v:Nat→UInt8) (hV:VOk n s F):Runs Tryz.prog 48 [(ptr t 0),(vecV 32 (fun k=>u8 (v k)))] [⟨t,false,0,(.lit [(Value.slice (some ⟨sp,0,none⟩) n sc),(u64 ((totN s n).a)),(Value.map (some fm)),(Value.map (some am))])⟩,⟨sp,false,0,(tabF n (fun k=>u64 (s k)))⟩,⟨fm,false,0,(firC F)⟩] 0 (fun _=>u64 (forV s F v)) (fun _=>[some ⟨t,false,0,(.lit [(Value.slice (some ⟨sp,0,none⟩) n sc),(u64 ((totN s n).a)),(Value.map (some fm)),(Value.map (some am))])⟩,some ⟨sp,false,0,(tabF n (fun k=>u64 (s k)))⟩,some ⟨fm,false,0,(firC F)⟩]) :=
  runs_of_ev mix Tryz.func48 rfl rfl 400 (.regn (rg [.new,.g]) (more (fun n1=>fun _=>(.regn (rg [.g,.g,(.call [(0,true),(1,true),(2,true),(3,true)] 2 1 (fun ns=>Value.map (some (ns.getD 0 0))) (fun ns=>[none,none,none,none,some ⟨(ns.getD 0 0),true,0,(bitC (bitM s F v (ordD F.length (ns.getD 1 0))))⟩])),(.oth [(4,true)] 0 0 (fun _=>(u64 (forV s F v))) (fun _=>[none])),.g]) (more (fun n2=>more (fun n3=>fun _=>.done))))))) [] [] rfl
    (Eq.mp (by kernel_rfl) (fun(n1:Nat)=>aI kV2 (fun(n2 n3:Nat)=>aI (sK2 (aI (aT (Runs.dark [true,true,true,true] (gather_bit t sp sc fm am n s F n1 v hV))) (aI (aT (SRuns.valE (srun_look1 (P:=Tryz.prog) mT81 n2 false (bitM s F v (ordD F.length n3)) true) (congrArg u64 (for_bit hV v (ordD_ok _ _))))) kV1))) (aT (eX (fun(ns:List Nat)=>ns.length=0∧((u64 (forV s F v)):Value)=(fun _=>u64 (forV s F v)) ns∧([some ⟨t,false,0,(.lit [(Value.slice (some ⟨sp,0,none⟩) n sc),(u64 ((totN s n).a)),(Value.map (some fm)),(Value.map (some am))])⟩,some ⟨sp,false,0,(tabF n (fun k=>u64 (s k)))⟩,some ⟨fm,false,0,(firC F)⟩]:List (Option Blk))=(fun _=>[some ⟨t,false,0,(.lit [(Value.slice (some ⟨sp,0,none⟩) n sc),(u64 ((totN s n).a)),(Value.map (some fm)),(Value.map (some am))])⟩,some ⟨sp,false,0,(tabF n (fun k=>u64 (s k)))⟩,some ⟨fm,false,0,(firC F)⟩]) ns) [] (aI (@rfl Nat 0) (aI (@rfl Value (u64 (forV s F v))) (@rfl (List (Option Blk)) [some ⟨t,false,0,(.lit [(Value.slice (some ⟨sp,0,none⟩) n sc),(u64 ((totN s n).a)),(Value.map (some fm)),(Value.map (some am))])⟩,some ⟨sp,false,0,(tabF n (fun k=>u64 (s k)))⟩,some ⟨fm,false,0,(firC F)⟩]))))))))
theorem third_runs (t sp sc fm am n:Nat) (s:Nat→UInt64) (F:Fst) (v:Nat→UInt8) (hV:VOk n s F):Runs Tryz.prog 28 [(ptr t 0),(vecV 32 (fun k=>u8 (v k)))] [⟨t,false,0,(.lit [(Value.slice (some ⟨sp,0,none⟩) n sc),(u64 ((totN s n).a)),(Value.map (some fm)),(Value.map (some am))])⟩,⟨sp,false,0,(tabF n (fun k=>u64 (s k)))⟩,⟨fm,false,0,(firC F)⟩] 0 (fun _=>Value.bool (moreU (forV s F v) (totN s n).a)) (fun _=>[some ⟨t,false,0,(.lit [(Value.slice (some ⟨sp,0,none⟩) n sc),(u64 ((totN s n).a)),(Value.map (some fm)),(Value.map (some am))])⟩,some ⟨sp,false,0,(tabF n (fun k=>u64 (s k)))⟩,some ⟨fm,false,0,(firC F)⟩]) :=
  runs_of_ev mix Tryz.func28 rfl rfl 400 (.regn (rg [.new,.g]) (more (fun n1=>fun _=>(.reg (rg [.g,(.ld 3 (.lit 0)),(.call [(0,true),(1,true),(2,true)] 0 0 (fun _=>(u64 (forV s F v))) (fun _=>[none,none,none])),.g,.g,.g,(.ld 0 (.lit 1)),(.call [] 0 0 (fun _=>(Value.bool (moreU (forV s F v) ((totN s n).a)))) (fun _=>[])),.g]) .done)))) [] [] rfl
    (Eq.mp (by kernel_rfl) (fun(n1:Nat)=>aI kV2 (aI (sk (aI (aT (ad n1 0)) (aI (aT (Runs.dark [true,true,true] (for_runs t sp sc fm am n s F v hV))) (sK3 (aI (aT (ad t 1)) (aI (aT (more_pure (forV s F v) ((totN s n).a))) kV1)))))) (aT (eX (fun(ns:List Nat)=>ns.length=0∧((Value.bool (moreU (forV s F v) ((totN s n).a))):Value)=(fun _=>Value.bool (moreU (forV s F v) (totN s n).a)) ns∧([some ⟨t,false,0,(.lit [(Value.slice (some ⟨sp,0,none⟩) n sc),(u64 ((totN s n).a)),(Value.map (some fm)),(Value.map (some am))])⟩,some ⟨sp,false,0,(tabF n (fun k=>u64 (s k)))⟩,some ⟨fm,false,0,(firC F)⟩]:List (Option Blk))=(fun _=>[some ⟨t,false,0,(.lit [(Value.slice (some ⟨sp,0,none⟩) n sc),(u64 ((totN s n).a)),(Value.map (some fm)),(Value.map (some am))])⟩,some ⟨sp,false,0,(tabF n (fun k=>u64 (s k)))⟩,some ⟨fm,false,0,(firC F)⟩]) ns) [] (aI (@rfl Nat 0) (aI (@rfl Value (Value.bool (moreU (forV s F v) (totN s n).a))) (@rfl (List (Option Blk)) [some ⟨t,false,0,(.lit [(Value.slice (some ⟨sp,0,none⟩) n sc),(u64 ((totN s n).a)),(Value.map (some fm)),(Value.map (some am))])⟩,some ⟨sp,false,0,(tabF n (fun k=>u64 (s k)))⟩,some ⟨fm,false,0,(firC F)⟩]))))))))
theorem voted_runs (t sp sc fm am n:Nat) (s:Nat→UInt64) (F:Fst) (who:Int):Runs Tryz.prog 43 [(ptr t 0),(int who)] [⟨t,false,0,(.lit [(Value.slice (some ⟨sp,0,none⟩) n sc),(u64 ((totN s n).a)),(Value.map (some fm)),(Value.map (some am))])⟩,⟨fm,false,0,(firC F)⟩] 0 (fun _=>Value.tuple #[rowV ((findE eqI who F).getD (fun _=>0)),.bool (findE eqI who F).isSome]) (fun _=>[some ⟨t,false,0,(.lit [(Value.slice (some ⟨sp,0,none⟩) n sc),(u64 ((totN s n).a)),(Value.map (some fm)),(Value.map (some am))])⟩,some ⟨fm,false,0,(firC F)⟩]) :=
  runs_of_ev mix Tryz.func43 rfl rfl 400 (.regn (rg [.new,.g]) (more (fun n1=>fun _=>(.regn (rg [.g,.g,.g,(.ld 0 (.lit 2)),.g,(.oth [(1,true)] 0 0 (fun _=>(Value.tuple #[(vecV 32 (fun k=>u8 ((findE eqI who F).getD (fun _=>0) k))),(Value.bool ((findE eqI who F).isSome))])) (fun _=>[none])),.g,.g,.g,.new,(.st 3 (.lit 0)),.g]) (more (fun n2=>fun _=>(.reg (rg [(.ld 3 (.lit 0)),.g,(.st 2 (.lit 0)),.g]) .done))))))) [(2,0)] [] rfl
    (Eq.mp (by kernel_rfl) (fun(n1:Nat)=>aI kV2 (fun(n2:Nat)=>aI (sK3 (aI (aT (ad t 2)) (sk (aI (aT (srun_look (P:=Tryz.prog) mT72 fm false F who)) (sK4 (aI (aT (ad n2 0)) kV1)))))) (aI (aI (aT (ad n2 0)) (sk (aI (aT (ad n1 0)) kV1))) (aI (aI (@rfl Value (ptr n1 0)) tV) (eX (fun(ns:List Nat)=>ns.length=0∧((Value.tuple #[(vecV 32 (fun k=>u8 ((findE eqI who F).getD (fun _=>0) k))),(Value.bool ((findE eqI who F).isSome))]):Value)=(fun _=>Value.tuple #[rowV ((findE eqI who F).getD (fun _=>0)),.bool (findE eqI who F).isSome]) ns∧([some ⟨t,false,0,(.lit [(Value.slice (some ⟨sp,0,none⟩) n sc),(u64 ((totN s n).a)),(Value.map (some fm)),(Value.map (some am))])⟩,some ⟨fm,false,0,(firC F)⟩]:List (Option Blk))=(fun _=>[some ⟨t,false,0,(.lit [(Value.slice (some ⟨sp,0,none⟩) n sc),(u64 ((totN s n).a)),(Value.map (some fm)),(Value.map (some am))])⟩,some ⟨fm,false,0,(firC F)⟩]) ns) [] (aI (@rfl Nat 0) (aI (@rfl Value (Value.tuple #[rowV ((findE eqI who F).getD (fun _=>0)),.bool (findE eqI who F).isSome])) (@rfl (List (Option Blk)) [some ⟨t,false,0,(.lit [(Value.slice (some ⟨sp,0,none⟩) n sc),(u64 ((totN s n).a)),(Value.map (some fm)),(Value.map (some am))])⟩,some ⟨fm,false,0,(firC F)⟩])))))))))
end Go.Proofs.YtmdpendnbkajdaaGreatDoor
end
section
namespace Go.Proofs.YtmdpendnbkajdaaGreatDoor
open Go Go.Eng
def vz (sp n sc:Nat) (s:Nat→UInt64) (fm am:Nat):Cont:=.lit [(Value.slice (some ⟨sp,0,none⟩) n sc),(u64 ((totN s n).a)),(Value.map (some fm)),(Value.map (some am))]
theorem vote_runs (t sp sc fm am n:Nat) (s:Nat→UInt64) (F:Fst) (A:List (Int × Unit)) (who:Int) (v:Nat→UInt8) (hn:n≤40):Runs Tryz.prog 25 [(ptr t 0),(int who),(vecV 32 (fun k=>u8 (v k)))] [⟨t,false,0,(vz sp n sc s fm am)⟩,⟨sp,false,0,(tabF n (fun k=>u64 (s k)))⟩,⟨fm,true,0,(firC F)⟩,⟨am,true,0,(agaC A)⟩] 0 (fun _=>int (voteE n s F who v)) (fun _=>[some ⟨t,false,0,(vz sp n sc s fm am)⟩,some ⟨sp,false,0,(tabF n (fun k=>u64 (s k)))⟩,some ⟨fm,true,0,(firC (voteF n s F who v))⟩,some ⟨am,true,0,(agaC (voteA n s F A who v))⟩]) :=
  runs_of_ev mix Tryz.func25 rfl rfl 400 (.regn (rg [.new,.g]) (more (fun n1=>fun _=>(.reg (rg [.g,.g,.g,(.opt .g),(.opt .g),(.opt .g),(.opt .g),(.opt (.ld 0 (.lit 0))),(.opt (.as (nat n))),(.opt .g),.pk]) (.br (.reg (rg [.g]) .done) (.reg (rg [.g,.g,.g,(.ld 0 (.lit 0)),(.as (nat who.toNat)),(.as (ptr sp (0+who.toNat*1))),(.ld 1 (.tab who.toNat 0)),(.as (Value.bool ((s who.toNat) == 0)))]) (.br (.reg (rg [.g]) .done) (.regn (rg [.g,.g,(.call [(0,true),(2,true)] 0 0 (fun _=>(Value.tuple #[(vecV 32 (fun k=>u8 ((findE eqI who F).getD (fun _=>0) k))),(Value.bool ((findE eqI who F).isSome))])) (fun _=>[none,none])),.g,.g,.g,.new,(.st 5 (.lit 0)),.g]) (more (fun n2=>fun _=>(.reg (rg [.g,.g,.g]) (.br (.reg (rg [.g,.g,.g,(.ld 0 (.lit 2)),.g,(.ld 4 (.lit 0)),(.upd 2 (firC (putE eqI who v F)))]) (.reg (rg [.g]) .done)) (.reg (rg [(.ld 5 (.lit 0)),(.ld 4 (.lit 0)),(.as (Value.bool (sR ((findE eqI who F).getD (fun _=>0)) v))),.g]) (.br (.reg (rg [.g]) .done) (.reg (rg [.g,.g,.g,(.ld 0 (.lit 3)),.g,.g,(.upd 3 (agaC (putE eqI who () A)))]) (.reg (rg [.g]) .done)))))))))))))))) [] [] rfl
    (Eq.mp (by kernel_rfl) (fun(n1:Nat)=>aI kV2 (aI (sK3 (aI (fun(hg:(sB (decide ((who:Int) < 0)) false)=true)=>t2) (aI (fun(hg:(sB (decide ((who:Int) < 0)) false)=true)=>t2) (aI (fun(hg:(sB (decide ((who:Int) < 0)) false)=true)=>(aI (aI hg tV) tV)) (aI (fun(hg:(sB (decide ((who:Int) < 0)) false)=true)=>(aI (aI hg tV) tV)) (aI (fun(hg:(sB (decide ((who:Int) < 0)) false)=true)=>(aI (aI hg tV) (ad t 0))) (aI (fun(hg:(sB (decide ((who:Int) < 0)) false)=true)=>have f1:¬ ((who:Int) < 0):=(oF (sameB_f hg)); (aI (aI hg tV) (@is_len Tryz.prog 35 23 (.tmp 16) (by kernel_rfl) (some ⟨sp,0,none⟩) n sc))) (aI (fun(hg:(sB (decide ((who:Int) < 0)) false)=true)=>(aI (aI hg (aI hg tV)) tV)) (aI (aT (aI (fun(_:(decide ((who:Int) < 0))=true)=>tV) (fun(hp:(decide ((who:Int) < 0))=false)=>(sameB_mkf hp)))) tV))))))))) (aT (aI (fun(h1:(selB (decide ((who:Int) < 0)) true (decide ((who:Int) ≥ ((n:Nat):Int))))=true)=>have f1:(((who:Int) < 0))∨(((who:Int) ≥ ((n:Nat):Int))):=(Or.imp (fun h=>(oT h)) (fun h=>(oT h)) (sbor_t h1)); aI kV1 (aT (eX (fun(ns:List Nat)=>ns.length=0∧((int 1):Value)=(fun _=>int (voteE n s F who v)) ns∧([some ⟨t,false,0,(vz sp n sc s fm am)⟩,some ⟨sp,false,0,(tabF n (fun k=>u64 (s k)))⟩,some ⟨fm,true,0,(firC F)⟩,some ⟨am,true,0,(agaC A)⟩]:List (Option Blk))=(fun _=>[some ⟨t,false,0,(vz sp n sc s fm am)⟩,some ⟨sp,false,0,(tabF n (fun k=>u64 (s k)))⟩,some ⟨fm,true,0,(firC (voteF n s F who v))⟩,some ⟨am,true,0,(agaC (voteA n s F A who v))⟩]) ns) [] (aI (@rfl Nat 0) (aI ((show(int 1)=int (voteE n s F who v) from by rw [vote_1 (by omega)])) ((show([some ⟨t,false,0,(vz sp n sc s fm am)⟩,some ⟨sp,false,0,(tabF n (fun k=>u64 (s k)))⟩,some ⟨fm,true,0,(firC F)⟩,some ⟨am,true,0,(agaC A)⟩]:List (Option Blk))=[some ⟨t,false,0,(vz sp n sc s fm am)⟩,some ⟨sp,false,0,(tabF n (fun k=>u64 (s k)))⟩,some ⟨fm,true,0,(firC (voteF n s F who v))⟩,some ⟨am,true,0,(agaC (voteA n s F A who v))⟩] from by rw [(vote_res (A:=A) (vote_1 (by omega)) (by decide) (by decide)).1,(vote_res (A:=A) (vote_1 (by omega)) (by decide) (by decide)).2]))))))) (fun(h1:(selB (decide ((who:Int) < 0)) true (decide ((who:Int) ≥ ((n:Nat):Int))))=false)=>have f1:¬ ((who:Int) < 0):=(oF (sbor_l h1)); have f2:¬ ((who:Int) ≥ ((n:Nat):Int)):=(oF (sbor_r h1)); aI (sK3 (aI (aT (ad t 0)) (aI (aT (@is_move_nat Tryz.prog (.tmp 1) who who.toNat (show(who:Int)=((who.toNat:Nat):Int) from by omega))) (aI (aT (@is_ixSl Tryz.prog 35 23 (.tmp 23) (.tmp 24) 1 (by kernel_rfl) (by kernel_rfl) sp 0 n sc who.toNat (show who.toNat < n from by omega))) (aI (aT (aI (show who.toNat < n from by omega) (@rfl Value (ptr sp (0+who.toNat*1))))) (aI (aT (@is_eql64 Tryz.prog 23 23 (.tmp 26) (.const (.int .u64 0)) (s who.toNat) 0)) tV)))))) (aT (aI (fun(h2:((s who.toNat) == 0)=true)=>aI kV1 (aT (eX (fun(ns:List Nat)=>ns.length=0∧((int 51):Value)=(fun _=>int (voteE n s F who v)) ns∧([some ⟨t,false,0,(vz sp n sc s fm am)⟩,some ⟨sp,false,0,(tabF n (fun k=>u64 (s k)))⟩,some ⟨fm,true,0,(firC F)⟩,some ⟨am,true,0,(agaC A)⟩]:List (Option Blk))=(fun _=>[some ⟨t,false,0,(vz sp n sc s fm am)⟩,some ⟨sp,false,0,(tabF n (fun k=>u64 (s k)))⟩,some ⟨fm,true,0,(firC (voteF n s F who v))⟩,some ⟨am,true,0,(agaC (voteA n s F A who v))⟩]) ns) [] (aI (@rfl Nat 0) (aI ((show(int 51)=int (voteE n s F who v) from by rw [vote_51 (by omega) h2])) ((show([some ⟨t,false,0,(vz sp n sc s fm am)⟩,some ⟨sp,false,0,(tabF n (fun k=>u64 (s k)))⟩,some ⟨fm,true,0,(firC F)⟩,some ⟨am,true,0,(agaC A)⟩]:List (Option Blk))=[some ⟨t,false,0,(vz sp n sc s fm am)⟩,some ⟨sp,false,0,(tabF n (fun k=>u64 (s k)))⟩,some ⟨fm,true,0,(firC (voteF n s F who v))⟩,some ⟨am,true,0,(agaC (voteA n s F A who v))⟩] from by rw [(vote_res (A:=A) (vote_51 (by omega) h2) (by decide) (by decide)).1,(vote_res (A:=A) (vote_51 (by omega) h2) (by decide) (by decide)).2]))))))) (fun(h2:((s who.toNat) == 0)=false)=>fun(n2:Nat)=>aI (sK2 (aI (aT (Runs.dark [true,true] (voted_runs t sp sc fm am n s F who))) (sK4 (aI (aT (ad n2 0)) kV1)))) (aI kV3 (aT (aI (fun(h3:(!((findE eqI who F).isSome))=true)=>have f4:((findE eqI who F).isSome)=false:=(bnot_t h3); aI (sK3 (aI (aT (ad t 2)) (sk (aI (aT (ad n1 0)) (aI (aT (srun_upd (P:=Tryz.prog) mT72 fm F who v)) tV))))) (aI kV1 (aT (eX (fun(ns:List Nat)=>ns.length=0∧((int 0):Value)=(fun _=>int (voteE n s F who v)) ns∧([some ⟨t,false,0,(vz sp n sc s fm am)⟩,some ⟨sp,false,0,(tabF n (fun k=>u64 (s k)))⟩,some ⟨fm,true,0,(firC (putE eqI who v F))⟩,some ⟨am,true,0,(agaC A)⟩]:List (Option Blk))=(fun _=>[some ⟨t,false,0,(vz sp n sc s fm am)⟩,some ⟨sp,false,0,(tabF n (fun k=>u64 (s k)))⟩,some ⟨fm,true,0,(firC (voteF n s F who v))⟩,some ⟨am,true,0,(agaC (voteA n s F A who v))⟩]) ns) [] (aI (@rfl Nat 0) (aI ((show(int 0)=int (voteE n s F who v) from by rw [vote_0 (by omega) h2 (bnot_t h3)])) ((show([some ⟨t,false,0,(vz sp n sc s fm am)⟩,some ⟨sp,false,0,(tabF n (fun k=>u64 (s k)))⟩,some ⟨fm,true,0,(firC (putE eqI who v F))⟩,some ⟨am,true,0,(agaC A)⟩]:List (Option Blk))=[some ⟨t,false,0,(vz sp n sc s fm am)⟩,some ⟨sp,false,0,(tabF n (fun k=>u64 (s k)))⟩,some ⟨fm,true,0,(firC (voteF n s F who v))⟩,some ⟨am,true,0,(agaC (voteA n s F A who v))⟩] from by rw [(voteF_0 (A:=A) (vote_0 (by omega) h2 (bnot_t h3))).1,(voteF_0 (A:=A) (vote_0 (by omega) h2 (bnot_t h3))).2])))))))) (fun(h3:(!((findE eqI who F).isSome))=false)=>have f4:((findE eqI who F).isSome)=true:=(bnot_f h3); aI (aI (aT (ad n2 0)) (aI (aT (ad n1 0)) (aI (aT (is_eqlR (P:=Tryz.prog) (t:=48) (t':=48) (x:=(.tmp 44)) (y:=(.tmp 45)) digT digE digS digG ((findE eqI who F).getD (fun _=>0)) v)) kV1))) (aT (aI (fun(h4:(sR ((findE eqI who F).getD (fun _=>0)) v)=true)=>aI kV1 (aT (eX (fun(ns:List Nat)=>ns.length=0∧((int 13):Value)=(fun _=>int (voteE n s F who v)) ns∧([some ⟨t,false,0,(vz sp n sc s fm am)⟩,some ⟨sp,false,0,(tabF n (fun k=>u64 (s k)))⟩,some ⟨fm,true,0,(firC F)⟩,some ⟨am,true,0,(agaC A)⟩]:List (Option Blk))=(fun _=>[some ⟨t,false,0,(vz sp n sc s fm am)⟩,some ⟨sp,false,0,(tabF n (fun k=>u64 (s k)))⟩,some ⟨fm,true,0,(firC (voteF n s F who v))⟩,some ⟨am,true,0,(agaC (voteA n s F A who v))⟩]) ns) [] (aI (@rfl Nat 0) (aI ((show(int 13)=int (voteE n s F who v) from by rw [vote_13 (by omega) h2 (bnot_f h3) h4])) ((show([some ⟨t,false,0,(vz sp n sc s fm am)⟩,some ⟨sp,false,0,(tabF n (fun k=>u64 (s k)))⟩,some ⟨fm,true,0,(firC F)⟩,some ⟨am,true,0,(agaC A)⟩]:List (Option Blk))=[some ⟨t,false,0,(vz sp n sc s fm am)⟩,some ⟨sp,false,0,(tabF n (fun k=>u64 (s k)))⟩,some ⟨fm,true,0,(firC (voteF n s F who v))⟩,some ⟨am,true,0,(agaC (voteA n s F A who v))⟩] from by rw [(vote_res (A:=A) (vote_13 (by omega) h2 (bnot_f h3) h4) (by decide) (by decide)).1,(vote_res (A:=A) (vote_13 (by omega) h2 (bnot_f h3) h4) (by decide) (by decide)).2]))))))) (fun(h4:(sR ((findE eqI who F).getD (fun _=>0)) v)=false)=>aI (sK3 (aI (aT (ad t 3)) (sK2 (aI (aT (srun_upd (P:=Tryz.prog) mT73 am A who ())) tV)))) (aI kV1 (aT (eX (fun(ns:List Nat)=>ns.length=0∧((int 52):Value)=(fun _=>int (voteE n s F who v)) ns∧([some ⟨t,false,0,(vz sp n sc s fm am)⟩,some ⟨sp,false,0,(tabF n (fun k=>u64 (s k)))⟩,some ⟨fm,true,0,(firC F)⟩,some ⟨am,true,0,(agaC (putE eqI who () A))⟩]:List (Option Blk))=(fun _=>[some ⟨t,false,0,(vz sp n sc s fm am)⟩,some ⟨sp,false,0,(tabF n (fun k=>u64 (s k)))⟩,some ⟨fm,true,0,(firC (voteF n s F who v))⟩,some ⟨am,true,0,(agaC (voteA n s F A who v))⟩]) ns) [] (aI (@rfl Nat 0) (aI ((show(int 52)=int (voteE n s F who v) from by rw [vote_52 (by omega) h2 (bnot_f h3) h4])) ((show([some ⟨t,false,0,(vz sp n sc s fm am)⟩,some ⟨sp,false,0,(tabF n (fun k=>u64 (s k)))⟩,some ⟨fm,true,0,(firC F)⟩,some ⟨am,true,0,(agaC (putE eqI who () A))⟩]:List (Option Blk))=[some ⟨t,false,0,(vz sp n sc s fm am)⟩,some ⟨sp,false,0,(tabF n (fun k=>u64 (s k)))⟩,some ⟨fm,true,0,(firC (voteF n s F who v))⟩,some ⟨am,true,0,(agaC (voteA n s F A who v))⟩] from by rw [(voteA_52 (A:=A) (vote_52 (by omega) h2 (bnot_f h3) h4)).1,(voteA_52 (A:=A) (vote_52 (by omega) h2 (bnot_f h3) h4)).2])))))))))))))))))))))))
theorem vnew_good (p o n c:Nat) (f:Nat→UInt64) (hp:0 < n) (hg:goodN n f):Runs Tryz.prog 20 [(Value.slice (some ⟨p,o,none⟩) n c)] [⟨p,false,o,(tabF n (fun k=>u64 (f k)))⟩] 5 (fun(ns:List Nat)=>(Value.tuple #[(ptr (ns.getD 0 0) 0),(int 0)])) (fun(ns:List Nat)=>[some ⟨p,false,o,(tabF n (fun k=>u64 (f k)))⟩,some ⟨(ns.getD 0 0),true,0,(.lit [(Value.slice (some ⟨(ns.getD 1 0),0,none⟩) n (n+(ns.getD 2 0))),(u64 ((totN f n).a)),(Value.map (some (ns.getD 3 0))),(Value.map (some (ns.getD 4 0)))])⟩,some ⟨(ns.getD 1 0),true,0,(tabF n (fun k=>u64 (f k)))⟩,some ⟨(ns.getD 3 0),true,0,(firC ([]))⟩,some ⟨(ns.getD 4 0),true,0,(agaC ([]))⟩]) :=
  runs_of_ev mix Tryz.func20 rfl rfl 400 (.reg (rg [.g,.g]) (.reg (rg [.g,(.as (nat n)),(.as (Value.bool (decide (n < 1)))),.g,(.opt .g),(.opt (.as (nat n))),(.opt (.as (Value.bool (decide (40 < n))))),.pk]) (.no (.regn (rg [.g,(.call [(0,true)] 0 0 (fun _=>(nat4 (totN f n))) (fun _=>[none])),.new,(.st 1 (.lit 0))]) (more (fun n1=>fun _=>(.reg (rg [(.ld 1 (.lit 0)),(.call [] 0 0 (fun _=>(nat (len4 (totN f n)))) (fun _=>[])),(.as (Value.bool (decide (63 < (len4 (totN f n))))))]) (.no (.regn (rg [.g,(.call [(0,true)] 2 1 (fun ns=>Value.slice (some ⟨(ns.getD 0 0),0,none⟩) n (n+(ns.getD 1 0))) (fun ns=>[none,some ⟨(ns.getD 0 0),true,0,(tabF n (fun k=>u64 (f k)))⟩])),.g,(.ld 1 (.lit 0)),(.oth [] 1 1 (fun ns=>Value.map (some (ns.getD 0 0))) (fun ns=>[some ⟨ns.getD 0 0,true,0,firC []⟩])),(.oth [] 1 1 (fun ns=>Value.map (some (ns.getD 0 0))) (fun ns=>[some ⟨ns.getD 0 0,true,0,agaC []⟩])),.g,.new,.g,.g]) (more (fun n2=>more (fun n3=>more (fun n4=>more (fun n5=>more (fun n6=>fun _=>.done))))))))))))))) [] [5,2,3,4] rfl
    (have f1:=hg.1; Eq.mp (by kernel_rfl) (aI kV2 (aI (sk (aI (aT (@is_len Tryz.prog 35 23 (.tmp 5) (by kernel_rfl) (some ⟨p,o,none⟩) n c)) (aI (aT (@is_lssn Tryz.prog 3 3 (.tmp 6) (.const (.int .i64 1))  n 1)) (sk (aI (fun(hg:(sB (decide (n < 1)) false)=true)=>t2) (aI (fun(hg:(sB (decide (n < 1)) false)=true)=>have f2:¬ (n < 1):=(oF (sameB_f hg)); (aI (aI hg tV) (@is_len Tryz.prog 35 23 (.tmp 9) (by kernel_rfl) (some ⟨p,o,none⟩) n c))) (aI (fun(hg:(sB (decide (n < 1)) false)=true)=>(aI (aI hg tV) (@is_gtrn Tryz.prog 3 3 (.tmp 10) (.const (.int .i64 40))  n 40))) (aI (aT (aI (fun(_:(decide (n < 1))=true)=>tV) (fun(hp:(decide (n < 1))=false)=>(sameB_mkf hp)))) tV)))))))) ((fun(hp1:(selB (decide (n < 1)) true (decide (40 < n)))=false)=>have f2:¬ (n < 1):=(oF (sbor_l hp1)); have f3:¬ (40 < n):=(oF (sbor_r hp1)); aT (aI hp1 (fun(n1:Nat)=>aI (sk (aI (aT (Runs.dark [true] (total_runs p o n c f (show n≤9223372036854775807 from by omega)))) (sk (aI (aT (ad n1 0)) tV)))) (aI (aI (aT (ad n1 0)) (aI (aT (len_pure (totN f n))) (aI (aT (@is_gtrn Tryz.prog 3 3 (.tmp 16) (.const (.int .i64 63))  (len4 (totN f n)) 63)) tV))) ((fun(hp2:(decide (63 < (len4 (totN f n))))=false)=>have f4:=(oF hp2); aT (aI hp2 (fun(n2 n3 n4 n5 n6:Nat)=>aI (sk (aI (aT (Runs.dark [true] (uclone_runs p o n c f (show 0 < n∧n≤40 from by omega)))) (sk (aI (aT (ad n1 0)) (aI (aT (srun_mkm (P:=Tryz.prog) (kv:=int) (ev:=rowV) 82)) (aI (aT (srun_mkm (P:=Tryz.prog) (kv:=int) (ev:=ev0) 83)) kV4)))))) (aT (eX (fun(ns:List Nat)=>ns.length=5∧((Value.tuple #[(ptr n6 0),(int 0)]):Value)=(fun(ns:List Nat)=>(Value.tuple #[(ptr (ns.getD 0 0) 0),(int 0)])) ns∧([some ⟨p,false,o,(tabF n (fun k=>u64 (f k)))⟩,some ⟨n6,true,0,(.lit [(Value.slice (some ⟨n2,0,none⟩) n (n+n3)),(u64 ((totN f n).a)),(Value.map (some n4)),(Value.map (some n5))])⟩,some ⟨n2,true,0,(tabF n (fun k=>u64 (f k)))⟩,some ⟨n4,true,0,(firC ([]))⟩,some ⟨n5,true,0,(agaC ([]))⟩]:List (Option Blk))=(fun(ns:List Nat)=>[some ⟨p,false,o,(tabF n (fun k=>u64 (f k)))⟩,some ⟨(ns.getD 0 0),true,0,(.lit [(Value.slice (some ⟨(ns.getD 1 0),0,none⟩) n (n+(ns.getD 2 0))),(u64 ((totN f n).a)),(Value.map (some (ns.getD 3 0))),(Value.map (some (ns.getD 4 0)))])⟩,some ⟨(ns.getD 1 0),true,0,(tabF n (fun k=>u64 (f k)))⟩,some ⟨(ns.getD 3 0),true,0,(firC ([]))⟩,some ⟨(ns.getD 4 0),true,0,(agaC ([]))⟩]) ns) [n6,n2,n3,n4,n5] (aI (@rfl Nat 5) (aI (@rfl Value (Value.tuple #[(ptr n6 0),(int 0)])) (@rfl (List (Option Blk)) [some ⟨p,false,o,(tabF n (fun k=>u64 (f k)))⟩,some ⟨n6,true,0,(.lit [(Value.slice (some ⟨n2,0,none⟩) n (n+n3)),(u64 ((totN f n).a)),(Value.map (some n4)),(Value.map (some n5))])⟩,some ⟨n2,true,0,(tabF n (fun k=>u64 (f k)))⟩,some ⟨n4,true,0,(firC ([]))⟩,some ⟨n5,true,0,(agaC ([]))⟩])))))))) (show(decide (63 < (len4 (totN f n))))=false from by exact decide_eq_false (by have:=hg.2; omega))))))) (show(selB (decide (n < 1)) true (decide (40 < n)))=false from by simp only [selB_and,selB_or,Bool.or_eq_true,Bool.or_eq_false_iff,Bool.and_eq_true,Bool.and_eq_false_iff,decide_eq_true_eq,decide_eq_false_iff_not]; omega)))))
end Go.Proofs.YtmdpendnbkajdaaGreatDoor
end
