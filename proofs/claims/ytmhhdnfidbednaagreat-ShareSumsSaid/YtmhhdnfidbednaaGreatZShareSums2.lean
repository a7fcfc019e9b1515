/-
  Many in one: EngJ, EngK.
-/
import Derived.Test.YtmhhdnfidbednaaGreatZShareSums1
import Derived.RangeFuncLeaves
import Derived.RangeFuncRecord
set_option linter.unusedVariables false
set_option linter.unusedSimpArgs false
set_option maxRecDepth 100000
set_option maxHeartbeats 1000000
section
namespace Go.Eng
variable {ds:Nat}
def argEnv:List Value→Nat→List (Nat × EV)
  | [],_=>[]
  | v :: r,i=>(i,.v v) :: argEnv r (i+1)
def blkMem:List Blk→Nat→List (Nat × Option Blk)
  | [],_=>[]
  | b :: r,i=>(i,some b) :: blkMem r (i+1)
def start (args:List Value) (bs:List Blk):St:=⟨argEnv args 0,blkMem bs 0,bs.length⟩
def resVal (P:Program) (s:St):List ResultVar→List (Nat × Nat)→Option (Prop × List Value)
  | [],_=>some (True,[])
  | .tmp t :: r,hs=>match look s.env t with
    | some (.v v)=>match resVal P s r hs with
      | some (vc,vs)=>some (vc,v :: vs)
      | none=>none
    | _=>none
  | .cell x t :: r,(p,o) :: hs=>match look s.env x with
    | some (.v ad)=>match memOf s.mem p with
      | some b=>match sizeB P t with
        | some n=>match b.cont.load (.lit o) n with
          | some cs=>match aggB P t with
            | some true=>match resVal P s r hs with
              | some (vc,vs)=>some (ad = .pointer (some ⟨b.name,b.base+o,none⟩)∧vc,.agg cs.toArray :: vs)
              | none=>none
            | some false=>match cs with
              | [v]=>match resVal P s r hs with
                | some (vc,vs)=>some (ad = .pointer (some ⟨b.name,b.base+o,none⟩)∧vc,v :: vs)
                | none=>none
              | _=>none
            | none=>none
          | none=>none
        | none=>none
      | none=>none
    | _=>none
  | .cell _ _ :: _,[]=>none
def oneOf:List Value→Value
  | [v]=>v
  | vs=>.tuple vs.toArray
def outOf (s:St) (ps:List Nat):List (Option Blk):=ps.map (memOf s.mem)
def fin (P:Program) (fn:Func) (hs:List (Nat × Nat)) (ps:List Nat) (k:Nat) (v:List Nat→Value) (out:List Nat→List (Option Blk)) (nb:Nat):Exit→St→Prop:=fun e s=>match e with
  | .ret | .normal=>match resVal P s fn.results.toList hs with
    | some (vc,vs)=>vc∧∃ ns,ns.length=k∧oneOf vs=v ns∧outOf s (List.range nb ++ ps)=out ns
    | none=>False
  | _=>False
def optMem:List (Option Blk)→Nat→List (Nat × Option Blk)
  | [],_=>[]
  | b :: r,i=>(i,b) :: optMem r (i+1)
def startO (args:List Value) (bs:List (Option Blk)):St:=⟨argEnv args 0,optMem bs 0,bs.length⟩
theorem start_sat {args : List Value} {bs : List Blk} {fn : Func} {w : World} (hm : ∀ b ∈ bs, Holds b w) (ha : Apart (listMem (bs.map some))) (hn : args.length ≤ fn.ntmps) (hds : ds ≤ w.heap.size) :
    Sat ds fn.ntmps (start args bs).fs { tmps:=args.toArray ++ Array.replicate (fn.ntmps - args.toArray.size) undef,defers:=[] } w∧(start args bs).fs.mem=listMem (bs.map some):=by
  have henv:∀ (l:List Value) (i t:Nat) (e:EV),look (argEnv l i) t=some e→∃ v,e = .v v∧i≤t∧l[t - i]? = some v:=by
    intro l
    induction l with
    | nil=>intro i t e h; cases h
    | cons v r ih =>
      intro i t e h
      simp only [argEnv,look_cons] at h
      split at h
      · rename_i hit
        injection h with h
        exact⟨v,h.symm,by omega,by subst hit; simp⟩
      · obtain⟨v',h1,h2,h3⟩:=ih _ _ _ h
        refine⟨v',h1,by omega,?_⟩
        rw [show t - i=(t - (i+1))+1 by omega]
        simpa using h3
  have hmem:∀ (l:List Blk) (i p:Nat),memOf (blkMem l i) p=if i≤p then (l[p - i]?) else none:=by
    intro l
    induction l with
    | nil=>intro i p; simp [blkMem,memOf,look]
    | cons b r ih =>
      intro i p
      have:=ih (i+1) p
      simp only [memOf] at this
      simp only [blkMem,memOf,look_cons]
      by_cases hip:i=p
      · subst hip; simp
      · simp only [hip,if_false]
        rw [this]
        by_cases hle:i≤p
        · rw [if_pos hle,if_pos (by omega),show p - i=(p - (i+1))+1 by omega]; simp
        · rw [if_neg hle,if_neg (by omega)]
  have hfs:(start args bs).fs.mem=listMem (bs.map some):=by
    funext p
    show memOf (blkMem bs 0) p=_
    rw [hmem]
    simp only [Nat.zero_le,if_true,Nat.sub_zero,listMem,List.getElem?_map]
    cases bs[p]? <;> rfl
  refine⟨⟨.none hds,by simp; omega,fun t e ht=>?_,fun p b hb=>?_,by rw [hfs]; exact ha⟩,hfs⟩
  · obtain⟨v,rfl,_,hv⟩:=henv args 0 t e ht
    have hlt:t < args.length:=by
      have:=(List.getElem?_eq_some_iff.1 hv).1; omega
    rw [Nat.sub_zero] at hv
    simp only [EV.den]
    rw [Array.getElem?_append_left (by simpa using hlt)]
    simpa using hv
  · rw [hfs,listMem_some] at hb
    exact hm b (List.mem_of_getElem? hb)
theorem startO_sat {args : List Value} {bs : List (Option Blk)} {fn : Func} {w : World} (hm : ∀ p b, listMem bs p = some b → Holds b w) (ha : Apart (listMem bs)) (hn : args.length ≤ fn.ntmps) (hds : ds ≤ w.heap.size) :
    Sat ds fn.ntmps (startO args bs).fs { tmps:=args.toArray ++ Array.replicate (fn.ntmps - args.toArray.size) undef,defers:=[] } w∧(startO args bs).fs.mem=listMem bs:=by
  have henv:∀ (l:List Value) (i t:Nat) (e:EV),look (argEnv l i) t=some e→∃ v,e = .v v∧i≤t∧l[t - i]? = some v:=by
    intro l
    induction l with
    | nil=>intro i t e h; cases h
    | cons v r ih =>
      intro i t e h
      simp only [argEnv,look_cons] at h
      split at h
      · rename_i hit
        injection h with h
        exact⟨v,h.symm,by omega,by subst hit; simp⟩
      · obtain⟨v',h1,h2,h3⟩:=ih _ _ _ h
        refine⟨v',h1,by omega,?_⟩
        rw [show t - i=(t - (i+1))+1 by omega]
        simpa using h3
  have hmem:∀ (l:List (Option Blk)) (i p:Nat),memOf (optMem l i) p=if i≤p then listMem l (p - i) else none:=by
    intro l
    induction l with
    | nil=>intro i p; simp [optMem,memOf,look,listMem]
    | cons b r ih =>
      intro i p
      have:=ih (i+1) p
      simp only [memOf] at this
      simp only [optMem,memOf,look_cons]
      by_cases hip:i=p
      · subst hip; simp [listMem]
      · simp only [hip,if_false]
        rw [this]
        by_cases hle:i≤p
        · rw [if_pos hle,if_pos (by omega),show p - i=(p - (i+1))+1 by omega]; simp [listMem]
        · rw [if_neg hle,if_neg (by omega)]
  have hfs:(startO args bs).fs.mem=listMem bs:=by
    funext p
    show memOf (optMem bs 0) p=_
    rw [hmem]
    simp only [Nat.zero_le,if_true,Nat.sub_zero]
  refine⟨⟨.none hds,by simp; omega,fun t e ht=>?_,fun p b hb=>?_,by rw [hfs]; exact ha⟩,hfs⟩
  · obtain⟨v,rfl,_,hv⟩:=henv args 0 t e ht
    have hlt:t < args.length:=by
      have:=(List.getElem?_eq_some_iff.1 hv).1; omega
    rw [Nat.sub_zero] at hv
    simp only [EV.den]
    rw [Array.getElem?_append_left (by simpa using hlt)]
    simpa using hv
  · rw [hfs] at hb
    exact hm p b hb
theorem run_mapM_results {P : Program} {nt : Nat} {s : St} {a : Act} {w : World} (hs : Sat ds nt s.fs a w) : ∀ (l : List ResultVar) (hs' : List (Nat × Nat)) (vc : Prop) (vs : List Value),
    resVal P s l hs'=some (vc,vs)→vc→(l.mapM (m:=Go.Sem) fun
      | .tmp t=>pure (a.tmps.getD t undef)
      | .cell x t=>do loadVar t (← asAddr (a.tmps.getD x undef))).run P w = .ok vs w
  | [],_,vc,vs,h,_=>by
    simp only [resVal] at h
    injection h with h; injection h with h1 h2; subst h2
    simp
  | .tmp t :: r,hs',vc,vs,h,hvc=>by
    simp only [resVal] at h
    split at h
    · rename_i v hv
      split at h
      · rename_i vc' vs' hr
        injection h with h; injection h with h1 h2; subst h1; subst h2
        have ih:=run_mapM_results hs r hs' _ _ hr hvc
        have:a.tmps[t]? = some v:=hs.env t (.v v) hv
        simp only [List.mapM_cons,Sem.run_bind,Sem.run_pure,Result.andThen_ok]
        rw [ih]
        simp [this]
      · cases h
    · cases h
  | .cell x t :: r,[],vc,vs,h,hvc=>by simp only [resVal] at h; cases h
  | .cell x t :: r,(p,o) :: hs',vc,vs,h,hvc=>by
    simp only [resVal] at h
    split at h
    · rename_i ad had
      have hx:a.tmps[x]? = some ad:=hs.env x (.v ad) had
      split at h
      · rename_i b hb
        split at h
        · rename_i n hn
          split at h
          · rename_i cs hcs
            have hH:=hs.mem p b hb
            obtain⟨g1,g2⟩:=Cont.load_get hcs (by cases b.cont <;> trivial)
            split at h
            · rename_i hag
              split at h
              · rename_i vc' vs' hr
                injection h with h; injection h with h1 h2; subst h1; subst h2
                have ih:=run_mapM_results hs r hs' _ _ hr hvc.2
                have hl:=run_loadAt_agg (P:=P) (w:=w) (b:=b.name) (o:=b.base+o) hn hag g1 (fun k v hk=>by
                  have hkn:k < n:=by rw [← g1]; exact(List.getElem?_eq_some_iff.1 hk).1
                  rw [Nat.add_assoc]; exact hH.cell _ v (by have:=g2 k hkn; simp only [Cont.off] at this; rw [this,hk]))
                have hl':(loadVar t ⟨b.name,b.base+o,none⟩).run P w = .ok (.agg cs.toArray) w:=by
                  simpa [Instr.loadAt,Instr.sureAddr] using hl
                have hxa:a.tmps.getD x undef = .pointer (some ⟨b.name,b.base+o,none⟩):=by
                  simp [hx,hvc.1]
                have had':(asAddr (.pointer (some ⟨b.name,b.base+o,none⟩))).run P w = .ok ⟨b.name,b.base+o,none⟩ w:=rfl
                simp only [List.mapM_cons,Sem.run_bind,hxa,had',Result.andThen_ok,hl',ih,Sem.run_pure]
              · cases h
            · rename_i hag
              split at h
              · rename_i v
                split at h
                · rename_i vc' vs' hr
                  injection h with h; injection h with h1 h2; subst h1; subst h2
                  have ih:=run_mapM_results hs r hs' _ _ hr hvc.2
                  have hl:=run_loadAt_one (P:=P) (w:=w) (b:=b.name) (o:=b.base+o) (v:=v) hag
                    (hH.cell _ v (by have:=g2 0 (by rw [← g1]; simp); simpa [Cont.off] using this))
                  have hl':(loadVar t ⟨b.name,b.base+o,none⟩).run P w = .ok v w:=by
                    simpa [Instr.loadAt,Instr.sureAddr] using hl
                  have hxa:a.tmps.getD x undef = .pointer (some ⟨b.name,b.base+o,none⟩):=by
                    simp [hx,hvc.1]
                  have had':(asAddr (.pointer (some ⟨b.name,b.base+o,none⟩))).run P w = .ok ⟨b.name,b.base+o,none⟩ w:=rfl
                  simp only [List.mapM_cons,Sem.run_bind,hxa,had',Result.andThen_ok,hl',ih,Sem.run_pure]
                · cases h
              · cases h
            · cases h
          · cases h
        · cases h
      · cases h
    · cases h
theorem run_results {P : Program} {fn : Func} {nt : Nat} {s : St} {a : Act} {w : World} (hs : Sat ds nt s.fs a w) {hs' : List (Nat × Nat)} {vc : Prop} {vs : List Value}
    (h:resVal P s fn.results.toList hs'=some (vc,vs)) (hvc:vc):(results fn a.tmps).run P w = .ok (oneOf vs) w:=by
  have h1:=run_mapM_results hs fn.results.toList hs' vc vs h hvc
  unfold results
  rw [Array.mapM_eq_mapM_toList]
  simp only [Sem.run_bind,Sem.run_map]
  erw [h1]
  simp only [Result.andThen_ok,Sem.run_pure]
  congr 1
  match vs with
  | []=>rfl
  | [v]=>rfl
  | v :: u :: r=>simp [oneOf]
def nodupL:List Nat→Bool
  | []=>true
  | x :: r=>r.all (fun y=>!Nat.beq y x) && nodupL r
theorem nodupL_get:∀ {l:List Nat},nodupL l=true→∀ (i j p q:Nat),l[i]? = some p→l[j]? = some q→i≠j→p≠q
  | [],_,i,j,p,q,hi,_,_=>by simp at hi
  | x :: r,h,i,j,p,q,hi,hj,hij=>by
    simp only [nodupL,Bool.and_eq_true,List.all_eq_true] at h
    have key:∀ (k:Nat) (y:Nat),r[k]? = some y→y≠x:=fun k y hk=>by
      have:=h.1 y (List.mem_of_getElem? hk)
      intro e; subst e; simp at this
    cases i with
    | zero =>
      cases j with
      | zero=>exact absurd rfl hij
      | succ j=>simp at hi; subst hi; exact(key j q (by simpa using hj)).symm
    | succ i =>
      cases j with
      | zero=>simp at hj; subst hj; exact key i p (by simpa using hi)
      | succ j=>exact nodupL_get h.2 i j p q (by simpa using hi) (by simpa using hj) (by omega)
theorem outOf_get {s:St} {l:List Nat} {i:Nat} {b:Blk} (h:listMem (outOf s l) i=some b):∃ p,l[i]? = some p∧s.fs.mem p=some b:=by
  simp only [listMem,outOf,List.getElem?_map] at h
  cases hl:l[i]? with
  | none=>rw [hl] at h; simp at h
  | some p=>rw [hl] at h; simp at h; exact⟨p,rfl,h⟩
theorem Post.pop {m m':Nat→Option Blk} {w w':World} (hm:∀ p b,m p=some b→Holds b w) (h:Post m w m' w') {r:Nat} {o:Obj} (hr:w.heap.size≤r) (hno:¬ Owns m' r):Post m w m' (w'.putObj r o):=by
  refine⟨fun p b hb=>?_,h.apart,⟨h.adv.os,h.adv.output,h.adv.tape,by simp [World.putObj]; exact h.adv.size,fun q hq hn=>?_,h.adv.names,h.adv.ro⟩⟩
  · have hne : ∀ k, b.has k → k ≠ r := fun k hk e => by
      subst e
      cases ho:b.own with
      | true=>exact hno ⟨p,b,hb,ho,hk⟩
      | false=>have:=(hm p b (h.adv.ro p b hb ho)).has_lt hk; omega
    exact(h.holds p b hb).of_heap (by simp [World.putObj]) fun k hk=>World.putObj_heap_other (hne k hk)
  · rw [World.putObj_heap_other (by omega)]; exact h.adv.heap q hq hn
theorem run_take {P:Program} {w:World} {r:Nat} (h:w.heap[r]? = some (.deferred (some []))):(Instr.takeDeferred r).run P w = .ok [] (w.putObj r (.deferred none)):=by
  have e:w.heap.setIfInBounds r (.deferred none)=(w.putObj r (.deferred none)).heap:=rfl
  simp [Instr.takeDeferred,getObj,setObj,Sem.run,h,World.putObj]
theorem leave_marks {P : Program} {fn : Func} {tmps : Array Value} {R : Ending → World → Prop} {v : Value} {m m' : Nat → Option Blk} {w : World} (hm : ∀ p b, m p = some b → Holds b w)
    (hres:∀ w',(∀ p b,m' p=some b→Holds b w')→(results fn tmps).run P w' = .ok v w') (hR:∀ w',Post m w m' w'→R (.returned v) w') :
    ∀ (D:List Nat) (w':World),D.Nodup→(∀ r ∈ D,w.heap.size≤r∧w'.heap[r]? = some (.deferred (some []))∧¬ Owns m' r)→Post m w m' w' →
      LeavesInM Fence.wide 0 P fn tmps R (D.map fun r=>{ target:=.collected r,args:=#[] }) .returning w'
  | [],w',_,_,hp=>⟨v,hres w' hp.holds,hR w' hp⟩
  | r :: D,w',hd,h,hp=>by
    obtain⟨h1,h2,h3⟩:=h r (by simp)
    rw [List.nodup_cons] at hd
    refine⟨by simp,.inl ⟨r,_,rfl,run_take h2,?_⟩⟩
    refine leave_marks hm hres hR D _ hd.2 (fun r' hr'=>?_) (hp.pop hm h1 h3)
    obtain⟨k1,k2,k3⟩:=h r' (by simp [hr'])
    exact⟨k1,(World.putObj_heap_other (fun e=>hd.1 (by subst e; exact hr'))).trans k2,k3⟩
theorem fin_leaves {P : Program} {fn : Func} {k : Nat} {v : List Nat → Value} {out : List Nat → List (Option Blk)} {hs : List (Nat × Nat)} {ps : List Nat} {n0 : Nat} {bs0 : List (Option Blk)} {s s' : St} {a' : Act} {w w' : World}
    (hps1:nodupL (List.range n0 ++ ps)=true) (hps2:∀ x ∈ ps,Nat.ble n0 x=true) (hlen:bs0.length=n0) (hmem:s.fs.mem=listMem bs0) (hm:∀ p b,listMem bs0 p=some b→Holds b w)
    (hK:fin P fn hs ps k v out n0 .ret s') (hS:Sat w.heap.size fn.ntmps s'.fs a' w') (hA:Adv s.fs.mem w s'.fs.mem w') :
    LeavesInM Fence.wide 0 P fn a'.tmps (fun e w'=>∃ ns,ns.length=k∧e = .returned (v ns)∧Post (listMem bs0) w (listMem (out ns)) w') a'.defers .returning w':=by
  simp only [fin] at hK
  split at hK
  · rename_i vc vs hr
    obtain⟨hvc,ns,hns,hv,hout⟩:=hK
    rw [hmem] at hA
    have hpos:∀ i p,(List.range n0 ++ ps)[i]? = some p→i < n0∧p=i∨n0≤i∧n0≤p:=fun i p hip=>by
      by_cases hi:i < n0
      · rw [List.getElem?_append_left (by simpa using hi),List.getElem?_range hi] at hip
        injection hip with hip
        exact .inl ⟨hi,hip.symm⟩
      · rw [List.getElem?_append_right (by simp; omega)] at hip
        exact .inr ⟨by omega,Nat.le_of_ble_eq_true (hps2 p (List.mem_of_getElem? hip))⟩
    obtain⟨_,D,hD1,hD2,hD3⟩:=hS.defers
    rw [hD2]
    refine leave_marks (m:=listMem bs0) (m':=s'.fs.mem) (v:=oneOf vs) hm (fun w2 hw2=>?_) (fun w2 hp2=>?_) D w' hD1 hD3 ⟨hS.mem,hS.apart,hA⟩
    · have hS2:Sat 0 fn.ntmps s'.fs { a' with defers:=[] } w2:=⟨.none (Nat.zero_le _),hS.size,hS.env,hw2,hS.apart⟩
      exact run_results hS2 hr hvc
    · refine⟨ns,hns,by rw [hv],?_⟩
      rw [← hout]
      refine⟨fun i b hb=>?_,fun i j b d hij hb hd ho=>?_,⟨hp2.adv.os,hp2.adv.output,hp2.adv.tape,hp2.adv.size,hp2.adv.heap,fun q hq=>?_,fun i b hb ho=>?_⟩⟩
      · obtain⟨p,_,hp⟩:=outOf_get hb
        exact hp2.holds p b hp
      · obtain⟨p,hp1,hq2⟩:=outOf_get hb
        obtain⟨q,hq1,hr2⟩:=outOf_get hd
        exact hp2.apart p q b d (nodupL_get hps1 i j p q hp1 hq1 hij) hq2 hr2 ho
      · obtain⟨i,b,hb,ho,hbq⟩:=hq
        obtain⟨p,_,hp⟩:=outOf_get hb
        exact hp2.adv.names _ ⟨p,b,hp,ho,hbq⟩
      · obtain⟨p,hp1,hq2⟩:=outOf_get hb
        have hro:=hp2.adv.ro p b hq2 ho
        rcases hpos i p hp1 with ⟨_,rfl⟩ | ⟨_,h2⟩
        · exact hro
        · have:bs0[p]? = none:=List.getElem?_eq_none (by omega)
          simp [listMem,this] at hro
  · exact hK.elim
theorem runsF_of_ev {F : Blk → Prop} {P : Program} {f : FuncId} {fn : Func} {c : Code} {args : List Value} {bs : List Blk} {k : Nat} {v : List Nat → Value} {out : List Nat → List (Option Blk)}
    (hmix:P.follows .mixedOrders=true) (hf:P.funcs[f]? = some fn) (hb:fn.body=some c) (hn:Nat.ble args.length fn.ntmps=true) (n:Nat) (h:H) (hs:List (Nat × Nat)) (ps:List Nat)
    (hps:(nodupL (List.range bs.length ++ ps) && ps.all (fun p=>Nat.ble bs.length p))=true)
    (hev:evF F P fn.ntmps n false c (start args bs) h fun e s _=>fin P fn hs ps k v out bs.length e s):RunsF F P f args bs k v out:=by
  intro w hm ha hF
  obtain⟨hsat,hmem⟩:=start_sat (ds:=w.heap.size) (fn:=fn) (args:=args) hm ha (Nat.le_of_ble_eq_true hn) (Nat.le_refl _)
  simp only [Bool.and_eq_true,List.all_eq_true] at hps
  refine callsIn_wide.1 (callsIn_of_wp_marks (F:=Fence.wide) (n:=0) hf hb trivial (wpIn_wide.2 (wp_mono (evF_sound hmix n false c _ h _ _ w hev hsat (by rw [hmem]; exact hF)) ?_)) rfl)
  rintro e a' w' ⟨s',h',hK,hS,hA⟩
  have hK':fin P fn hs ps k v out bs.length .ret s':=by cases e with
    | normal=>exact hK
    | ret=>exact hK
    | _=>exact hK.elim
  have key:=fin_leaves (bs0:=bs.map some) hps.1 hps.2 (by simp) hmem (fun p b hb=>hm b (List.mem_of_getElem? (listMem_some.1 hb))) hK' hS hA
  cases e with
  | normal=>exact key
  | ret=>exact key
  | _=>exact hK.elim
theorem runsO_of_ev {F : Blk → Prop} {P : Program} {f : FuncId} {fn : Func} {c : Code} {args : List Value} {bs : List (Option Blk)} {k : Nat} {v : List Nat → Value} {out : List Nat → List (Option Blk)}
    (hmix:P.follows .mixedOrders=true) (hf:P.funcs[f]? = some fn) (hb:fn.body=some c) (hn:Nat.ble args.length fn.ntmps=true) (n:Nat) (h:H) (hs:List (Nat × Nat)) (ps:List Nat)
    (hps:(nodupL (List.range bs.length ++ ps) && ps.all (fun p=>Nat.ble bs.length p))=true)
    (hev:evF F P fn.ntmps n false c (startO args bs) h fun e s _=>fin P fn hs ps k v out bs.length e s):RunsO F P f args bs k v out:=by
  intro w hm ha hF
  obtain⟨hsat,hmem⟩:=startO_sat (ds:=w.heap.size) (fn:=fn) (args:=args) hm ha (Nat.le_of_ble_eq_true hn) (Nat.le_refl _)
  simp only [Bool.and_eq_true,List.all_eq_true] at hps
  refine callsIn_wide.1 (callsIn_of_wp_marks (F:=Fence.wide) (n:=0) hf hb trivial (wpIn_wide.2 (wp_mono (evF_sound hmix n false c _ h _ _ w hev hsat (by rw [hmem]; exact hF)) ?_)) rfl)
  rintro e a' w' ⟨s',h',hK,hS,hA⟩
  have hK':fin P fn hs ps k v out bs.length .ret s':=by cases e with
    | normal=>exact hK
    | ret=>exact hK
    | _=>exact hK.elim
  have key:=fin_leaves (bs0:=bs) hps.1 hps.2 rfl hmem hm hK' hS hA
  cases e with
  | normal=>exact key
  | ret=>exact key
  | _=>exact hK.elim
theorem runs_of_ev {P : Program} {f : FuncId} {fn : Func} {c : Code} {args : List Value} {bs : List Blk} {k : Nat} {v : List Nat → Value} {out : List Nat → List (Option Blk)}
    (hmix:P.follows .mixedOrders=true) (hf:P.funcs[f]? = some fn) (hb:fn.body=some c) (hn:Nat.ble args.length fn.ntmps=true) (n:Nat) (h:H) (hs:List (Nat × Nat)) (ps:List Nat)
    (hps:(nodupL (List.range bs.length ++ ps) && ps.all (fun p=>Nat.ble bs.length p))=true)
    (hev:ev P fn.ntmps n false c (start args bs) h fun e s _=>fin P fn hs ps k v out bs.length e s):Runs P f args bs k v out :=
  fun w hm ha=>runsF_of_ev hmix hf hb hn n h hs ps hps hev w hm ha fam_none
end Go.Eng
end
section
namespace Go.Eng
def u64 (x:UInt64):Value:=.int .u64 (x.toNat:Int)
def u8 (x:UInt8):Value:=.int .u8 (x.toNat:Int)
def u32 (x:UInt32):Value:=.int .u32 (x.toNat:Int)
def int (x:Int):Value:=.int .i64 x
def ptr (n o:Nat):Value:=.pointer (some ⟨n,o,none⟩)
theorem pureRun_bind {α β : Type} (P : Program) (s : Go.Sem α) (f : α → Go.Sem β) : pureRun P (s.bind f) = match pureRun P s with
    | some a=>pureRun P (f a)
    | none=>none:=by
  induction s with
  | pure a=>rfl
  | program k ih=>simp only [Sem.bind,pureRun]; exact ih P
  | mark m k ih=>simp only [Sem.bind,pureRun]; exact ih
  | _=>rfl
theorem isOp_bin {P : Program} {op : BinOp} {t : TypeId} {x y : Operand} {t' : TypeId} {vx vy v : Value}
    (hg:pureRun P (eqGuard op t x y vx vy)=some ()) (h:pureRun P (binOp op t vx vy)=some v):IsOp P (.binOp op t x y t') [vx,vy] v:=by
  intro ρ o ho hv
  rw [ho] at hv
  simp only [Op.operands,List.map_cons,List.map_nil,List.cons.injEq,and_true] at hv
  obtain⟨rfl,rfl⟩:=hv
  unfold execOp
  rw [ho]
  simp only
  show pureRun P (Sem.bind (Sem.bind (eqGuard op t x y (ρ x) (ρ y)) fun _=>binOp op t (ρ x) (ρ y)) fun v=>Sem.pure (Next.value v))=_
  rw [pureRun_bind,pureRun_bind,hg]
  simp only [h]
  rfl
theorem isOp_un {P:Program} {op:UnOp} {t:TypeId} {x:Operand} {vx v:Value} (h:pureRun P (Op.unary op vx)=some v):IsOp P (.unOp op t x) [vx] v:=by
  intro ρ o ho hv
  rw [ho] at hv
  simp only [Op.operands,List.map_cons,List.map_nil,List.cons.injEq,and_true] at hv
  subst hv
  unfold execOp
  rw [ho]
  simp only
  show pureRun P (Sem.bind (Op.unary op (ρ x)) fun v=>Sem.pure (Next.value v))=_
  rw [pureRun_bind,h]
  rfl
theorem isOp_conv {P:Program} {s d:TypeId} {x:Operand} {vx v:Value} (h:pureRun P (convert s d vx)=some v):IsOp P (.convert s d x) [vx] v:=by
  intro ρ o ho hv
  rw [ho] at hv
  simp only [Op.operands,List.map_cons,List.map_nil,List.cons.injEq,and_true] at hv
  subst hv
  unfold execOp
  rw [ho]
  simp only
  show pureRun P (Sem.bind (convert s d (ρ x)) fun v=>Sem.pure (Next.value v))=_
  rw [pureRun_bind,h]
  rfl
theorem guard_int {P:Program} {op:BinOp} {t:TypeId} {x y:Operand} {k k':IntKind} {a b:Int}:pureRun P (eqGuard op t x y (.int k a) (.int k' b))=some ():=by
  cases op <;> rfl
theorem wrap_u64 (n:Int):IntKind.u64.wrap n=n % 18446744073709551616:=by
  simp [IntKind.wrap,IntKind.bits,IntKind.signed]
section words
variable {P:Program} {t t':TypeId} {x y:Operand} (a b:UInt64)
theorem is_add64:IsOp P (.binOp .add t x y t') [u64 a,u64 b] (u64 (a+b)):=isOp_bin guard_int (by
  show some (Value.int .u64 (IntKind.u64.wrap ((a.toNat:Int)+b.toNat)))=_
  rw [wrap_u64,u64,UInt64.toNat_add]; congr 2)
theorem is_mul64:IsOp P (.binOp .mul t x y t') [u64 a,u64 b] (u64 (a*b)):=isOp_bin guard_int (by
  show some (Value.int .u64 (IntKind.u64.wrap ((a.toNat:Int)*b.toNat)))=_
  rw [wrap_u64,u64,UInt64.toNat_mul]; congr 2)
theorem ofInt64 (a:UInt64):BitVec.ofInt 64 (a.toNat:Int)=a.toBitVec:=by
  apply BitVec.eq_of_toNat_eq
  simp
theorem is_and64:IsOp P (.binOp .and t x y t') [u64 a,u64 b] (u64 (a &&& b)):=isOp_bin guard_int (by
  show some (Value.int .u64 (IntKind.u64.wrap (((BitVec.ofInt 64 (a.toNat:Int)) &&& (BitVec.ofInt 64 (b.toNat:Int))).toNat)))=_
  rw [wrap_u64,ofInt64,ofInt64,u64]; congr 2
  have:=(a &&& b).toNat_lt
  have h:(a.toBitVec &&& b.toBitVec).toNat=(a &&& b).toNat:=rfl
  rw [h]; omega)
theorem is_or64:IsOp P (.binOp .or t x y t') [u64 a,u64 b] (u64 (a ||| b)):=isOp_bin guard_int (by
  show some (Value.int .u64 (IntKind.u64.wrap (((BitVec.ofInt 64 (a.toNat:Int)) ||| (BitVec.ofInt 64 (b.toNat:Int))).toNat)))=_
  rw [wrap_u64,ofInt64,ofInt64,u64]; congr 2
  have:=(a ||| b).toNat_lt
  have h:(a.toBitVec ||| b.toBitVec).toNat=(a ||| b).toNat:=rfl
  rw [h]; omega)
def shl64 (a:UInt64) (n:Nat):UInt64:=.ofNat (a.toNat*2 ^ n)
def shr64 (a:UInt64) (n:Nat):UInt64:=.ofNat (a.toNat / 2 ^ n)
theorem shl64_toNat (n:Nat):(shl64 a n).toNat=a.toNat*2 ^ n % 18446744073709551616:=by
  simp [shl64,UInt64.toNat_ofNat']
theorem shr64_toNat (n:Nat):(shr64 a n).toNat=a.toNat / 2 ^ n:=by
  have h:a.toNat / 2 ^ n < 18446744073709551616:=Nat.lt_of_le_of_lt (Nat.div_le_self _ _) a.toNat_lt
  simp [shr64,UInt64.toNat_ofNat',Nat.mod_eq_of_lt h]
theorem is_shl64 (k:IntKind) (n:Nat):IsOp P (.binOp .shl t x y t') [u64 a,.int k (n:Int)] (u64 (shl64 a n)):=isOp_bin guard_int (by
  show pureRun P (Op.shift .shl .u64 (a.toNat:Int) k (n:Int))=_
  unfold Op.shift
  rw [if_neg (by omega)]
  show some (Value.int .u64 (IntKind.u64.wrap ((a.toNat:Int)*2 ^ min (n:Int).toNat 64)))=_
  rw [wrap_u64,u64,shl64_toNat]
  congr 2
  rw [Int.toNat_natCast]
  by_cases h:n≤64
  · rw [Nat.min_eq_left h]; rw [Int.natCast_emod,Int.natCast_mul,Int.natCast_pow]; rfl
  · rw [Nat.min_eq_right (by omega)]
    have e:n=64+(n - 64):=by omega
    rw [e,Nat.pow_add]
    have h1:a.toNat*(2 ^ 64*2 ^ (n - 64)) % 18446744073709551616=0:=by
      rw [Nat.mul_comm (2 ^ 64),← Nat.mul_assoc]
      exact Nat.mul_mod_left _ _
    rw [h1]
    have h2:((a.toNat:Int)*2 ^ 64) % 18446744073709551616=0:=Int.mul_emod_left _ _
    exact h2)
theorem is_shr64 (k:IntKind) (n:Nat):IsOp P (.binOp .shr t x y t') [u64 a,.int k (n:Int)] (u64 (shr64 a n)):=isOp_bin guard_int (by
  show pureRun P (Op.shift .shr .u64 (a.toNat:Int) k (n:Int))=_
  unfold Op.shift
  rw [if_neg (by omega)]
  show some (Value.int .u64 (Int.fdiv (a.toNat:Int) (2 ^ min (n:Int).toNat 64)))=_
  rw [u64,shr64_toNat]
  congr 2
  rw [Int.toNat_natCast]
  have key:∀ m:Nat,Int.fdiv (a.toNat:Int) (2 ^ m)=((a.toNat / 2 ^ m:Nat):Int):=fun m=>by
    rw [Int.fdiv_eq_ediv_of_nonneg _ (Int.pow_nonneg (by omega))]
    push_cast; rfl
  rw [key]
  congr 1
  by_cases h:n≤64
  · rw [Nat.min_eq_left h]
  · rw [Nat.min_eq_right (by omega)]
    have hlt:=a.toNat_lt
    rw [Nat.div_eq_of_lt hlt,Nat.div_eq_of_lt]
    exact Nat.lt_of_lt_of_le hlt (Nat.pow_le_pow_right (by omega) (by omega)))
theorem is_lss64:IsOp P (.binOp .lss t x y t') [u64 a,u64 b] (.bool (decide (a < b))):=isOp_bin guard_int (by
  show some (Value.bool (decide ((a.toNat:Int) < b.toNat)))=_
  congr 2; simp [UInt64.lt_iff_toNat_lt])
theorem is_gtr64:IsOp P (.binOp .gtr t x y t') [u64 a,u64 b] (.bool (decide (b < a))):=isOp_bin guard_int (by
  show some (Value.bool (decide ((a.toNat:Int) > b.toNat)))=_
  congr 2; simp [UInt64.lt_iff_toNat_lt])
theorem is_geq64:IsOp P (.binOp .geq t x y t') [u64 a,u64 b] (.bool (decide (b≤a))):=isOp_bin guard_int (by
  show some (Value.bool (decide ((a.toNat:Int) ≥ b.toNat)))=_
  congr 2; simp [UInt64.le_iff_toNat_le])
theorem int_beq64:((a.toNat:Int) == (b.toNat:Int))=(a == b):=by
  rw [Bool.eq_iff_iff,beq_iff_eq,beq_iff_eq]
  constructor
  · intro h; exact UInt64.toNat_inj.1 (by omega)
  · intro h; rw [h]
theorem is_eql64:IsOp P (.binOp .eql t x y t') [u64 a,u64 b] (.bool (a == b)):=isOp_bin guard_int (by
  show some (Value.bool ((a.toNat:Int) == (b.toNat:Int)))=_
  rw [int_beq64])
theorem is_neq64:IsOp P (.binOp .neq t x y t') [u64 a,u64 b] (.bool (!(a == b))):=isOp_bin guard_int (by
  show some (Value.bool (!((a.toNat:Int) == (b.toNat:Int))))=_
  rw [int_beq64])
end words
end Go.Eng
end
