/-
  Many in one: EngR, EngS.
-/
import Derived.Test.YtmhhdnfidbednaaGreatZShareFlat5
import Derived.ArgAppend
import Derived.Laws.AppendOwn
set_option linter.unusedVariables false
set_option linter.unusedSimpArgs false
set_option maxRecDepth 100000
set_option maxHeartbeats 1000000
section
namespace Go.Eng
theorem Holds.recont {b:Blk} {w:World} (h:Holds b w) {c:Cont} (hnm:c.isMap=false) (hc:∀ o v,c.get o=some v→b.cont.get o=some v):Holds { b with cont:=c } w :=
  ⟨h.lt,fun o v ho=>h.cell o v (hc o v ho),fun hb o v ho=>h.free hb o v (hc o v ho),obj_not hnm⟩
theorem run_value {P:Program} {s:Sem Value} {v:Value} {w w':World} (h:s.run P w = .ok v w'):(s >>= fun v=>(pure (Next.value v):Sem Next)).run P w = .ok (Next.value v) w':=by
  rw [Sem.run_bind,h]; rfl
section
variable {P:Program} {t ty e:TypeId} {i:TypeInfo} {z:Value}
theorem srun_made {s : Sem Next} {cs : Array Value} {len cap : Nat} (hs : ∀ w : World, s.run P w = .ok (.value (.slice (some ⟨w.heap.size, 0, none⟩) len cap)) (w.alloc (.cells cs e))) :
    SRuns P s [] 1 (fun ns=>.slice (some ⟨ns.getD 0 0,0,none⟩) len cap) (fun ns=>[some ⟨ns.getD 0 0,true,0,.lit cs.toList⟩]):=by
  intro w hall ha
  have hp:=post_new (m:=fun _=>none) (w:=w) (fun p b h=>by cases h) (fun p q b c _ h=>by cases h) 0 cs e
  refine⟨[w.heap.size],_,rfl,.inl (hs w),?_⟩
  have e0:memApply (fun _=>none) [(0,some ⟨w.heap.size,true,0,.lit cs.toList⟩)]=listMem [some ⟨w.heap.size,true,0,.lit cs.toList⟩]:=by
    funext p; rcases p with _ | p <;> rfl
  have e1:(fun _=>none:Nat→Option Blk)=listMem (([]:List Blk).map some):=by funext p; simp [listMem]
  rw [e0,e1] at hp
  exact hp
def buildSem (t:TypeId) (len:Nat) (parts:Array (Nat × Value)):Sem Next:=do pure (.value (← Instr.buildSlice t len parts))
theorem srun_build (ht : P.underlying t = some (.slice e)) (hi : P.info? e = some i) (hz : i.zero = some z) {len : Nat} {parts : Array (Nat × Value)} {cs : Array Value}
    (h0:len*i.size≠0) (hb:len*i.size≤16777216) (hcs:bsCells z i.size len parts=some cs) :
    SRuns P (buildSem t len parts) [] 1 (fun ns=>.slice (some ⟨ns.getD 0 0,0,none⟩) len len) (fun ns=>[some ⟨ns.getD 0 0,true,0,.lit cs.toList⟩]):=srun_made (e:=e) fun w=>by
  refine run_value ?_
  have hb':¬ (16777216 < len*i.size):=by omega
  have hcs':=hcs
  unfold bsCells at hcs'
  simp [Instr.buildSlice,run_underlying ht,sizeOf,typeInfo,hi,zeroValue,hz,h0,hb',hcs',newRow]
theorem SRuns.recont {s : Sem Next} {v : List Nat → Value} {C C' : List Nat → Cont} (h : SRuns P s [] 1 v (fun ns => [some ⟨ns.getD 0 0, true, 0, C ns⟩])) (hnm : ∀ ns, (C' ns).isMap = false) (hc : ∀ ns o v, (C' ns).get o = some v → (C ns).get o = some v) (hbm : ∀ ns, (C ns).isMap = false := by intros; rfl) :
    SRuns P s [] 1 v (fun ns=>[some ⟨ns.getD 0 0,true,0,C' ns⟩]):=by
  intro w hall ha
  obtain⟨ns,w',h1,h2,hp⟩:=h w hall ha
  refine⟨ns,w',h1,h2,⟨fun p c hpc=>?_,fun p p' c d hpp hc1 hd ho=>?_,⟨hp.adv.os,hp.adv.output,hp.adv.tape,hp.adv.size,hp.adv.heap,fun j hj=>?_,fun p c hpc ho=>?_⟩⟩⟩
  · rcases p with _ | p
    · injection hpc with hpc; subst hpc; exact(hp.holds 0 _ rfl).recont (hnm ns) (hc ns)
    · simp [listMem] at hpc
  · rcases p with _ | p
    · rcases p' with _ | p'
      · exact absurd rfl hpp
      · simp [listMem] at hd
    · simp [listMem] at hc1
  · obtain⟨p,c,hpc,ho,hjk⟩:=hj
    rcases p with _ | p
    · injection hpc with hpc; subst hpc
      exact hp.adv.names _ ⟨0,_,rfl,rfl,(has_not (hbm ns)).2 ((has_not (b:=⟨ns.getD 0 0,true,0,C' ns⟩) (hnm ns)).1 hjk)⟩
    · simp [listMem] at hpc
  · rcases p with _ | p
    · injection hpc with hpc; subst hpc; cases ho
    · simp [listMem] at hpc
def makeSem (t:TypeId) (len cap:Value):Sem Next:=do pure (.value (← Instr.makeSlice t len cap))
theorem is_len {x:Operand} (ht:P.underlying t=some (.slice e)) (a:Option Addr) (n c:Nat):IsOp P (.call { callee:=.builtin .len,args:=#[x],argTypes:=#[t] }) [.slice a n c] (nat n):=by
  intro ρ o ho hv
  rw [ho] at hv
  have hv':ρ x = .slice a n c:=by simpa [Op.operands,Call.operands] using hv
  unfold execOp
  rw [ho]
  show pureRun P ((Builtin.len_ #[t] o.type (#[x].map ρ)) >>= fun v=>(pure (Next.value v):Sem Next))=_
  have e1:(#[x].map ρ:Array Value) = #[.slice a n c]:=by simp [hv']
  have e2:pureRun P (Builtin.len_ #[t] o.type #[.slice a n c])=some (nat n):=by
    show pureRun P (underlying t >>= fun d=>_)=_
    rw [pureRun_bind',pureRun_underlying ht]
    rfl
  rw [e1,pureRun_bind',e2]
  rfl
end
end Go.Eng
namespace Go.Eng
def OneC (P:Program) (e:TypeId) (z:Value) (B:Nat):Prop:=∃ i,P.info? e=some i∧i.zero=some z∧i.size=1∧i.bytes=B∧z.cells = #[z]
def oneB (P:Program) (e:TypeId):Option (Value × Nat × Nat):=match P.info? e with
  | some i=>match i.zero with
    | some z=>some (z,i.size,i.bytes)
    | none=>none
  | none=>none
theorem oneC_of {P:Program} {e:TypeId} {z:Value} {B:Nat} (h:oneB P e=some (z,1,B)) (hz:z.cells = #[z]):OneC P e z B:=by
  unfold oneB at h
  split at h
  · rename_i i hi
    split at h
    · rename_i z' hz'
      injection h with h
      injection h with h1 h2
      injection h2 with h2 h3
      subst h1
      exact⟨i,hi,hz',h2,h3,hz⟩
    · cases h
  · cases h
def catU {α:Type} (g:Nat→α) (len:Nat) (h:Nat→α):Nat→α:=fun j=>if j < len then g j else h (j - len)
section
variable {P:Program} {t ty e:TypeId}
theorem mk_build {B : Nat} {z : Value} (h1 : OneC P e z B) (len : Nat) (parts : Array (Nat × Value)) (cs : Array Value) (ht : P.underlying t = some (.slice e)) (h0 : len ≠ 0 ∧ len ≤ 16777216) (hcs : bsCells z 1 len parts = some cs) :
    SRuns P (buildSem t len parts) [] 1 (fun ns=>.slice (some ⟨ns.getD 0 0,0,none⟩) len len) (fun ns=>[some ⟨ns.getD 0 0,true,0,.lit cs.toList⟩]):=by
  obtain⟨i,hi,hz,hsz,hB,hzc⟩:=h1
  exact srun_build ht hi hz (by rw [hsz]; omega) (by rw [hsz]; omega) (by rw [hsz]; exact hcs)
end
end Go.Eng
namespace Go.Eng
def dkn:List Bool→List (Option Blk)→List (Option Blk)
  | _,[]=>[]
  | [],x :: l=>x :: l
  | true :: r,_ :: l=>none :: dkn r l
  | false :: r,x :: l=>x :: dkn r l
theorem dkn_sub:∀ (fl:List Bool) (l:List (Option Blk)) (p:Nat) (b:Blk),listMem (dkn fl l) p=some b→listMem l p=some b
  | [],[],p,b,h=>h
  | true :: _,[],p,b,h=>h
  | false :: _,[],p,b,h=>h
  | [],x :: l,p,b,h=>h
  | true :: r,x :: l,0,b,h=>by cases h
  | true :: r,x :: l,p+1,b,h=>dkn_sub r l p b h
  | false :: r,x :: l,0,b,h=>h
  | false :: r,x :: l,p+1,b,h=>dkn_sub r l p b h
theorem Post.sub {m m' m'':Nat→Option Blk} {w w':World} (h:Post m w m' w') (hs:∀ p b,m'' p=some b→m' p=some b):Post m w m'' w' :=
  ⟨fun p b hp=>h.holds p b (hs p b hp),fun p q b c hpq hb hc ho=>h.apart p q b c hpq (hs p b hb) (hs q c hc) ho,
    ⟨h.adv.os,h.adv.output,h.adv.tape,h.adv.size,h.adv.heap,fun k ⟨p,b,hp,ho,he⟩=>h.adv.names k ⟨p,b,hs p b hp,ho,he⟩,fun p b hp ho=>h.adv.ro p b (hs p b hp) ho⟩⟩
theorem Runs.dark {P : Program} {f : FuncId} {args : List Value} {bs : List Blk} {k : Nat} {v : List Nat → Value} {out : List Nat → List (Option Blk)} (fl : List Bool) (h : Runs P f args bs k v out) :
    Runs P f args bs k v (fun ns=>dkn fl (out ns)):=fun w hb ha=>Calls.mono (h w hb ha) fun _ _ ⟨ns,h1,h2,h3⟩=>⟨ns,h1,h2,h3.sub (dkn_sub fl (out ns))⟩
theorem SRuns.dark {P : Program} {s : Sem Next} {bs : List Blk} {k : Nat} {v : List Nat → Value} {out : List Nat → List (Option Blk)} (fl : List Bool) (h : SRuns P s bs k v out) :
    SRuns P s bs k v (fun ns=>dkn fl (out ns)):=fun w hb ha=>have⟨ns,w',h1,h2,h3⟩:=h w hb ha; ⟨ns,w',h1,h2,h3.sub (dkn_sub fl (out ns))⟩
end Go.Eng
end
section
namespace Go.Eng
def cf (sz:Nat) (g:Nat→List Value) (o:Nat):Value:=(g (o / sz)).getD (o % sz) undef
section
variable {sz n len o:Nat} {E g h:Nat→List Value} {zc:List Value}
theorem div_lt_row (ho:o < n*sz):o / sz < n:=Nat.div_lt_of_lt_mul (by rw [Nat.mul_comm]; exact ho)
theorem tabE_in (hsz:0 < sz) (hE:∀ k,k < n→(E k).length=sz) (ho:o < n*sz):(Cont.tab n sz E).get o=some (cf sz E o):=by
  have h2:o % sz < (E (o / sz)).length:=by rw [hE _ (div_lt_row ho)]; exact Nat.mod_lt _ hsz
  simp only [Cont.get,if_pos ho,cf]
  rw [List.getD_eq_getElem?_getD,List.getElem?_eq_getElem h2]; rfl
theorem tabE_out (ho:¬ o < n*sz):(Cont.tab n sz E).get o=none:=by
  simp only [Cont.get,if_neg ho]
end
def zeroB (P:Program) (e:TypeId):Option Value:=match P.info? e with
  | some i=>i.zero
  | none=>none
section
variable {P:Program} {t ty e:TypeId} {i:TypeInfo} {z:Value} {sz:Nat} {zc:List Value}
theorem srunE_make (ht : P.underlying t = some (.slice e)) (hi : P.info? e = some i) (hz : i.zero = some z) (hsz : i.size = sz) (hs0 : 0 < sz) (hzc : z.cells.toList = zc) (hzl : zc.length = sz) {n : Nat} (hb : (i.bytes : Int) * n ≤ 281474976710656) (hb2 : n ≤ 9223372036854775807) :
    SRuns P (makeSem t (nat n) (nat n)) [] 1 (fun ns=>.slice (some ⟨ns.getD 0 0,0,none⟩) n n) (fun ns=>[some ⟨ns.getD 0 0,true,0,.tab n sz fun _=>zc⟩]):=by
  refine(srun_made (P:=P) (e:=e) (s:=makeSem t (nat n) (nat n)) (cs:=madeCells z.cells (n*i.size)) (len:=n) (cap:=n) fun w=>?_).recont (fun _=>rfl) fun ns o v ho=>?_
  · refine run_value ?_
    have:=run_make (P:=P) w t e i z ht hi hz .i64 .i64 (n:Int) (n:Int) (by omega) (by omega) hb (by omega)
    simpa [nat] using this
  · subst hzc
    by_cases hon:o < n*sz
    · rw [tabE_in hs0 (fun _ _=>hzl) hon] at ho
      have hz':z.cells.size=sz:=by simpa using hzl
      have hm:o % sz < z.cells.size:=by rw [hz']; exact Nat.mod_lt _ hs0
      rw [← ho]
      simp [Cont.get,madeCells,hsz,hon,cf,hz',hz' ▸ hm]
    · rw [tabE_out hon] at ho; cases ho
end
def AggC (P:Program) (e:TypeId) (zc:List Value) (sz B:Nat):Prop:=∃ i z,P.info? e=some i∧i.zero=some z∧i.size=sz∧i.bytes=B∧z.cells.toList=zc∧zc.length=sz∧0 < sz
theorem aggC_of {P:Program} {e:TypeId} {z:Value} {zc:List Value} {sz B:Nat} (h:oneB P e=some (z,sz,B)) (hz:z.cells.toList=zc) (hl:zc.length=sz) (h0:0 < sz):AggC P e zc sz B:=by
  unfold oneB at h
  split at h
  · rename_i i hi
    split at h
    · rename_i z' hz'
      injection h with h
      injection h with h1 h2
      injection h2 with h2 h3
      subst h1
      exact⟨i,z',hi,hz',h2,h3,hz,hl,h0⟩
    · cases h
  · cases h
section
variable {P:Program} {t ty e:TypeId}
theorem mkE_make {sz B : Nat} {zc : List Value} (ht : P.underlying t = some (.slice e)) (h1 : AggC P e zc sz B) (n : Nat) (hb : (B : Int) * (n : Int) ≤ 281474976710656 ∧ n ≤ 9223372036854775807) :
    SRuns P (makeSem t (nat n) (nat n)) [] 1 (fun ns=>.slice (some ⟨ns.getD 0 0,0,none⟩) n n) (fun ns=>[some ⟨ns.getD 0 0,true,0,.tab n sz fun _=>zc⟩]):=by
  obtain⟨i,z,hi,hz,hsz,hB,hzc,hzl,hs0⟩:=h1
  subst hB
  exact srunE_make ht hi hz hsz hs0 hzc hzl hb.1 hb.2
theorem mkE_build {sz B : Nat} {zc : List Value} {z : Value} (h1 : AggC P e zc sz B) (hz0 : zeroB P e = some z) (len : Nat) (parts : Array (Nat × Value)) (cs : Array Value) (ht : P.underlying t = some (.slice e)) (h0 : len * sz ≠ 0 ∧ len * sz ≤ 16777216) (hcs : bsCells z sz len parts = some cs) :
    SRuns P (buildSem t len parts) [] 1 (fun ns=>.slice (some ⟨ns.getD 0 0,0,none⟩) len len) (fun ns=>[some ⟨ns.getD 0 0,true,0,.lit cs.toList⟩]):=by
  obtain⟨i,z',hi,hz,hsz,hB,hzc,hzl,hs0⟩:=h1
  have hzz:z'=z:=by simpa [zeroB,hi,hz] using hz0
  subst hzz
  exact srun_build ht hi hz (by rw [hsz]; exact h0.1) (by rw [hsz]; exact h0.2) (by rw [hsz]; exact hcs)
end
end Go.Eng
end
