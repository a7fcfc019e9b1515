/-
  Many in one: Chase13, ChAl.
-/
import Derived.Test.YtmdpendnbkajdaaGreatDoorZChaseAnswers19
import Derived.SizedLaws
set_option linter.unusedVariables false
set_option linter.unusedSimpArgs false
set_option maxRecDepth 100000
set_option maxHeartbeats 1000000
section
namespace Go.Eng
open Go.RowKit Go.WideShapes Go.ChangeShapes Go.ChangeAt Go.Deep
section
variable {H:Type} {enc:TypeId × Value→H} {P:Program}
theorem slice1_cellQ {α : Type} [Inhabited α] (K : α → Value) (G : α → Prop) (Q : DataW H → Prop) {W : World} {base : Nat} {sp : Nat → Bool} {held : Bool} {t e : TypeId} {v : Value} {fuel : Nat} {x : DataW H × List MemPlace} (ht : P.underlying t = some (.slice e))
    (hc:P.cellsOf e=1) (hQ:∀ elems spare,x.1 = .slice elems spare→∀ y ∈ elems,Q y) (hel:∀ n v y,DataW.trod enc P W base sp held n e [v]=some y→Q y.1→∃ a,v=K a∧G a) (hf:DataW.trod enc P W base sp held fuel t [v]=some x) :
    ∃ (wa:Option Addr) (wn wc wb wo:Nat) (f:Nat→α),v = .slice wa wn wc∧wn≤wc∧(0 < wn→wa=some ⟨wb,wo,none⟩)∧wn≤9223372036854775807∧(∀ k,k < wn→G (f k))∧(0 < wn→Holds ⟨wb,false,wo,tabF wn fun k=>K (f k)⟩ W):=by
  rcases open_slice1 ht hc hf with ⟨hcs,_⟩ | ⟨a,len,cap,m,n,V,D,Pl,hcs,_,hl,hm,hmm,hxe,hx⟩
  · simp only [List.cons.injEq,and_true] at hcs
    subst hcs
    exact⟨none,0,0,0,0,fun _=>default,rfl,Nat.le_refl _,fun h=>absurd h (Nat.lt_irrefl 0),Nat.zero_le _,fun k hk=>absurd hk (Nat.not_lt_zero k),fun h=>absurd h (Nat.lt_irrefl 0)⟩
  · simp only [List.cons.injEq,and_true] at hcs
    subst hcs
    by_cases h0:len=0
    · subst h0
      exact⟨some a,0,cap,0,0,fun _=>default,rfl,Nat.zero_le _,fun h=>absurd h (Nat.lt_irrefl 0),Nat.zero_le _,fun k hk=>absurd hk (Nat.not_lt_zero k),fun h=>absurd h (Nat.lt_irrefl 0)⟩
    have hlm:len≤m:=by rw [hmm]; split <;> omega
    have hspot:a.spot=none:=World.cell?_spot (by
      have:=(hx 0 (by omega)).1
      rwa [show a.add 0=a from by cases a; simp [Addr.add]] at this)
    obtain⟨ab,ao,spot⟩:=a
    simp only at hspot
    subst hspot
    have hV:∀ i,i < len→∃ x:α,V i=K x∧G x:=fun i hi=>by
      obtain⟨_,h2⟩:=hx i (by omega)
      exact hel _ _ _ h2 (hQ _ _ (by rw [hxe]) (D i) (List.mem_map.2 ⟨i,List.mem_range.2 hi,rfl⟩))
    obtain⟨f,hfV⟩:=choose_lt (α:=α) (p:=fun i x=>V i=K x∧G x) hV
    refine⟨some ⟨ab,ao,none⟩,len,cap,ab,ao,f,rfl,hl,fun _=>rfl,by unfold maxLen at hm; omega,fun k hk=>(hfV k hk).2,fun _=>⟨lt_of_cell (hx 0 (by omega)).1,fun o v ho=>?_,(fun h=>by cases h),obj_not rfl⟩⟩
    have ho':(tabF len fun k=>K (f k)).get o=some v:=ho
    by_cases hol:o < len
    · rw [tabF_in hol] at ho'
      injection ho' with ho'
      have:=(hx o (by omega)).1
      rw [add_none] at this
      show W.cell? ⟨ab,ao+o,none⟩=some v
      rw [this,(hfV o hol).1,ho']
    · rw [tabF_out hol] at ho'; cases ho'
theorem weights_all {e:TypeId}:∀ {l:List (DataW H)} {y:DataW H},y ∈ l→∀ n ∈ y.weights P e,n ∈ DataW.weightsAll P e l
  | [],y,h,_,_=>by cases h
  | d :: r,y,h,n,hn=>by
    simp only [DataW.weightsAll,List.mem_append]
    rcases List.mem_cons.1 h with rfl | h
    · exact .inl hn
    · exact .inr (weights_all h n hn)
theorem open_bytessW {r : Reach} {b0 : Nat} {W : World} {base : Nat} {sp : Nat → Bool} {held : Bool} {t s e : TypeId} {v : Value} {d : DataW H} {ps : List MemPlace} (ht : P.underlying t = some (.slice s)) (hs : P.underlying s = some (.slice e)) (he : P.underlying e = some (.int .u8))
    (hcs:P.cellsOf s=1) (hc:P.cellsOf e=1) (hb1:P.bytesOf e=1) (hwt:∀ n ∈ d.weights P t,n≤reachBytes) (hval:Value.okWide P W r b0 t v) (hd:DataW.Trod enc P W base sp held t v d ps) :
    ∃ q:BytS,v = .slice q.wa q.wn q.wc∧OkS q∧FamH (famS q) W∧∀ k,k < q.wn→(q.wf k).wn≤140737488355328:=by
  obtain⟨a1,len,cap,rfl⟩:=okWide_slice ht hval
  obtain⟨fuel,hf⟩:=hd
  obtain⟨wa,wn,wc,wb,wo,f,e1,e2,e3,e4,e5,e6⟩:=slice1_cellQ (α:=BytL) slqV (fun q=>(OkB q∧FamH (famB q) W)∧q.wn≤140737488355328) (fun y=>∀ n ∈ y.weights P s,n≤reachBytes) ht hcs
    (fun elems spare hx y hy n hn=>by
      have hx:d = .slice elems spare:=hx
      subst hx
      exact hwt n (by simp only [DataW.weights,ht,List.mem_cons,List.mem_append]; exact .inr (.inl (weights_all hy n hn))))
    (fun n v x hx hQ=>by
      obtain⟨q,rfl,h1,h2⟩:=bytes_cell hs he hc hx
      refine⟨q,rfl,⟨h1,h2⟩,?_⟩
      rcases open_slice1 hs hc hx with ⟨hcs,_⟩ | ⟨a,len,cap,m,n,V,D,Pl,hcs,_,hl,hm,hmm,hxe,_⟩
      · have e9 : q.wn = 0 := by
          have:=(List.cons.inj hcs).1
          unfold slqV at this
          injection this
        omega
      · have e9 : q.wn = len := by
          have:=(List.cons.inj hcs).1
          unfold slqV at this
          injection this
        have:=hQ ((len+(m - len))*P.bytesOf e) (by rw [hxe]; simp [DataW.weights,hs])
        rw [hb1,Nat.mul_one] at this
        unfold reachBytes at this
        omega) hf
  injection e1 with h1 h2 h3
  subst h1 h2 h3
  refine⟨⟨a1,len,cap,wb,wo,f⟩,rfl,⟨e2,e3,e4,fun k hk=>(e5 k hk).1.1⟩,fun b hb=>?_,fun k hk=>(e5 k hk).2⟩
  rcases hb with ⟨h0,rfl⟩ | ⟨k,hk,hb⟩
  · exact⟨e6 h0,rfl⟩
  · exact(e5 k hk).1.2 b hb
end
end Go.Eng
end
section
namespace Go.Proofs.YtmdpendnbkajdaaGreatDoor
open Go Go.Eng
theorem srunO_ldF {P : Program} {t : TypeId} {α : Type} {C : α → List Value} {zc : List Value} {sz off : Nat} (ha : aggB P t = some false) (hC : ∀ a, (C a).length = sz) (ho : off < sz) {A : Grw α} (hz : A.z = false) (i : Nat) (hi : i < A.n) {v : Value} (hv : (C (A.f i))[off]? = some v) :
    SRunsO P (ldGSem t (ptr A.nm (0+i*sz+off))) [roO (gsE C zc sz A)] 0 (fun _=>v) (fun _=>[none]):=by
  rw [gsE_own hz]
  intro w hm hap
  have hS:Holds ⟨A.nm,false,0,sprE sz (A.n+A.r) A.n (fun k=>C (A.f k)) zc⟩ w:=hm 0 _ rfl
  have hlt:i*sz+off < (A.n+A.r)*sz:=by
    have h1:(i+1)*sz≤(A.n+A.r)*sz:=Nat.mul_le_mul_right sz (by omega)
    rw [Nat.add_mul,Nat.one_mul] at h1
    omega
  have hc:=hS.cell (i*sz+off) v (by
    show(Cont.tab (A.n+A.r) sz fun k=>if k < A.n then C (A.f k) else zc).get (i*sz+off)=some v
    rw [Cont.get_tab hlt,Nat.mul_comm i sz,Nat.mul_add_div (by omega),Nat.div_eq_of_lt ho,Nat.add_zero,Nat.mul_add_mod,Nat.mod_eq_of_lt ho,if_pos hi]
    exact hv)
  refine⟨[],w,rfl,.inl ?_,?_⟩
  · have hr:=run_loadAt_one (P:=P) (t:=t) (w:=w) (b:=A.nm) (o:=0+i*sz+off) (v:=v) ha (by rw [Nat.add_assoc]; exact hc)
    show(Instr.loadAt t (Value.pointer (some { block:=A.nm,off:=0+i*sz+off })) >>= fun v=>Sem.pure (Next.value v)).run P w=_
    rw [Sem.run_bind,hr]; rfl
  · exact⟨fun p b hpb=>by rcases p with _ | p <;> simp [lM] at hpb,fun p q b c _ hpb=>by rcases p with _ | p <;> simp [lM] at hpb,(Adv.refl _ _).weak fun p b hpb=>by rcases p with _ | p <;> simp [lM] at hpb⟩
theorem is_neJi {P:Program} {t t':TypeId} {x y:Operand} (a:Int):IsOp P (.binOp .neq t x y t') [int a,int a] (.bool false):=isOp_bin guard_int (by
  show some (Value.bool (!(a == a)))=_
  rw [beq_self_eq_true]; rfl)
theorem same_A {F:Blk→Prop} (l:BytS) (f:UInt64) (hl:OkS l) (hF:∀ z,famS l z→F z) (c d i:Nat) (hi:i < anN l f l.wn):RunsO F Tryz.prog 8 [slqV (anY l f c d i),slqV (l.wf (f.toNat+i))] [roO (plN l f c d (anN l f l.wn))] 0 (fun _=>.bool true) (fun _=>[none]):=by
  have hk:f.toNat+i < l.wn:=by unfold anN at hi; omega
  have H:=same_any (F:=F) (anY l f c d i) (l.wf (f.toNat+i)) (anY_ok hl hk) (hl.el _ hk) (bs:=[roO (plN l f c d (anN l f l.wn))]) fun w hw hb=>hold_or (anY_el (by unfold anN; omega) (fun b hb0=>hb 0 b hb0) hi hl hk) fun z hz=>hw z (hF z (s_el hk z hz))
  have e:sameS (anY l f c d i).wf (anY l f c d i).wn (l.wf (f.toNat+i)).wf (l.wf (f.toNat+i)).wn=true:=same_refl rfl rfl
  rw [e] at H
  exact H
theorem ans_l {F:Blk→Prop} (l:BytS) (w:Int) (f:UInt64) (hT:∀ b,famT b→F b) (hl:OkS l) (hF:∀ z,famS l z→F z) (h30:30 < l.wn):RunsO F Tryz.prog 3 [(Value.slice l.wa l.wn l.wc),(int w),(u64 f)] [] 0 (fun _=>Value.bool true) (fun _=>[]) :=
  runsO_of_ev mix Tryz.func3 rfl rfl 400 (.reg (rg [.g]) (.reg (rg [(.callO [] 0 0 (fun _=>Value.bool true) (fun _=>[])),.g]) (.reg (rg [.g,(.as (nat l.wn)),(.as (Value.bool (decide (30 < l.wn))))]) (.yes (.reg (rg [.g,.g]) .done))))) [] [] rfl
    (have f0:l.wn≤l.wc∧l.wn≤9223372036854775807:=⟨hl.cap,hl.len⟩; Eq.mp (by kernel_rfl) (aI kV1 (aI (aI (aT (awake_F (F:=F) hT)) kV1) (aI (sk (aI (aT (@is_len Tryz.prog 22 29 (.tmp 12) (by kernel_rfl) l.wa l.wn l.wc)) (aI (aT (@is_gtrn Tryz.prog 3 3 (.tmp 13) (.const (.int .i64 30))  l.wn 30)) tV))) ((fun(hp1:(decide (30 < l.wn))=true)=>have f1:=(oT hp1); aT (aI hp1 (aI kV2 (aT (eX (fun(ns:List Nat)=>ns.length=0∧((Value.bool true):Value)=(fun _=>Value.bool true) ns∧([]:List (Option Blk))=(fun _=>[]) ns) [] (aI (@rfl Nat 0) (aI (@rfl Value (Value.bool true)) (@rfl (List (Option Blk)) [])))))))) (show(decide (30 < l.wn))=true from by exact decide_eq_true h30))))))
def ans_o_S1 (l:BytS) (w:Int) (f:UInt64) (n1:Nat) (n2:Nat) (n3:Nat) (n4:Nat) (n5:Nat) (n6:Nat) (x1:Nat):St:=⟨[(7,.v (Value.bool true)),(8,.v (gsV (gsOf (anN l f l.wn) (anC l w f n1 n2) n3 n4))),(9,.v (gsV (gsOf (anN l f l.wn) (anR l w f) n5 n6))),(10,.v (nat x1))],[(0,(gsE clmC clZ 3 (gsOf (anN l f l.wn) (anC l w f n1 n2) n3 n4))),(1,(plN l f n1 n2 (anN l f l.wn))),(2,(gsE clmC clZ 3 (gsOf (anN l f l.wn) (anR l w f) n5 n6)))],3⟩
def ans_o_R1 (l:BytS) (w:Int) (f:UInt64) (n1:Nat) (n2:Nat) (n3:Nat) (n4:Nat) (n5:Nat) (n6:Nat) (x1:Nat):Prop:=(x1≤anN l f l.wn)
def ans_o_mu1 (l:BytS) (w:Int) (f:UInt64) (n1:Nat) (n2:Nat) (n3:Nat) (n4:Nat) (n5:Nat) (n6:Nat) (x1:Nat):Nat:=anN l f l.wn - x1
theorem ans_o {F:Blk→Prop} (l:BytS) (w:Int) (f:UInt64) (hT:∀ b,famT b→F b) (hl:OkS l) (hF:∀ z,famS l z→F z) (h30:l.wn≤30) (hlen:∀ k,k < l.wn→(l.wf k).wn≤140737488355328):RunsO F Tryz.prog 3 [(Value.slice l.wa l.wn l.wc),(int w),(u64 f)] [] 0 (fun _=>Value.bool true) (fun _=>[]) :=
  runsO_of_ev mix Tryz.func3 rfl rfl 400 (.reg (rg [.g]) (.reg (rg [(.callO [] 0 0 (fun _=>Value.bool true) (fun _=>[])),.g]) (.reg (rg [.g,(.as (nat l.wn)),(.as (Value.bool (decide (30 < l.wn))))]) (.no (.regn (rg [.g,.g,.g,(.callO [] 4 2 (fun ns=>gsV (gsOf (anN l f l.wn) (anC l w f (ns.getD 0 0) (ns.getD 1 0)) (ns.getD 2 0) (ns.getD 3 0))) (fun ns=>[(gsE clmC clZ 3 (gsOf (anN l f l.wn) (anC l w f (ns.getD 0 0) (ns.getD 1 0)) (ns.getD 2 0) (ns.getD 3 0))),(plN l f (ns.getD 0 0) (ns.getD 1 0) (anN l f l.wn))])),.g]) (more (fun n1=>more (fun n2=>more (fun n3=>more (fun n4=>fun _=>(.regn (rg [.g,.g,.g,(.callO [] 2 1 (fun ns=>gsV (gsOf (anN l f l.wn) (anR l w f) (ns.getD 0 0) (ns.getD 1 0))) (fun ns=>[(gsE clmC clZ 3 (gsOf (anN l f l.wn) (anR l w f) (ns.getD 0 0) (ns.getD 1 0)))])),.g]) (more (fun n5=>more (fun n6=>fun _=>(.reg (rg [.g,(.as (nat (anN l f l.wn))),.g,(.as (nat (anN l f l.wn))),(.as (Value.bool false))]) (.no (.reg (rg [.g]) (.inv [7,8,9,10] [0,1,2] 3 (ans_o_R1 l w f n1 n2 n3 n4 n5 n6) (ans_o_S1 l w f n1 n2 n3 n4 n5 n6) (ans_o_mu1 l w f n1 n2 n3 n4 n5 n6) (0:Nat) (fun(x1:Nat)=>(.reg (rg [.g,.g,(.as (nat (anN l f l.wn))),(.as (Value.bool (decide (x1 < (anN l f l.wn)))))]) (.br (.reg (rg [.g,.g,(.as (ptr (gsOf (anN l f l.wn) (anC l w f n1 n2) n3 n4).nm (0+x1*3))),.g,(.othO [(0,true)] 0 0 (fun _=>(u64 (UInt64.ofNat (f.toNat+x1)))) (fun _=>[none])),.g,.g,(.as (ptr (gsOf (anN l f l.wn) (anR l w f) n5 n6).nm (0+x1*3))),.g,(.othO [(2,true)] 0 0 (fun _=>(u64 (UInt64.ofNat (f.toNat+x1)))) (fun _=>[none])),(.as (Value.bool false)),.g,(.run .g),(.run .g),(.run (.as (ptr (gsOf (anN l f l.wn) (anC l w f n1 n2) n3 n4).nm (0+x1*3)))),(.run .g),(.run (.othO [(0,true)] 0 0 (fun _=>(int w)) (fun _=>[none]))),(.run .g),(.run .g),(.run (.as (ptr (gsOf (anN l f l.wn) (anR l w f) n5 n6).nm (0+x1*3)))),(.run .g),(.run (.othO [(2,true)] 0 0 (fun _=>(int w)) (fun _=>[none]))),(.run (.as (Value.bool false))),.pk,.g,(.run .g),(.run .g),(.run (.as (ptr (gsOf (anN l f l.wn) (anC l w f n1 n2) n3 n4).nm (0+x1*3)))),(.run .g),(.run (.othO [(0,true)] 0 0 (fun _=>(Value.slice ((anY l f n1 n2 x1).wa) ((anY l f n1 n2 x1).wn) ((anY l f n1 n2 x1).wc))) (fun _=>[none]))),(.run .g),(.run .g),(.run (.as (ptr (gsOf (anN l f l.wn) (anR l w f) n5 n6).nm (0+x1*3)))),(.run .g),(.run (.othO [(2,true)] 0 0 (fun _=>(Value.slice ((l.wf (f.toNat+x1)).wa) ((l.wf (f.toNat+x1)).wn) ((l.wf (f.toNat+x1)).wc))) (fun _=>[none]))),(.run (.callO [(1,true)] 0 0 (fun _=>Value.bool true) (fun _=>[none]))),(.run .g),.pk]) (.no (.reg (rg [.g,(.as (nat (x1+1))),.g]) .done))) (.reg (rg [.g,.g]) .done)))))))))))))))))))))) [] [] rfl
    (have f0:l.wn≤l.wc∧l.wn≤9223372036854775807:=⟨hl.cap,hl.len⟩; have f2:anN l f l.wn≤4:=(Nat.min_le_left _ _); Eq.mp (by kernel_rfl) (aI kV1 (aI (aI (aT (awake_F (F:=F) hT)) kV1) (aI (sk (aI (aT (@is_len Tryz.prog 22 29 (.tmp 12) (by kernel_rfl) l.wa l.wn l.wc)) (aI (aT (@is_gtrn Tryz.prog 3 3 (.tmp 13) (.const (.int .i64 30))  l.wn 30)) tV))) ((fun(hp1:(decide (30 < l.wn))=false)=>have f3:=(oF hp1); aT (aI hp1 (fun(n1 n2 n3 n4:Nat)=>aI (sK3 (aI (aT (RunsO.mono hF (answer_X l w f hl h30 hlen))) kV1)) (fun(n5 n6:Nat)=>aI (sK3 (aI (aT (RunsO.mono hF (ranswer_X l w f hl h30))) kV1)) (aI (sk (aI (aT (@is_len Tryz.prog 25 31 (.tmp 24) (by kernel_rfl) (gsA (gsOf (anN l f l.wn) (anC l w f n1 n2) n3 n4)) (anN l f l.wn) (gsC (gsOf (anN l f l.wn) (anC l w f n1 n2) n3 n4)))) (sk (aI (aT (@is_len Tryz.prog 27 32 (.tmp 26) (by kernel_rfl) (gsA (gsOf (anN l f l.wn) (anR l w f) n5 n6)) (anN l f l.wn) (gsC (gsOf (anN l f l.wn) (anR l w f) n5 n6)))) (aI (aT (@is_neNN Tryz.prog 3 3 (.tmp 25) (.tmp 27) (anN l f l.wn))) tV))))) (aT (aI (@rfl Bool false) (aI kV1 (aI (show(ans_o_R1 l w f n1 n2 n3 n4 n5 n6) (0:Nat) from(show(0≤anN l f l.wn) from by exact Nat.zero_le _)) (aI (@rfl St ((ans_o_S1 l w f n1 n2 n3 n4 n5 n6) (0:Nat))) (fun(x1:Nat) (hx1:(ans_o_R1 l w f n1 n2 n3 n4 n5 n6) x1)=>have B0:x1≤anN l f l.wn:=hx1; aI (sK2 (aI (aT (@is_len Tryz.prog 25 31 (.tmp 30) (by kernel_rfl) (gsA (gsOf (anN l f l.wn) (anC l w f n1 n2) n3 n4)) (anN l f l.wn) (gsC (gsOf (anN l f l.wn) (anC l w f n1 n2) n3 n4)))) (aI (aT (@is_lssn Tryz.prog 3 3 (.tmp 29) (.tmp 31)  x1 (anN l f l.wn))) tV))) (aT (aI (fun(h2:(decide (x1 < (anN l f l.wn)))=true)=>have f5:=(oT h2); aI (sK2 (aI (aT (@is_ixG Tryz.prog 25 31 (.tmp 35) (.tmp 36) _ 3 (gsOf (anN l f l.wn) (anC l w f n1 n2) n3 n4) (by kernel_rfl) (by kernel_rfl) ((gsOf_ok _ _ _ _).pos (show 0 < anN l f l.wn from(show 0 < anN l f l.wn from by omega))) x1 (show x1 < anN l f l.wn from by omega))) (sk (aI (aT (srunO_ldF (P:=Tryz.prog) (t:=23) (sz:=3) (off:=0) (C:=clmC) (zc:=clZ) (by kernel_rfl) (fun _=>rfl) (by decide) (A:=(gsOf (anN l f l.wn) (anC l w f n1 n2) n3 n4)) ((gsOf_ok _ _ _ _).pos (show 0 < anN l f l.wn from(show 0 < anN l f l.wn from by omega))) x1 (show x1 < anN l f l.wn from by omega) (v:=(u64 (UInt64.ofNat (f.toNat+x1)))) rfl)) (sK2 (aI (aT (@is_ixG Tryz.prog 27 32 (.tmp 40) (.tmp 41) _ 3 (gsOf (anN l f l.wn) (anR l w f) n5 n6) (by kernel_rfl) (by kernel_rfl) ((gsOf_ok _ _ _ _).pos (show 0 < anN l f l.wn from(show 0 < anN l f l.wn from by omega))) x1 (show x1 < anN l f l.wn from by omega))) (sk (aI (aT (srunO_ldF (P:=Tryz.prog) (t:=23) (sz:=3) (off:=0) (C:=clmC) (zc:=clZ) (by kernel_rfl) (fun _=>rfl) (by decide) (A:=(gsOf (anN l f l.wn) (anR l w f) n5 n6)) ((gsOf_ok _ _ _ _).pos (show 0 < anN l f l.wn from(show 0 < anN l f l.wn from by omega))) x1 (show x1 < anN l f l.wn from by omega) (v:=(u64 (UInt64.ofNat (f.toNat+x1)))) rfl)) (aI (aT (@is_neT64 Tryz.prog 23 23 (.tmp 39) (.tmp 44) (UInt64.ofNat (f.toNat+x1)))) (sk (aI (aI (@rfl Bool true) t2) (aI (aI (@rfl Bool true) t2) (aI (aI (@rfl Bool true) (aT (@is_ixG Tryz.prog 25 31 (.tmp 47) (.tmp 48) _ 3 (gsOf (anN l f l.wn) (anC l w f n1 n2) n3 n4) (by kernel_rfl) (by kernel_rfl) ((gsOf_ok _ _ _ _).pos (show 0 < anN l f l.wn from(show 0 < anN l f l.wn from by omega))) x1 (show x1 < anN l f l.wn from by omega)))) (aI (aI (@rfl Bool true) t2) (aI (aI (@rfl Bool true) (aT (srunO_ldF (P:=Tryz.prog) (t:=3) (sz:=3) (off:=1) (C:=clmC) (zc:=clZ) (by kernel_rfl) (fun _=>rfl) (by decide) (A:=(gsOf (anN l f l.wn) (anC l w f n1 n2) n3 n4)) ((gsOf_ok _ _ _ _).pos (show 0 < anN l f l.wn from(show 0 < anN l f l.wn from by omega))) x1 (show x1 < anN l f l.wn from by omega) (v:=(int w)) rfl))) (aI (aI (@rfl Bool true) t2) (aI (aI (@rfl Bool true) t2) (aI (aI (@rfl Bool true) (aT (@is_ixG Tryz.prog 27 32 (.tmp 52) (.tmp 53) _ 3 (gsOf (anN l f l.wn) (anR l w f) n5 n6) (by kernel_rfl) (by kernel_rfl) ((gsOf_ok _ _ _ _).pos (show 0 < anN l f l.wn from(show 0 < anN l f l.wn from by omega))) x1 (show x1 < anN l f l.wn from by omega)))) (aI (aI (@rfl Bool true) t2) (aI (aI (@rfl Bool true) (aT (srunO_ldF (P:=Tryz.prog) (t:=3) (sz:=3) (off:=1) (C:=clmC) (zc:=clZ) (by kernel_rfl) (fun _=>rfl) (by decide) (A:=(gsOf (anN l f l.wn) (anR l w f) n5 n6)) ((gsOf_ok _ _ _ _).pos (show 0 < anN l f l.wn from(show 0 < anN l f l.wn from by omega))) x1 (show x1 < anN l f l.wn from by omega) (v:=(int w)) rfl))) (aI (aI (@rfl Bool true) (aT (@is_neJi Tryz.prog 3 3 (.tmp 51) (.tmp 56) w))) (aI (aT (aI (fun(_:false=true)=>tV) (fun(_:false=false)=>tV))) (sk (aI (aI (@rfl Bool true) t2) (aI (aI (@rfl Bool true) t2) (aI (aI (@rfl Bool true) (aT (@is_ixG Tryz.prog 25 31 (.tmp 60) (.tmp 61) _ 3 (gsOf (anN l f l.wn) (anC l w f n1 n2) n3 n4) (by kernel_rfl) (by kernel_rfl) ((gsOf_ok _ _ _ _).pos (show 0 < anN l f l.wn from(show 0 < anN l f l.wn from by omega))) x1 (show x1 < anN l f l.wn from by omega)))) (aI (aI (@rfl Bool true) t2) (aI (aI (@rfl Bool true) (aT (srunO_ldF (P:=Tryz.prog) (t:=29) (sz:=3) (off:=2) (C:=clmC) (zc:=clZ) (by kernel_rfl) (fun _=>rfl) (by decide) (A:=(gsOf (anN l f l.wn) (anC l w f n1 n2) n3 n4)) ((gsOf_ok _ _ _ _).pos (show 0 < anN l f l.wn from(show 0 < anN l f l.wn from by omega))) x1 (show x1 < anN l f l.wn from by omega) (v:=(Value.slice ((anY l f n1 n2 x1).wa) ((anY l f n1 n2 x1).wn) ((anY l f n1 n2 x1).wc))) rfl))) (aI (aI (@rfl Bool true) t2) (aI (aI (@rfl Bool true) t2) (aI (aI (@rfl Bool true) (aT (@is_ixG Tryz.prog 27 32 (.tmp 65) (.tmp 66) _ 3 (gsOf (anN l f l.wn) (anR l w f) n5 n6) (by kernel_rfl) (by kernel_rfl) ((gsOf_ok _ _ _ _).pos (show 0 < anN l f l.wn from(show 0 < anN l f l.wn from by omega))) x1 (show x1 < anN l f l.wn from by omega)))) (aI (aI (@rfl Bool true) t2) (aI (aI (@rfl Bool true) (aT (srunO_ldF (P:=Tryz.prog) (t:=29) (sz:=3) (off:=2) (C:=clmC) (zc:=clZ) (by kernel_rfl) (fun _=>rfl) (by decide) (A:=(gsOf (anN l f l.wn) (anR l w f) n5 n6)) ((gsOf_ok _ _ _ _).pos (show 0 < anN l f l.wn from(show 0 < anN l f l.wn from by omega))) x1 (show x1 < anN l f l.wn from by omega) (v:=(Value.slice ((l.wf (f.toNat+x1)).wa) ((l.wf (f.toNat+x1)).wn) ((l.wf (f.toNat+x1)).wc))) rfl))) (aI (aI (@rfl Bool true) (aT (same_A (F:=F) l f hl hF n1 n2 x1 (show x1 < anN l f l.wn from by omega)))) (aI (aI (@rfl Bool true) t2) (aI (aT (aI (fun(_:false=true)=>tV) (fun(_:false=false)=>tV))) tV)))))))))))))))))))))))))))))))))))) (aT (aI (@rfl Bool false) (aI (sk (aI (aT (@is_addn Tryz.prog 3 3 (.tmp 33) (.const (.int .i64 1))  x1 1 (show x1+1≤9223372036854775807 from by omega))) kV1)) ((rnd (ans_o_R1 l w f n1 n2 n3 n4 n5 n6) (ans_o_S1 l w f n1 n2 n3 n4 n5 n6) (ans_o_mu1 l w f n1 n2 n3 n4 n5 n6) x1 (x1+1:Nat) (show(ans_o_R1 l w f n1 n2 n3 n4 n5 n6) (x1+1:Nat)∧(ans_o_mu1 l w f n1 n2 n3 n4 n5 n6) (x1+1:Nat) < (ans_o_mu1 l w f n1 n2 n3 n4 n5 n6) x1 from(show(((x1+1)≤anN l f l.wn))∧(anN l f l.wn - (x1+1)) < (anN l f l.wn - x1) from by exact⟨by omega,by omega⟩)))))))) (fun(h2:(decide (x1 < (anN l f l.wn)))=false)=>have f5:=(oF h2); aI kV2 (aT (eX (fun(ns:List Nat)=>ns.length=0∧((Value.bool true):Value)=(fun _=>Value.bool true) ns∧([]:List (Option Blk))=(fun _=>[]) ns) [] (aI (@rfl Nat 0) (aI (@rfl Value (Value.bool true)) (@rfl (List (Option Blk)) []))))))))))))))))))) (show(decide (30 < l.wn))=false from by exact decide_eq_false (by omega)))))))
end Go.Proofs.YtmdpendnbkajdaaGreatDoor
end
