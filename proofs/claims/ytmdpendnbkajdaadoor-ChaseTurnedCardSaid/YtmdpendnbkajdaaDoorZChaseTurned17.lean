/-
  Many in one: Jou, Jou2, Jou3, Pool, Pool2, Jou4, Jou5, Jou6, Jou7, Jou8, Jou9, Pool3, Pool4, Pool5, Pool6, Pool7, Pool10, Pool11, Pool12, Pool13, Pool14, PoFn, PoTw, PoRd, PoUn, CodQ, Pool15, Pool8, Pool9, Pool16, Pool17, DoRd, Pool20, DoUn, DoPk.
-/
import Derived.Test.YtmdpendnbkajdaaDoorZChaseTurned16
import Derived.ChangeArms
import Derived.Laws.BytesString
set_option linter.unusedVariables false
set_option linter.unusedSimpArgs false
set_option maxRecDepth 100000
set_option maxHeartbeats 1000000
section
namespace Go.Eng
open Go.RowKit Go.WideShapes Go.ChangeShapes Go.ChangeAt Go.Deep
def strOf (f:Nat→UInt8) (n:Nat):ByteArray:=⟨((List.range n).map f).toArray⟩
theorem push_fold (f:Nat→UInt8):∀ (l:List Nat) (s:ByteArray),(l.map fun k=>((f k).toNat:Int)).foldl (fun r n=>r.push (UInt8.ofNat n.toNat)) s=⟨s.data ++ (l.map f).toArray⟩
  | [],s=>by simp
  | k :: l,s=>by
    simp only [List.map_cons,List.foldl_cons]
    rw [push_fold f l]
    simp [ByteArray.push]
theorem srunF_toStr {P : Program} {src dst e : TypeId} (hs : P.underlying src = some (.slice e)) (he : P.underlying e = some (.int .u8)) (hd : P.underlying dst = some .string) (q : BytL) (hq : OkB q) :
    SRunsF (famB q) P (convSem src dst (slqV q)) [] 0 (fun _=>.string (strOf q.wf q.wn)) (fun _=>[]):=by
  intro w hall ha hF
  refine⟨[],w,rfl,.inl ?_,Post.refl (fun p b h=>by simp [lM] at h) ha⟩
  have key:(Conv.bytesToString (slqV q)).run P w = .ok (.string (strOf q.wf q.wn)) w:=by
    rcases Nat.eq_zero_or_pos q.wn with h0 | h0
    · unfold slqV
      rw [h0]
      cases q.wa with
      | none=>rfl
      | some a =>
        have:=run_bytesToString (P:=P) w a 0 q.wc [] (by
          have:=run_loadCells (P:=P) (w:=w) a 0 (fun _=>undef) (fun j hj=>by omega)
          simpa using this)
        rw [this]; rfl
    · have h1:=(hF (bytB q) ⟨h0,rfl⟩).1
      unfold slqV
      rw [hq.ad h0]
      have h2:=run_loadCells (P:=P) (w:=w) ⟨q.wb,q.wo,none⟩ q.wn (fun k=>u8 (q.wf k)) (fun j hj=>by
        have:=h1.cell j (u8 (q.wf j)) (tabF_in hj)
        rw [add_none]; exact this)
      have h3:=run_bytesToString (P:=P) w ⟨q.wb,q.wo,none⟩ q.wn q.wc ((List.range q.wn).map fun k=>((q.wf k).toNat:Int)) (by
        rw [h2]; congr 2; rw [List.map_map]; rfl)
      rw [h3]
      congr 2
      rw [push_fold]
      unfold strOf
      congr 1
      exact Array.empty_append
  show((convert src dst (slqV q)).bind fun v=>Sem.pure (Next.value v)).run P w=_
  have e1:=run_convert_bytes_string (P:=P) w src dst e q.wa q.wn q.wc hs he hd
  show(convert src dst (slqV q) >>= fun v=>Sem.pure (Next.value v)).run P w=_
  rw [Sem.run_bind,show(convert src dst (slqV q)).run P w=_ from e1,show(Conv.bytesToString (.slice q.wa q.wn q.wc)).run P w=_ from key]
  rfl
theorem SRunsF.mono {F F':Blk→Prop} {P:Program} {s:Sem Next} {bs:List Blk} {k:Nat} {v:List Nat→Value} {out:List Nat→List (Option Blk)} (hs:∀ b,F b→F' b) (h:SRunsF F P s bs k v out):SRunsF F' P s bs k v out :=
  fun w hb ha hF=>h w hb ha fun b hb'=>hF b (hs b hb')
def NmF (F F':Blk→Prop):Prop:=∀ z,F z→∃ y,F' y∧∀ j,z.has j→y.has j
theorem nm_sub {F F':Blk→Prop} (h:∀ z,F z→F' z):NmF F F':=fun z hz=>⟨z,h z hz,fun _ h=>h⟩
theorem nm_or {F G F':Blk→Prop} (h1:NmF F F') (h2:NmF G F'):NmF (fun b=>F b∨G b) F':=fun z hz=>hz.elim (h1 z) (h2 z)
def SubH (F F':Blk→Prop):Prop:=∀ w:World,FamH F' w→FamH F w
theorem sh_sub {F F':Blk→Prop} (h:∀ z,F z→F' z):SubH F F':=fun w hF z hz=>hF z (h z hz)
theorem sh_or {F G F':Blk→Prop} (h1:SubH F F') (h2:SubH G F'):SubH (fun b=>F b∨G b) F':=fun w hF=>hold_or (h1 w hF) (h2 w hF)
theorem RunsO.pad1 {F : Blk → Prop} {P : Program} {f : FuncId} {args : List Value} {bs : List (Option Blk)} {v v2 : List Nat → Value} {out out2 : List Nat → List (Option Blk)} (h : RunsO F P f args bs 1 v out) (hv : ∀ a, v2 [a, 0] = v [a]) (ho : ∀ a, out2 [a, 0] = out [a]) :
    RunsO F P f args bs 2 v2 out2:=fun w hm ha hF=>(h w hm ha hF).mono fun e w' ⟨ns,hns,he,hp⟩=>by
  match ns,hns with
  | [a],_=>exact⟨[a,0],rfl,by rw [hv]; exact he,by rw [ho]; exact hp⟩
theorem RunsO.pad0 {F : Blk → Prop} {P : Program} {f : FuncId} {args : List Value} {bs : List (Option Blk)} {k : Nat} {v v2 : List Nat → Value} {out out2 : List Nat → List (Option Blk)} (h : RunsO F P f args bs 0 v out) (ns0 : List Nat) (hk : ns0.length = k) (hv : v2 ns0 = v []) (ho : ∀ p b, lM (out2 ns0) p = some b → lM (out []) p = some b) :
    RunsO F P f args bs k v2 out2:=fun w hm ha hF=>(h w hm ha hF).mono fun e w' ⟨ns,hns,he,hp⟩=>by
  match ns,hns with
  | [],_=>exact⟨ns0,hk,by rw [hv]; exact he,hp.sub ho⟩
def clG (q:BytL) (a r:Nat):Grw UInt8:=⟨q.wa.isNone,a,q.wn,r,q.wf⟩
def strE (s u:ByteArray):Bool:=s.toList == u.toList
theorem is_eqlStr {P:Program} {t t':TypeId} {x y:Operand} (s u:ByteArray):IsOp P (.binOp .eql t x y t') [.string s,.string u] (.bool (strE s u)):=isOp_bin rfl rfl
theorem strOf_list (f:Nat→UInt8) (n:Nat):(strOf f n).toList=(List.range n).map f:=by
  rw [ByteArray.toList_eq]; simp [strOf]
theorem strE_of (f g:Nat→UInt8) (n m:Nat):strE (strOf f n) (strOf g m)=sameS f n g m:=by
  unfold strE
  rw [strOf_list,strOf_list,Bool.eq_iff_iff,beq_iff_eq]
  constructor
  · intro h
    have hl:n=m:=by have:=congrArg List.length h; simpa using this
    subst hl
    refine decide_eq_true ⟨rfl,fun k hk=>?_⟩
    have h1:=congrArg (fun l=>l[k]?) h
    simp only [List.getElem?_map,List.getElem?_range hk,Option.map_some] at h1
    exact Option.some.inj h1
  · intro h
    obtain⟨rfl,hk⟩:=of_decide_eq_true h
    exact List.map_congr_left fun k hk'=>hk k (List.mem_range.1 hk')
def siz4 (n:Nat):Nat→UInt8
  | 0=>UInt8.ofNat (n / 16777216)
  | 1=>UInt8.ofNat (n / 65536)
  | 2=>UInt8.ofNat (n / 256)
  | _=>UInt8.ofNat n
def dig4 (n:Nat) (f:Nat→UInt8):Nat→UInt8:=digOf (catU (siz4 n) 4 f) (4+n)
def frF (n:Nat) (f:Nat→UInt8):Nat→UInt8:=catU (catU (siz4 n) 4 (dig4 n f)) 8 f
section
variable {q:BytL}
end
end Go.Eng
end
section
namespace Go.Eng
open Go.RowKit Go.WideShapes Go.ChangeShapes Go.ChangeAt Go.Deep
def tzP:Nat→Nat→Nat
  | 0,_=>0
  | k+1,n=>if n % 2=0 then tzP k (n / 2)+1 else 0
theorem tzP_pair (y:Nat):∀ (x fuel:Nat),x < fuel→tzP fuel (2 ^ x*(2*y+1))=x
  | 0,fuel+1,_=>by
    unfold tzP; rw [if_neg (by omega)]
  | x+1,fuel+1,h=>by
    have e:2 ^ (x+1)*(2*y+1)=2*(2 ^ x*(2*y+1)):=by rw [Nat.pow_succ,Nat.mul_comm (2 ^ x) 2,Nat.mul_assoc]
    unfold tzP
    rw [e,if_pos (by omega),Nat.mul_div_cancel_left _ (by omega),tzP_pair y x fuel (by omega)]
def un1 (n:Nat):Nat:=tzP n n
def un2 (n:Nat):Nat:=n / 2 ^ un1 n / 2
theorem un1_pair (x y:Nat):un1 (2 ^ x*(2*y+1))=x:=by
  refine tzP_pair y x _ ?_
  have h1:=Nat.lt_two_pow_self (n:=x)
  have h2:2 ^ x*1≤2 ^ x*(2*y+1):=Nat.mul_le_mul_left _ (by omega)
  omega
theorem un2_pair (x y:Nat):un2 (2 ^ x*(2*y+1))=y:=by
  unfold un2
  rw [un1_pair,Nat.mul_div_cancel_left _ (Nat.two_pow_pos x)]
  omega
def decL:Nat→Nat→Nat
  | c,0=>un1 c
  | c,i+1=>decL (un2 c) i
def codL:Nat→(Nat→Nat)→Nat
  | 0,_=>0
  | n+1,f=>2 ^ f 0*(2*codL n (fun i=>f (i+1))+1)
theorem decL_codL:∀ (n:Nat) (f:Nat→Nat) (i:Nat),i < n→decL (codL n f) i=f i
  | n+1,f,0,_=>un1_pair _ _
  | n+1,f,i+1,h=>by
    show decL (un2 (2 ^ f 0*(2*codL n (fun i=>f (i+1))+1))) i=_
    rw [un2_pair,decL_codL n _ i (by omega)]
def pcod (c k x:Nat):Nat:=codL (k+1) fun i=>if i < k then decL c i else x
theorem pcod_old {c k x i:Nat} (h:i < k):decL (pcod c k x) i=decL c i:=by
  unfold pcod; rw [decL_codL _ _ _ (by omega),if_pos h]
theorem pcod_new (c k x:Nat):decL (pcod c k x) k=x:=by
  unfold pcod; rw [decL_codL _ _ _ (by omega),if_neg (by omega)]
def slqC (q:BytL):List Value:=[slqV q]
theorem slqC_ok (q:BytL):(slqC q).length=1∧(slqC q).all Value.oneCell'=true:=⟨rfl,rfl⟩
section
variable {L:Nat→Nat} {f:Nat→Nat→UInt8}
def elF (c d:Nat) (L:Nat→Nat) (f:Nat→Nat→UInt8) (k:Nat):BytL:=bytO (decL c k) (L k) (L k+decL d k) (f k)
def sprP (n r:Nat) (g:Nat→UInt8):Piece:=.row (n+r) 1 fun k=>[if k < n then u8 (g k) else u8 0]
def plG (c d:Nat) (L:Nat→Nat) (f:Nat→Nat→UInt8) (k:Nat):Option (Nat × Piece):=some (decL c k,sprP (L k) (decL d k) (f k))
def plO (n c d:Nat) (L:Nat→Nat) (f:Nat→Nat→UInt8):Option Blk:=match n with
  | 0=>none
  | m+1=>some ⟨decL c m,true,0,.pile (m+1) (plG c d L f)⟩
theorem plO_succ (n c d:Nat):plO (n+1) c d L f=some ⟨decL c n,true,0,.pile (n+1) (plG c d L f)⟩:=rfl
theorem pack_push {k c d n1 n2 : Nat} {x : BytL} (hL : x.wn = L k) (hf : x.wf = f k) :
    PackOk (plO k c d L f) ⟨n1,true,0,spr (x.wn+n2) x.wn (fun j=>u8 (x.wf j)) (u8 0)⟩ (k+1) (plG (pcod c k n1) (pcod d k n2) L f):=by
  refine⟨k,fun i j pc hi hg=>?_⟩
  injection hg with hg
  injection hg with h1 h2
  by_cases hik:i < k
  · left
    cases k with
    | zero=>omega
    | succ m =>
      refine⟨_,_,_,plO_succ m c d,rfl,rfl,hik,?_⟩
      rw [← h1,← h2,pcod_old hik,pcod_old hik]; rfl
  · right
    have:i=k:=by omega
    subst this
    refine⟨rfl,by rw [← h1,pcod_new],.inl ?_⟩
    rw [← h2,pcod_new,hL,hf]
    rfl
theorem gs_tellC {α : Type} {C : α → List Value} {zc : List Value} {sz : Nat} {A : Grw α} {S : Nat} {F : Nat → α} (h1 : A.n = S) (h2 : A.z = decide (S = 0)) (h3 : ∀ j, j < S → C (A.f j) = C (F j)) :
    gsV A=gsV (gsOf S F A.nm A.r)∧gsE C zc sz A=gsE C zc sz (gsOf S F A.nm A.r):=by
  subst h1
  refine⟨?_,?_⟩
  · unfold gsV gsA gsC gsOf
    simp only [h2]
  · unfold gsE gsOf
    rw [h2]
    cases hd:decide (A.n=0) with
    | true=>rfl
    | false =>
      simp only
      congr 2
      unfold sprE
      congr 1
      funext k
      by_cases h:k < A.n
      · rw [if_pos h,if_pos h]; exact h3 k h
      · rw [if_neg h,if_neg h]
def qOf:Value→BytL
  | .slice a n c=>⟨a,n,c,0,0,fun _=>0⟩
  | _=>bytZ none 0
theorem list_push {k c d n1 n2 : Nat} {x : BytL} (hL : x.wn = L k) (hf : x.wf = f k) {A : Grw BytL} (hz : A.z = false) (hn : A.n = k + 1) (hA : A.f = catU (elF c d L f) k fun _ => qOf (.slice (some ⟨n1, 0, none⟩) x.wn (x.wn + n2))) :
    gsV A=gsV (gsOf (k+1) (elF (pcod c k n1) (pcod d k n2) L f) A.nm A.r)∧gsE slqC [Value.slice none 0 0] 1 A=gsE slqC [Value.slice none 0 0] 1 (gsOf (k+1) (elF (pcod c k n1) (pcod d k n2) L f) A.nm A.r) :=
  gs_tellC hn (by rw [hz,decide_eq_false (by omega)]) fun j hj=>by
    rw [hA]
    unfold catU
    by_cases h:j < k
    · rw [if_pos h]; unfold elF; rw [pcod_old h,pcod_old h]
    · have:j=k:=by omega
      subst this
      rw [if_neg h]; unfold elF; rw [pcod_new,pcod_new,← hL]
      rfl
end
end Go.Eng
end
section
namespace Go.Eng
open Go.RowKit Go.WideShapes Go.ChangeShapes Go.ChangeAt Go.Deep
section
variable {q:BytL} {A:Option Addr} {m C a:Nat}
end
section
variable {q:BytL} {A:Option Addr} {m C a k:Nat}
end
theorem spr_srcJ {n r:Nat} {f:Nat→Value} {z:Value}:∀ j,j < n→(spr (n+r) n f z).get (0+j)=some (f j):=fun j hj=>by
  rw [Nat.zero_add,spr,tabF_in (by omega),if_pos hj]
def four (a b c d:UInt8):Nat→UInt8
  | 0=>a
  | 1=>b
  | 2=>c
  | _=>d
def famSS (a b:BytS) (z:Blk):Prop:=famS a z∨famS b z
theorem ss_el {a b:BytS} {i j:Nat} (hi:i < a.wn) (hj:j < b.wn):∀ z,famBB (a.wf i) (b.wf j) z→famSS a b z:=fun z hz=>hz.elim (fun h=>.inl (.inr ⟨i,hi,h⟩)) (fun h=>.inr (.inr ⟨j,hj,h⟩))
def elS (a b:BytS) (i:Nat):Bool:=sameS (a.wf i).wf (a.wf i).wn (b.wf i).wf (b.wf i).wn
def listsB (a b:BytS):Bool:=decide (a.wn=b.wn∧∀ i,i < a.wn→elS a b i=true)
theorem lists_len {a b:BytS} (h:a.wn≠b.wn):false=listsB a b:=(decide_eq_false fun e=>h e.1).symm
theorem lists_not {a b:BytS} {i:Nat} (hi:i < a.wn) (h:(!elS a b i)=true):false=listsB a b:=(decide_eq_false fun e=>by have:=e.2 i hi; rw [this] at h; cases h).symm
theorem lists_yes {a b:BytS} {i:Nat} (hn:a.wn=b.wn) (hi:i=a.wn) (h:∀ k,k < i→elS a b k=true):true=listsB a b:=(decide_eq_true ⟨hn,fun k hk=>h k (by omega)⟩).symm
theorem lists_next {a b:BytS} {i:Nat} (h:∀ k,k < i→elS a b k=true) (he:(!elS a b i)=false):∀ k,k < i+1→elS a b k=true:=fun k hk=>by
  by_cases hki:k < i
  · exact h k hki
  · have:k=i:=by omega
    subst this; simpa using he
section
variable {q:BytL} {a k:Nat}
end
end Go.Eng
end
section
namespace Go.Eng
open Go.WideShapes Go.ChangeShapes Go.ChangeAt
section
variable {P:Program} {mt kt et:TypeId} {β:Type} {ev:β→Value} {z:β}
def strK (s u:ByteArray):Bool:=s.data == u.data
end
section
variable {α β:Type} {P:Program} {mt kt et:TypeId} {kv:α→Value} {ev:β→Value} {z:β} {eqb:α→α→Bool}
end
def hasP (l:List (ByteArray × Unit)) (k:ByteArray):Bool:=(findE strK k l).isSome
structure MpR where
  z:Bool
  m:Nat
  l:List (ByteArray × Unit)
def MpR.ok (Y:MpR):Prop:=Y.z=true→Y.l=[]
end Go.Eng
end
section
namespace Go.Eng
def anyK (p:Nat→Bool) (n:Nat):Bool:=(List.range n).any p
def idxF (p:Nat→Bool) (n:Nat):Int:=match (List.range n).find? p with
  | some k=>(k:Int)
  | none=>-1
theorem anyK_iff {p:Nat→Bool} {n:Nat}:anyK p n=true ↔ ∃ k,k < n∧p k=true:=by
  unfold anyK; rw [List.any_eq_true]
  exact⟨fun⟨k,h1,h2⟩=>⟨k,List.mem_range.1 h1,h2⟩,fun⟨k,h1,h2⟩=>⟨k,List.mem_range.2 h1,h2⟩⟩
theorem anyK_false {p:Nat→Bool} {n:Nat} (h:∀ k,k < n→p k=false):anyK p n=false:=by
  cases e:anyK p n with
  | false=>rfl
  | true=>obtain⟨k,h1,h2⟩:=anyK_iff.1 e; rw [h k h1] at h2; cases h2
theorem anyK_not {p:Nat→Bool} {n:Nat} (h:anyK p n=false):∀ k,k < n→p k=false:=fun k hk=>by
  cases e:p k with
  | false=>rfl
  | true=>rw [anyK_iff.2 ⟨k,hk,e⟩] at h; cases h
theorem anyK_congr {p q:Nat→Bool} {n:Nat} (h:∀ k,k < n→p k=q k):anyK p n=anyK q n:=by
  rw [Bool.eq_iff_iff,anyK_iff,anyK_iff]
  exact⟨fun⟨k,h1,h2⟩=>⟨k,h1,by rw [← h k h1]; exact h2⟩,fun⟨k,h1,h2⟩=>⟨k,h1,by rw [h k h1]; exact h2⟩⟩
theorem find_first {p:Nat→Bool} {n k:Nat} (hk:k < n) (h:p k=true) (hj:∀ j,j < k→p j=false):(List.range n).find? p=some k:=by
  rw [List.find?_eq_some_iff_append]
  refine⟨h,List.range k,(List.range' (k+1) (n - (k+1))),?_,fun a ha=>by rw [hj a (List.mem_range.1 ha)]; rfl⟩
  rw [List.range_eq_range',List.range_eq_range',show k :: List.range' (k+1) (n - (k+1))=List.range' k (n - k) from by rw [show n - k=(n - (k+1))+1 by omega,List.range'_succ]]
  have h2:=List.range'_append (s:=0) (m:=k) (n:=n - k) (step:=1)
  simp only [Nat.zero_add,Nat.one_mul] at h2
  rw [h2,show k+(n - k)=n by omega]
theorem idxF_some {p:Nat→Bool} {n k:Nat} (hk:k < n) (h:p k=true) (hj:∀ j,j < k→p j=false):idxF p n=(k:Int):=by
  unfold idxF; rw [find_first hk h hj]
theorem idxF_none {p:Nat→Bool} {n:Nat} (h:∀ k,k < n→p k=false):idxF p n = -1:=by
  unfold idxF
  rw [List.find?_eq_none.2 fun k hk=>by rw [h k (List.mem_range.1 hk)]; simp]
theorem first_or (p:Nat→Bool) (n:Nat):(∀ k,k < n→p k=false)∨∃ k,k < n∧p k=true∧∀ j,j < k→p j=false:=by
  cases e:(List.range n).find? p with
  | none=>exact .inl fun k hk=>by simpa using List.find?_eq_none.1 e k (List.mem_range.2 hk)
  | some k =>
    by_cases h:∃ k,k < n∧p k=true
    · right
      obtain⟨k,hk,hp⟩:=h
      induction k using Nat.strongRecOn with
      | _ k ih =>
        by_cases h2:∃ j,j < k∧p j=true
        · obtain⟨j,hj,hpj⟩:=h2; exact ih j hj (by omega) hpj
        · exact ⟨k, hk, hp, fun j hj => by cases e : p j with
            | false=>rfl
            | true=>exact absurd ⟨j,hj,e⟩ h2⟩
    · exact .inl fun k hk => by cases e : p k with
        | false=>rfl
        | true=>exact absurd ⟨k,hk,e⟩ h
theorem idxF_ge (p:Nat→Bool) (n:Nat):decide (idxF p n ≥ 0)=anyK p n:=by
  rcases first_or p n with h | ⟨k,h1,h2,h3⟩
  · rw [idxF_none h,anyK_false h]; rfl
  · rw [idxF_some h1 h2 h3,anyK_iff.2 ⟨k,h1,h2⟩]; exact decide_eq_true (by omega)
def elE (e:Nat→BytL) (x:BytL) (k:Nat):Bool:=sameS (e k).wf (e k).wn x.wf x.wn
def inB (e:Nat→BytL) (n:Nat) (x:BytL):Bool:=anyK (elE e x) n
def twB (e:Nat→BytL) (n:Nat):Bool:=anyK (fun i=>inB e i (e i)) n
def szB (n:Nat):Bool:=decide (1≤n) && decide (n≤1000)
def famSB (l:BytS) (y:BytL) (z:Blk):Prop:=famS l z∨famB y z
theorem sb_el {l:BytS} {y:BytL} {i:Nat} (hi:i < l.wn):∀ z,famBB (l.wf i) y z→famSB l y z:=fun z hz=>hz.elim (fun h=>.inl (.inr ⟨i,hi,h⟩)) .inr
theorem s_el {l:BytS} {i:Nat} (hi:i < l.wn):∀ z,famB (l.wf i) z→famS l z:=fun z hz=>.inr ⟨i,hi,hz⟩
theorem idx_ret {p:Nat→Bool} {n k:Nat} (hk:k < n) (h:p k=true) (hj:∀ j,j < k→p j=false):nat k=int (idxF p n):=by rw [idxF_some hk h hj]; rfl
theorem idx_end {p:Nat→Bool} {n k:Nat} (hk:k=n) (hj:∀ j,j < k→p j=false):int (-1)=int (idxF p n):=by subst hk; rw [idxF_none hj]
theorem any_next {p:Nat→Bool} {i:Nat} (h:∀ k,k < i→p k=false) (he:p i=false):∀ k,k < i+1→p k=false:=fun k hk=>by
  by_cases e:k=i
  · rw [e]; exact he
  · exact h k (by omega)
theorem any_yes {p:Nat→Bool} {n k:Nat} (hk:k < n) (h:p k=true):true=anyK p n:=(anyK_iff.2 ⟨k,hk,h⟩).symm
theorem any_no {p:Nat→Bool} {n k:Nat} (hk:k=n) (hj:∀ j,j < k→p j=false):false=anyK p n:=by subst hk; exact(anyK_false hj).symm
section
variable {α:Type}
end
end Go.Eng
end
section
namespace Go.Eng
open Go.RowKit Go.WideShapes Go.ChangeShapes Go.ChangeAt Go.Deep
theorem listMem_nones {bs l:List (Option Blk)} {p:Nat} {b:Blk} (h:lM (bs.map (fun _=>(none:Option Blk)) ++ l) p=some b):∃ p',p=bs.length+p'∧lM l p'=some b:=by
  rcases listMem_app h with ⟨h1,h2⟩ | ⟨h1,h2⟩
  · exfalso
    unfold lM at h2
    rw [List.getElem?_map] at h2
    cases h3:bs[p]? <;> rw [h3] at h2 <;> cases h2
  · rw [List.length_map] at h1 h2
    exact⟨p - bs.length,by omega,h2⟩
theorem RunsO.lendL {F G : Blk → Prop} {P : Program} {f : FuncId} {args : List Value} {bs : List (Option Blk)} {k : Nat} {v : List Nat → Value} {out : List Nat → List (Option Blk)} (h : RunsO G P f args [] k v out)
    (hG:∀ w:World,FamH F w→(∀ p b,lM bs p=some b→Holds b w)→FamH G w):RunsO F P f args bs k v (fun ns=>bs.map (fun _=>none) ++ out ns):=by
  intro w hm ha hF
  have hno:∀ k,¬ Owns (lM ([]:List (Option Blk))) k:=fun k ⟨p,b,h1,_⟩=>by simp [lM] at h1
  have hw:=hG w (fun b hb=>⟨(hF b hb).1,(hF b hb).2.1⟩) hm
  refine Calls.mono (h w (fun p b hb=>by simp [lM] at hb) (fun p q b c _ hb=>by simp [lM] at hb) fun b hb=>⟨(hw b hb).1,(hw b hb).2,fun k _=>hno k⟩) ?_
  rintro e w' ⟨ns,hns,he,hp⟩
  refine⟨ns,hns,he,⟨fun p b hpb=>?_,fun p q b c hpq hpb hqc ho=>?_,⟨hp.adv.os,hp.adv.output,hp.adv.tape,hp.adv.size,fun k hk _=>hp.adv.heap k hk (hno k),fun k ⟨p,b,h1,h2,h3⟩=>?_,fun p b hpb ho=>?_⟩⟩⟩
  · obtain⟨p',_,h2⟩:=listMem_nones hpb
    exact hp.holds p' b h2
  · obtain⟨p',h1,h2⟩:=listMem_nones hpb
    obtain⟨q',h3,h4⟩:=listMem_nones hqc
    exact hp.apart p' q' b c (by omega) h2 h4 ho
  · obtain⟨p',_,h4⟩:=listMem_nones h1
    rcases hp.adv.names k ⟨p',b,h4,h2,h3⟩ with h5 | h5
    · exact absurd h5 (hno k)
    · exact .inr h5
  · obtain⟨p',_,h4⟩:=listMem_nones hpb
    have:=hp.adv.ro p' b h4 ho
    simp [lM] at this
section
variable {D:Grw UInt8}
def recD (D:Grw UInt8):BytL:=⟨gsA D,D.n,gsC D,D.nm,0,D.f⟩
theorem recD_ok (h:D.ok) (hl:D.n≤9223372036854775807):OkB (recD D):=⟨gs_le h,fun h0=>gsA_own (h.pos h0),hl⟩
theorem recD_fam (h:D.ok) {F:Blk→Prop} {w:World} (hb:∀ b,roO (gsE u8C [u8 0] 1 D)=some b→Holds b w):FamH (famB (recD D)) w:=fun b hb'=>by
  obtain⟨h0,rfl⟩:=hb'
  have hz:=h.pos h0
  have h1:=hb ⟨D.nm,false,0,spr (D.n+D.r) D.n (fun k=>u8 (D.f k)) (u8 0)⟩ (by rw [gsE_u8,grO_own hz]; rfl)
  exact⟨holds_sprB h1,rfl⟩
end
end Go.Eng
end
section
namespace Go.Eng
open Go.RowKit Go.WideShapes Go.ChangeShapes Go.ChangeAt Go.Deep
def FrAt (f:Nat→UInt8) (e:Nat) (x:BytL):Prop:=∀ i,i < 8+x.wn→f (e+i)=frF x.wn x.wf i
section
variable {f:Nat→UInt8} {e n:Nat} {x:BytL}
end
def eE (xs:Nat→BytL):Nat→Nat
  | 0=>0
  | k+1=>eE xs k+(8+(xs k).wn)
theorem eE_mono {xs:Nat→BytL} {i k:Nat} (h:i≤k):eE xs i≤eE xs k:=by
  induction k with
  | zero => have : i = 0 := by omega
            subst this; exact Nat.le_refl _
  | succ k ih =>
    by_cases h2:i≤k
    · have:=ih h2; show eE xs i≤eE xs k+(8+(xs k).wn); omega
    · have:i=k+1:=by omega
      subst this; exact Nat.le_refl _
structure FrAll (f:Nat→UInt8) (xs:Nat→BytL) (K:Nat):Prop where
  at_:∀ k,k < K→FrAt f (eE xs k) (xs k)
  le:∀ k,k < K→(xs k).wn≤4000
section
variable {f:Nat→UInt8} {xs:Nat→BytL} {K n:Nat}
theorem FrAll.push (h:FrAll f xs K) {g:Nat→UInt8} (hx:(xs K).wn≤4000) (hg:g=catU f (eE xs K) (frF (xs K).wn (xs K).wf)):FrAll g xs (K+1):=by
  subst hg
  refine⟨fun k hk i hi=>?_,fun k hk=>?_⟩
  · by_cases hkK:k < K
    · have:=eE_mono (xs:=xs) (show k+1≤K by omega)
      have e:eE xs (k+1)=eE xs k+(8+(xs k).wn):=rfl
      unfold catU
      rw [if_pos (by omega)]
      exact h.at_ k hkK i hi
    · have:k=K:=by omega
      subst this
      unfold catU
      rw [if_neg (by omega),show eE xs k+i - eE xs k=i by omega]
  · by_cases hkK:k < K
    · exact h.le k hkK
    · have:k=K:=by omega
      subst this; exact hx
theorem FrAll.congr {g:Nat→UInt8} (h:FrAll f xs K) (hg:∀ i,i < eE xs K→g i=f i):FrAll g xs K :=
  ⟨fun k hk i hi=>by
    have:=eE_mono (xs:=xs) (show k+1≤K by omega)
    have e:eE xs (k+1)=eE xs k+(8+(xs k).wn):=rfl
    rw [hg _ (by omega)]; exact h.at_ k hk i hi,h.le⟩
end
end Go.Eng
end
section
namespace Go.Eng
open Go.RowKit Go.WideShapes Go.ChangeShapes Go.ChangeAt Go.Deep
def recS (A:Grw BytL):BytS:=⟨gsA A,A.n,gsC A,A.nm,0,A.f⟩
theorem recS_ok {A:Grw BytL} (h:A.ok) (hl:A.n≤9223372036854775807) (he:∀ k,k < A.n→OkB (A.f k)):OkS (recS A):=⟨gs_le h,fun h0=>gsA_own (h.pos h0),hl,he⟩
theorem recS_head {A:Grw BytL} (h:A.ok) {w:World} (hb:∀ b,roO (gsE slqC [Value.slice none 0 0] 1 A)=some b→Holds b w) (h0:0 < A.n):Holds (bysB (recS A)) w:=by
  have hz:=h.pos h0
  have h1:=hb ⟨A.nm,false,0,sprE 1 (A.n+A.r) A.n (fun k=>slqC (A.f k)) [Value.slice none 0 0]⟩ (by rw [gsE_own hz]; rfl)
  refine h1.recont (c:=tabF A.n fun k=>slqV (A.f k)) rfl fun o v hv=>?_
  by_cases ho:o < A.n
  · rw [tabF_in ho] at hv
    show(Cont.tab (A.n+A.r) 1 fun k=>if k < A.n then slqC (A.f k) else [Value.slice none 0 0]).get o=some v
    rw [Cont.get_tab (by omega),Nat.div_one,Nat.mod_one,if_pos ho]
    exact hv
  · rw [tabF_out ho] at hv; cases hv
theorem recS_fam {A:Grw BytL} (h:A.ok) {w:World} (hb:∀ b,roO (gsE slqC [Value.slice none 0 0] 1 A)=some b→Holds b w) (he:∀ k,k < A.n→FamH (famB (A.f k)) w):FamH (famS (recS A)) w:=fun b hb'=>by
  rcases hb' with ⟨h0,rfl⟩ | ⟨k,hk,h2⟩
  · exact⟨recS_head h hb h0,rfl⟩
  · exact he k hk b h2
theorem pile_el {n c d:Nat} {L:Nat→Nat} {f:Nat→Nat→UInt8} {w:World} (hb:∀ b,roO (plO n c d L f)=some b→Holds b w):∀ k,k < n→FamH (famB (elF c d L f k)) w:=fun k hk b hb'=>by
  obtain⟨h0,rfl⟩:=hb'
  cases n with
  | zero=>omega
  | succ m =>
    have h1:=(hb _ (by rw [plO_succ]; rfl)).obj
    have h2:PieceOk (decL c k) false (sprP (L k) (decL d k) (f k)) w:=h1.1 k _ _ hk rfl
    have h3:Holds ⟨decL c k,false,0,spr (L k+decL d k) (L k) (fun j=>u8 (f k j)) (u8 0)⟩ w:=⟨h2.lt,h2.cell,(fun h=>by cases h),trivial⟩
    exact⟨holds_sprB h3,rfl⟩
theorem elF_ok {c d:Nat} {L:Nat→Nat} {f:Nat→Nat→UInt8} {k:Nat} (h:L k≤9223372036854775807):OkB (elF c d L f k):=okb_own (by omega) h
theorem lists_true {a b:BytS} (hn:a.wn=b.wn) (h:∀ k,k < a.wn→(a.wf k).wn=(b.wf k).wn∧∀ i,i < (a.wf k).wn→(a.wf k).wf i=(b.wf k).wf i):listsB a b=true:=decide_eq_true ⟨hn,fun k hk=>decide_eq_true ⟨(h k hk).1,(h k hk).2⟩⟩
theorem lit_fam {nm n c:Nat} {l:List Value} {f:Nat→BytL} {w:World} (hl:l=(List.range n).map fun k=>slqV (f k)) (hb:Holds ⟨nm,false,0,.lit l⟩ w) (he:∀ k,k < n→FamH (famB (f k)) w):FamH (famS (bysO nm n c f)) w:=fun x hx=>by
  rcases hx with ⟨h0,rfl⟩ | ⟨k,hk,hx⟩
  · subst hl
    refine⟨hb.recont rfl fun j v hj=>?_,rfl⟩
    have hj':(tabF n fun k=>slqV (f k)).get j=some v:=hj
    show((List.range n).map fun k=>slqV (f k))[j]? = some v
    by_cases hl:j < n
    · rw [tabF_in hl] at hj'
      rw [map_get slqV f n j hl]; exact hj'
    · rw [tabF_out hl] at hj'; cases hj'
  · exact he k hk x hx
end Go.Eng
end
section
namespace Go.Eng
open Go.RowKit
theorem same_refl {f g:Nat→UInt8} {n m:Nat} (hn:n=m) (hf:f=g):sameS f n g m=true:=by
  subst hn hf
  exact decide_eq_true ⟨rfl,fun k hk=>rfl⟩
end Go.Eng
end
section
namespace Go.Eng
open Go.RowKit
def bysT (x:BytS) (k:Nat):BytS:=⟨x.wa,k,x.wc,x.wb,x.wo,x.wf⟩
theorem oks_to {x:BytS} {k:Nat} (h:OkS x) (hk:k≤x.wn):OkS (bysT x k):=⟨Nat.le_trans hk h.cap,fun h0=>h.ad (Nat.lt_of_lt_of_le h0 hk),Nat.le_trans hk h.len,fun j hj=>h.el j (Nat.lt_of_lt_of_le hj hk)⟩
end Go.Eng
end
section
namespace Go.Eng
open Go.RowKit
end Go.Eng
end
section
namespace Go.Eng
def slqS (q:BytS):Value:=.slice q.wa q.wn q.wc
theorem sh_bysT {l:BytS} {k:Nat} (hk:k≤l.wn):SubH (famS (bysT l k)) (famS l):=fun w hF z hz=>by
  rcases hz with ⟨h0,rfl⟩ | ⟨i,hi,h⟩
  · have h1:0 < k:=h0
    obtain⟨h2,_⟩:=hF (bysB l) (.inl ⟨by omega,rfl⟩)
    refine⟨h2.recont (c:=tabF k fun k=>slqV (l.wf k)) rfl fun o v hv=>?_,rfl⟩
    by_cases ho:o < k
    · rw [tabF_in ho] at hv
      show(tabF l.wn fun k=>slqV (l.wf k)).get o=some v
      rw [tabF_in (by omega)]; exact hv
    · rw [tabF_out (by omega)] at hv; cases hv
  · exact hF z (.inr ⟨i,Nat.lt_of_lt_of_le hi hk,h⟩)
theorem nm_bysT {l:BytS} {k:Nat} (hk:k≤l.wn):NmF (famS (bysT l k)) (famS l):=fun z hz=>by
  rcases hz with ⟨h0,rfl⟩ | ⟨i,hi,h⟩
  · have h1:0 < k:=h0
    exact⟨bysB l,.inl ⟨by omega,rfl⟩,fun j hj=>hj⟩
  · exact⟨z,.inr ⟨i,Nat.lt_of_lt_of_le hi hk,h⟩,fun j hj=>hj⟩
theorem sh_tw {l:BytS} {i:Nat} (hi:i < l.wn):SubH (famSB (bysT l i) (l.wf i)) (famS l):=sh_or (sh_bysT (by omega)) (sh_sub (s_el hi))
theorem nm_tw {l:BytS} {i:Nat} (hi:i < l.wn):NmF (famSB (bysT l i) (l.wf i)) (famS l):=nm_or (nm_bysT (by omega)) (nm_sub (s_el hi))
structure PoR where
  A:Grw BytL
  K:Nat
  c:Nat
  d:Nat
  L:Nat→Nat
  f:Nat→Nat→UInt8
  Y:MpR
def poH (X:PoR):Option Blk:=gsE slqC [Value.slice none 0 0] 1 X.A
def poP (X:PoR):Option Blk:=plO X.K X.c X.d X.L X.f
structure POk (X:PoR):Prop where
  ok:X.A.ok
  yok:X.Y.ok
  el:∀ k,k < X.A.n→∃ j,j < X.K∧X.A.f k=elF X.c X.d X.L X.f j
  sz:∀ k,k < X.A.n→1≤(X.A.f k).wn∧(X.A.f k).wn≤1000
  len:X.A.n≤30
section
variable {X:PoR}
theorem POk.names (h:POk X) {z:Blk} (hz:famS (recS X.A) z):∀ j,z.has j→∃ c,(some c=roO (poH X)∨some c=roO (poP X))∧c.has j:=fun j hj=>by
  rcases hz with ⟨h0,rfl⟩ | ⟨k,hk,hz⟩
  · have hA:=h.ok.pos h0
    refine⟨⟨X.A.nm,false,0,sprE 1 (X.A.n+X.A.r) X.A.n (fun k=>slqC (X.A.f k)) [Value.slice none 0 0]⟩,.inl ?_,hj⟩
    unfold poH; rw [gsE_own hA]; rfl
  · obtain⟨i,hi,e⟩:=h.el k hk
    have hz':famB (X.A.f k) z:=hz
    rw [e] at hz'
    obtain⟨h0,rfl⟩:=hz'
    cases hK:X.K with
    | zero=>omega
    | succ m =>
      refine⟨⟨decL X.c m,false,0,.pile (m+1) (plG X.c X.d X.L X.f)⟩,.inr ?_,?_⟩
      · unfold poP; rw [hK,plO_succ]; rfl
      · exact⟨i,_,by omega,show some (decL X.c i,_)=some (j,_) from by rw [show j=decL X.c i from hj.symm]⟩
end
end Go.Eng
end
section
namespace Go.Eng
def addX (X:PoR) (y:BytL) (n1 n2 nm r:Nat):PoR :=
  ⟨⟨false,nm,X.A.n+1,r,catU X.A.f X.A.n fun _=>bytO n1 y.wn (y.wn+n2) y.wf⟩,X.K+1,pcod X.c X.K n1,pcod X.d X.K n2,catU X.L X.K fun _=>y.wn,catU X.f X.K fun _=>y.wf,X.Y⟩
def addE (X:PoR) (y:BytL):Int :=
  if szB y.wn=false then 2 else if (selB (inB X.A.f X.A.n y) true (hasP X.Y.l (strOf y.wf y.wn)))=true then 13 else if X.A.n=30 then 52 else 0
def adX (X:PoR) (y:BytL) (n1 n2 nm r:Nat):PoR:=if addE X y=0 then addX X y n1 n2 nm r else X
theorem szB_iff {n:Nat}:szB n=true ↔ 1≤n∧n≤1000:=by unfold szB; rw [Bool.and_eq_true,decide_eq_true_iff,decide_eq_true_iff]
section
variable {X:PoR} {y:BytL} {n1 n2 nm r:Nat}
theorem add_0 (h:addE X y=0):szB y.wn=true∧(selB (inB X.A.f X.A.n y) true (hasP X.Y.l (strOf y.wf y.wn)))=false∧X.A.n≠30:=by
  unfold addE at h
  split at h
  · cases h
  · rename_i h1
    split at h
    · cases h
    · rename_i h2
      split at h
      · cases h
      · rename_i h3
        exact⟨by simpa using h1,by simpa using h2,h3⟩
end
section
variable {X:PoR} {y:BytL}
end
end Go.Eng
end
section
namespace Go.Eng
section
variable {X:PoR}
end
end Go.Eng
end
section
namespace Go.Eng
end Go.Eng
end
section
namespace Go.Eng
def unB (e:Nat→BytL) (k:Nat):Bool:=!szB (e k).wn
def pkL (h:UInt64) (n:Nat) (e:Nat→BytL):Nat→Nat
  | 0=>smN h+smN (UInt64.ofNat n)
  | k+1=>pkL h n e k+byN (e k).wn
def pkF (h:UInt64) (n:Nat) (e:Nat→BytL):Nat→Nat→UInt8
  | 0=>catU (smB h) (smN h) (smB (UInt64.ofNat n))
  | k+1=>catU (pkF h n e k) (pkL h n e k) (byB (e k).wf (e k).wn)
def pkG (h:UInt64) (n:Nat) (e:Nat→BytL) (k a r:Nat):Grw UInt8:=gsOf (pkL h n e k) (pkF h n e k) a r
section
variable {h:UInt64} {n:Nat} {e:Nat→BytL} {k a r a' r':Nat}
theorem pkL_pos:2≤pkL h n e k:=by
  induction k with
  | zero=>have h1:=smN_rng h; have h2:=smN_rng (UInt64.ofNat n); show 2≤smN h+smN _; omega
  | succ k ih=>show 2≤pkL h n e k+_; omega
theorem pkL_le (hs:∀ i,i < k→(e i).wn≤1000):pkL h n e k≤18+1009*k:=by
  induction k with
  | zero=>have h1:=smN_rng h; have h2:=smN_rng (UInt64.ofNat n); show smN h+smN _≤_; omega
  | succ k ih =>
    have h1:=ih fun i hi=>hs i (by omega)
    have h2:=byN_rng (e k).wn
    have h3:=hs k (by omega)
    show pkL h n e k+byN (e k).wn≤_
    omega
end
theorem pack_few {l:BytS} (h:(selB (decide (10 < l.wn)) true (anyK (unB l.wf) l.wn))=false):l.wn≤10∧∀ i,i < l.wn→1≤(l.wf i).wn∧(l.wf i).wn≤1000:=by
  rw [selB_or,Bool.or_eq_false_iff,decide_eq_false_iff_not] at h
  refine⟨by omega,fun i hi=>?_⟩
  have h2:=anyK_not h.2 i hi
  unfold unB at h2
  exact szB_iff.1 (by simpa using h2)
def pakE (l:BytS):Int:=if (selB (decide (10 < l.wn)) true (anyK (unB l.wf) l.wn))=true then 2 else if twB l.wf l.wn=true then 13 else 0
def pakG (h:UInt64) (l:BytS) (a r:Nat):Grw UInt8:=if pakE l=0 then pkG h l.wn l.wf l.wn a r else ⟨true,0,0,0,fun _=>0⟩
theorem pak_1 {l:BytS} (h:(selB (decide (10 < l.wn)) true (anyK (unB l.wf) l.wn))=true):pakE l=2:=by unfold pakE; rw [if_pos h]
theorem pak_2 {l:BytS} (h:(selB (decide (10 < l.wn)) true (anyK (unB l.wf) l.wn))=false) (h2:twB l.wf l.wn=true):pakE l=13:=by unfold pakE; rw [if_neg (by rw [h]; simp),if_pos h2]
theorem pak_0 {l:BytS} (h:(selB (decide (10 < l.wn)) true (anyK (unB l.wf) l.wn))=false) (h2:twB l.wf l.wn=false):pakE l=0:=by unfold pakE; rw [if_neg (by rw [h]; simp),if_neg (by rw [h2]; simp)]
theorem pakG_no {l:BytS} (h:pakE l≠0) (x:UInt64) (a r:Nat):pakG x l a r=⟨true,0,0,0,fun _=>0⟩:=by unfold pakG; rw [if_neg h]
theorem pakG_yes {l:BytS} (h:pakE l=0) (x:UInt64) (a r:Nat):pakG x l a r=pkG x l.wn l.wf l.wn a r:=by unfold pakG; rw [if_pos h]
end Go.Eng
end
section
namespace Go.Eng
def usS (Q:BytL) (E:Int):Nat→BytL × Int
  | 0=>(Q,E)
  | k+1=>(rbQ (usS Q E k).1 (usS Q E k).2 1000,rbE (usS Q E k).1 (usS Q E k).2 1000)
def usN (Q:BytL) (E:Int) (k:Nat):Nat:=rbN (usS Q E k).1 (usS Q E k).2 1000
def usW (Q:BytL) (E:Int) (k:Nat):Nat→UInt8:=(ctQ (usS Q E k).1 (usS Q E k).2 1000).wf
def usV (Q:BytL) (E:Int) (c d k:Nat):BytL:=rbV (usS Q E k).1 (usS Q E k).2 1000 (decL c k) (decL d k)
def gU (Q:BytL) (E:Int) (c d k:Nat):Nat→Option (Nat × Piece):=fun i=>if i < k∧0 < usN Q E i then some (decL c i,sprP (usN Q E i) (decL d i) (usW Q E i)) else none
def lastU (Q:BytL) (E:Int):Nat→Option Nat
  | 0=>none
  | k+1=>if 0 < usN Q E k then some k else lastU Q E k
def plU (Q:BytL) (E:Int) (c d k:Nat):Option Blk:=match lastU Q E k with
  | none=>none
  | some m=>some ⟨decL c m,true,0,.pile 10 (gU Q E c d k)⟩
section
variable {Q:BytL} {E:Int} {c d k n1 n2:Nat}
theorem lastU_lt:∀ {k m:Nat},lastU Q E k=some m→m < k∧0 < usN Q E m
  | 0,m,h=>by cases h
  | k+1,m,h=>by
    unfold lastU at h
    split at h
    · rename_i h0
      injection h with h; subst h
      exact⟨Nat.lt_succ_self _,h0⟩
    · obtain⟨h1,h2⟩:=lastU_lt (k:=k) h
      exact⟨by omega,h2⟩
theorem lastU_some:∀ {k i:Nat},i < k→0 < usN Q E i→∃ m,lastU Q E k=some m
  | 0,i,h,_=>absurd h (Nat.not_lt_zero i)
  | k+1,i,h,h0=>by
    unfold lastU
    split
    · exact⟨k,rfl⟩
    · rename_i hk
      by_cases e:i=k
      · subst e; exact absurd h0 hk
      · exact lastU_some (k:=k) (by omega) h0
theorem plU_yes (h0:0 < usN Q E k):plU Q E (pcod c k n1) (pcod d k n2) (k+1)=some ⟨n1,true,0,.pile 10 (gU Q E (pcod c k n1) (pcod d k n2) (k+1))⟩:=by
  unfold plU
  rw [show lastU Q E (k+1)=some k from if_pos h0]
  show some (⟨decL (pcod c k n1) k,true,0,_⟩:Blk)=_
  rw [pcod_new]
theorem gU_old {i:Nat} (hi:i < k):gU Q E (pcod c k n1) (pcod d k n2) (k+1) i=gU Q E c d k i:=by
  unfold gU
  rw [pcod_old hi,pcod_old hi]
  by_cases h:0 < usN Q E i
  · rw [if_pos ⟨by omega,h⟩,if_pos ⟨hi,h⟩]
  · rw [if_neg (fun e=>h e.2),if_neg (fun e=>h e.2)]
theorem plU_no (h0:¬ 0 < usN Q E k):plU Q E (pcod c k n1) (pcod d k n2) (k+1)=plU Q E c d k:=by
  have hg:gU Q E (pcod c k n1) (pcod d k n2) (k+1)=gU Q E c d k:=funext fun i=>by
    by_cases hi:i < k
    · exact gU_old hi
    · unfold gU
      have h1:¬ (i < k+1∧0 < usN Q E i):=fun e=>by
        by_cases hk:i=k
        · subst hk; exact h0 e.2
        · have:=e.1; omega
      rw [if_neg h1,if_neg (fun e=>hi e.1)]
  unfold plU
  rw [show lastU Q E (k+1)=lastU Q E k from if_neg h0,hg]
  cases e:lastU Q E k with
  | none=>rfl
  | some m=>show some (⟨decL (pcod c k n1) m,true,0,_⟩:Blk)=some ⟨decL c m,true,0,_⟩; rw [pcod_old (lastU_lt e).1]
theorem pack_U (h0:0 < usN Q E k):PackOk (plU Q E c d k) ⟨n1,true,0,spr (usN Q E k+n2) (usN Q E k) (fun j=>u8 (usW Q E k j)) (u8 0)⟩ 10 (gU Q E (pcod c k n1) (pcod d k n2) (k+1)):=by
  refine⟨k,fun i j pc hi hg=>?_⟩
  by_cases hik:i < k
  · left
    rw [gU_old hik] at hg
    have hp:0 < usN Q E i:=by
      unfold gU at hg
      by_cases h:0 < usN Q E i
      · exact h
      · rw [if_neg (fun e=>h e.2)] at hg; cases hg
    obtain⟨m,hm⟩:=lastU_some hik hp
    exact⟨_,_,_,by unfold plU; rw [hm],rfl,rfl,hi,hg⟩
  · right
    unfold gU at hg
    split at hg
    · rename_i h
      have:i=k:=by omega
      subst this
      injection hg with hg
      injection hg with h1 h2
      rw [pcod_new] at h1 h2
      refine⟨rfl,h1.symm,.inl ?_⟩
      rw [← h2]; rfl
    · cases hg
theorem usV_ok (hl:∀ k,usN Q E k≤9223372036854775807):OkB (usV Q E c d k):=rbV_ok (hl k)
theorem usV_old {i:Nat} (hi:i < k):usV Q E (pcod c k n1) (pcod d k n2) i=usV Q E c d i:=by unfold usV; rw [pcod_old hi,pcod_old hi]
theorem usV_new:usV Q E (pcod c k n1) (pcod d k n2) k=rbV (usS Q E k).1 (usS Q E k).2 1000 n1 n2:=by unfold usV; rw [pcod_new,pcod_new]
theorem list_U {A : Grw BytL} (hz : A.z = false) (hn : A.n = k + 1) (hA : A.f = catU (usV Q E c d) k fun _ => qOf (slqV (rbV (usS Q E k).1 (usS Q E k).2 1000 n1 n2))) :
    gsV A=gsV (gsOf (k+1) (usV Q E (pcod c k n1) (pcod d k n2)) A.nm A.r)∧gsE slqC [Value.slice none 0 0] 1 A=gsE slqC [Value.slice none 0 0] 1 (gsOf (k+1) (usV Q E (pcod c k n1) (pcod d k n2)) A.nm A.r) :=
  gs_tellC hn (by rw [hz,decide_eq_false (by omega)]) fun j hj=>by
    rw [hA]
    unfold catU
    by_cases h:j < k
    · rw [if_pos h,usV_old h]
    · have:j=k:=by omega
      subst this
      rw [if_neg h,usV_new]; rfl
end
end Go.Eng
end
section
namespace Go.Eng
structure RdR (C:Grw UInt8) (Q:BytL):Prop where
  ok:OkB Q
  le:Q.wn≤100000
  hold:∀ w:World,(∀ b,roO (gsE u8C [u8 0] 1 C)=some b→Holds b w)→FamH (famB Q) w
  nm:0 < Q.wn→C.z=false∧Q.wb=C.nm
theorem RdR.small {C:Grw UInt8} {Q:BytL} (h:RdR C Q) (E:Int) (x:UInt64):RdR C (rsQ Q E x) :=
  ⟨okb_rs h.ok E x,Nat.le_trans (rsQ_wn _ _ _) h.le,fun w hw=>holdb_rs (h.hold w hw),fun h0=>by
    have h1:=rsQ_wn Q E x
    rw [rs_wb]; exact h.nm (by omega)⟩
theorem RdR.byts {C:Grw UInt8} {Q:BytL} (h:RdR C Q) (E m:Int):RdR C (rbQ Q E m) :=
  ⟨okb_rb h.ok E m,Nat.le_trans (rb_wn _ _ _) h.le,fun w hw=>holdb_rb (h.hold w hw),fun h0=>by
    have h1:=rb_wn Q E m
    rw [rb_wb]; exact h.nm (by omega)⟩
theorem RdR.us {C:Grw UInt8} {Q:BytL} (h:RdR C Q) (E:Int):∀ k,RdR C (usS Q E k).1
  | 0=>h
  | k+1=>(RdR.us h E k).byts _ _
theorem rd_first {q:BytL} (hq:OkB q) (hl:q.wn≤100000) (a r:Nat):RdR (cpG q a r) (recG (cpG q a r)) :=
  ⟨recG_ok (cpG_ok hq a r) (by show q.wn≤_; omega),hl,fun w hw=>recG_fam (cpG_ok hq a r) hw,fun h0=>⟨(cpG_ok hq a r).pos h0,rfl⟩⟩
theorem RdR.lend {F : Blk → Prop} {P : Program} {fn : FuncId} {args : List Value} {B : Blk} {n : Nat} {v : List Nat → Value} {o : List Nat → Option Blk} {nw : List Nat → List (Option Blk)} {C : Grw UInt8} {Q : BytL} (h : RdR C Q)
    (hr:RunsF (famB Q) P fn args [B] n v (fun ns=>o ns :: nw ns)) (how:∀ ns,ownL (o ns :: none :: nw ns)):RunsO F P fn args [some B,roO (gsE u8C [u8 0] 1 C)] n v (fun ns=>o ns :: none :: nw ns) :=
  rd_lend hr (fun w _ hb=>h.hold w hb) (gs_names h.nm) ro_own how
theorem rbN_100 {C:Grw UInt8} {Q:BytL} (h:RdR C Q) (E:Int) (k:Nat):usN Q E k≤100000 :=
  Nat.le_trans (rbN_le' (usS Q E k).1 (usS Q E k).2) (h.us E k).le
where rbN_le' (q : BytL) (e : Int) : rbN q e 1000 ≤ q.wn := by
        unfold rbN; split
        · unfold ctN; split
          · exact Nat.zero_le _
          · rename_i h1; rw [Nat.div_one] at h1; exact Nat.le_trans (by omega) (ctQ_wn q e 1000)
        · exact Nat.zero_le _
theorem cnt_next {i n:UInt64} {k:Nat} (e:i.toNat=k) (h:decide (i < n)=true):(i+1).toNat=k+1∧k < n.toNat:=by
  have h1:=UInt64.lt_iff_toNat_lt.1 (of_decide_eq_true h)
  have h2:=n.toNat_lt
  refine⟨?_,by omega⟩
  rw [UInt64.toNat_add,show(1:UInt64).toNat=1 from rfl,Nat.mod_eq_of_lt (by omega),e]
theorem cnt_end {i n:UInt64} {k:Nat} (e:i.toNat=k) (hk:k≤n.toNat) (h:decide (i < n)=false):k=n.toNat:=by
  have h1:¬ i.toNat < n.toNat:=fun h2=>of_decide_eq_false h (UInt64.lt_iff_toNat_lt.2 h2)
  omega
end Go.Eng
end
section
namespace Go.Eng
structure SameB (Q R:BytL):Prop where
  n:Q.wn=R.wn
  f:Q.wf=R.wf
  z:Q.wa.isNone=R.wa.isNone
theorem fromA_none (A:Option Addr) (c k:Nat):(fromA A c k 1).isNone=A.isNone:=by
  unfold fromA
  by_cases h:c=k
  · rw [if_pos h]
  · rw [if_neg h]; cases A <;> rfl
section
variable {Q R:BytL}
theorem SameB.from(h:SameB Q R) (k:Nat):SameB (bytF Q k) (bytF R k) :=
  ⟨by show Q.wn - k=R.wn - k; rw [h.n],by show(fun i=>Q.wf (i+k))=fun i=>R.wf (i+k); rw [h.f],by
    show(fromA Q.wa Q.wc k 1).isNone=(fromA R.wa R.wc k 1).isNone
    rw [fromA_none,fromA_none,h.z]⟩
theorem SameB.rsE (h:SameB Q R) (e:Int) (l:UInt64):rsE Q e l=Go.Eng.rsE R e l:=by unfold Go.Eng.rsE; rw [h.n,h.f]
theorem SameB.rsV (h:SameB Q R) (e:Int) (l:UInt64):rsV Q e l=Go.Eng.rsV R e l:=by unfold Go.Eng.rsV; rw [h.rsE,h.f]
theorem SameB.rsQ (h:SameB Q R) (e:Int) (l:UInt64):SameB (rsQ Q e l) (Go.Eng.rsQ R e l):=by
  unfold Go.Eng.rsQ
  rw [h.rsE]
  split
  · rw [h.f]; exact h.from _
  · exact h
theorem SameB.tkE (h:SameB Q R) (e:Int) (n:Nat):tkE Q e n=Go.Eng.tkE R e n:=by unfold Go.Eng.tkE; rw [h.n]
theorem SameB.tkQ (h:SameB Q R) (e:Int) (n:Nat):SameB (tkQ Q e n) (Go.Eng.tkQ R e n):=by
  unfold Go.Eng.tkQ
  rw [h.tkE]
  split
  · exact h.from _
  · exact h
theorem SameB.ctQ (h:SameB Q R) (e m:Int):SameB (ctQ Q e m) (Go.Eng.ctQ R e m):=h.rsQ _ _
theorem SameB.ctV (h:SameB Q R) (e m:Int):ctV Q e m=Go.Eng.ctV R e m:=by unfold Go.Eng.ctV; rw [h.rsV]
theorem SameB.ctE (h:SameB Q R) (e m:Int) (z:Nat):ctE Q e m z=Go.Eng.ctE R e m z:=by unfold Go.Eng.ctE; rw [(h.ctQ e m).n,h.ctV,h.rsE]
theorem SameB.ctN (h:SameB Q R) (e m:Int) (z:Nat):ctN Q e m z=Go.Eng.ctN R e m z:=by unfold Go.Eng.ctN; rw [(h.ctQ e m).n,h.ctV]
theorem SameB.rbE (h:SameB Q R) (e m:Int):rbE Q e m=Go.Eng.rbE R e m:=by unfold Go.Eng.rbE; rw [(h.ctQ e m).tkE,h.ctE,h.ctN]
theorem SameB.rbN (h:SameB Q R) (e m:Int):rbN Q e m=Go.Eng.rbN R e m:=by unfold Go.Eng.rbN; rw [(h.ctQ e m).tkE,h.ctE,h.ctN]
theorem SameB.rbQ (h:SameB Q R) (e m:Int):SameB (rbQ Q e m) (Go.Eng.rbQ R e m):=by unfold Go.Eng.rbQ; rw [h.ctE,h.ctN]; exact(h.ctQ e m).tkQ _ _
theorem SameB.rbZ (h:SameB Q R) (e m:Int):rbZ Q e m=Go.Eng.rbZ R e m:=by unfold Go.Eng.rbZ; rw [h.rbE,(h.ctQ e m).z]
theorem SameB.rbV (h:SameB Q R) (e m:Int) (a r:Nat):rbV Q e m a r=Go.Eng.rbV R e m a r:=by unfold Go.Eng.rbV; rw [h.rbN,(h.ctQ e m).f,h.rbZ]
theorem SameB.us (h:SameB Q R) (E:Int):∀ k,SameB (usS Q E k).1 (usS R E k).1∧(usS Q E k).2=(usS R E k).2
  | 0=>⟨h,rfl⟩
  | k+1=>by
    obtain⟨h1,h2⟩:=SameB.us h E k
    refine⟨?_,?_⟩
    · show SameB (Go.Eng.rbQ (usS Q E k).1 (usS Q E k).2 1000) (Go.Eng.rbQ (usS R E k).1 (usS R E k).2 1000)
      rw [h2]; exact h1.rbQ _ _
    · show Go.Eng.rbE (usS Q E k).1 (usS Q E k).2 1000=Go.Eng.rbE (usS R E k).1 (usS R E k).2 1000
      rw [h2]; exact h1.rbE _ _
theorem SameB.usN (h:SameB Q R) (E:Int):usN Q E=Go.Eng.usN R E:=funext fun k=>by
  obtain⟨h1,h2⟩:=h.us E k
  unfold Go.Eng.usN; rw [h2]; exact h1.rbN _ _
theorem SameB.usW (h:SameB Q R) (E:Int):usW Q E=Go.Eng.usW R E:=funext fun k=>by
  obtain⟨h1,h2⟩:=h.us E k
  unfold Go.Eng.usW; rw [h2]; exact(h1.ctQ _ _).f
theorem SameB.usV (h:SameB Q R) (E:Int) (c d:Nat):usV Q E c d=Go.Eng.usV R E c d:=funext fun k=>by
  obtain⟨h1,h2⟩:=h.us E k
  unfold Go.Eng.usV; rw [h2]; exact h1.rbV _ _ _ _
theorem SameB.gU (h:SameB Q R) (E:Int) (c d k:Nat):gU Q E c d k=Go.Eng.gU R E c d k:=by unfold Go.Eng.gU; rw [h.usN,h.usW]
theorem SameB.lastU (h:SameB Q R) (E:Int):∀ k,lastU Q E k=Go.Eng.lastU R E k
  | 0=>rfl
  | k+1=>by unfold Go.Eng.lastU; rw [h.usN,SameB.lastU h E k]
theorem SameB.plU (h:SameB Q R) (E:Int) (c d k:Nat):plU Q E c d k=Go.Eng.plU R E c d k:=by unfold Go.Eng.plU; rw [h.lastU,h.gU]
theorem rbK_pos {E:Int} {k a r:Nat} (h0:0 < Go.Eng.usN Q E k):rbK (usS Q E k).1 (usS Q E k).2 1000 a r=some ⟨a,true,0,spr (Go.Eng.usN Q E k+r) (Go.Eng.usN Q E k) (fun j=>u8 (Go.Eng.usW Q E k j)) (u8 0)⟩:=if_pos h0
theorem rbK_no {E:Int} {k a r:Nat} (h0:¬ 0 < Go.Eng.usN Q E k):rbK (usS Q E k).1 (usS Q E k).2 1000 a r=none:=if_neg h0
theorem same_cp {q:BytL} (hq:OkB q) (a r:Nat):SameB (recG (cpG q a r)) q:=⟨rfl,rfl,by
  show(gsA (cpG q a r)).isNone=q.wa.isNone
  cases hz:q.wa.isNone with
  | true=>rw [gsA_nil (show(cpG q a r).z=true from hz)]; rfl
  | false=>rw [gsA_own (show(cpG q a r).z=false from hz)]; rfl⟩
end
end Go.Eng
end
section
namespace Go.Eng
section
variable {Q:BytL} {E:Int} {c d k nm r:Nat}
def usL (Q:BytL) (E:Int) (c d k nm r:Nat):Grw BytL:=gsOf k (usV Q E c d) nm r
theorem usV_wn {i:Nat}:(usV Q E c d i).wn=usN Q E i:=by
  show(rbV (usS Q E i).1 (usS Q E i).2 1000 (decL c i) (decL d i)).wn=rbN (usS Q E i).1 (usS Q E i).2 1000
  unfold rbV; split
  · rfl
  · rename_i h; show 0=_; omega
theorem us_oks (hk:k≤1000) (hl:∀ i,usN Q E i≤9223372036854775807):OkS (recS (usL Q E c d k nm r)) :=
  recS_ok (gsOf_ok _ _ _ _) (Nat.le_trans (show k≤1000 from hk) (by decide)) fun i _=>usV_ok hl
theorem plU_piece {i:Nat} (hi:i < k) (h0:0 < usN Q E i):∃ m,plU Q E c d k=some ⟨decL c m,true,0,.pile 10 (gU Q E c d k)⟩∧gU Q E c d k i=some (decL c i,sprP (usN Q E i) (decL d i) (usW Q E i)):=by
  obtain⟨m,hm⟩:=lastU_some (k:=k) hi h0
  exact⟨m,by unfold plU; rw [hm],if_pos ⟨hi,h0⟩⟩
theorem usV_pos {i:Nat} (h0:0 < usN Q E i):usV Q E c d i=bytO (decL c i) (usN Q E i) (usN Q E i+decL d i) (usW Q E i):=if_pos h0
theorem us_el (hk:k≤10) {w:World} (hb:∀ b,roO (plU Q E c d k)=some b→Holds b w) {i:Nat} (hi:i < k):FamH (famB (usV Q E c d i)) w:=fun b hb'=>by
  have h0:0 < usN Q E i:=by rw [← usV_wn (c:=c) (d:=d)]; exact hb'.1
  obtain⟨m,e1,e2⟩:=plU_piece (c:=c) (d:=d) hi h0
  rw [usV_pos h0] at hb'
  obtain⟨_,rfl⟩:=hb'
  have h1:=(hb _ (by rw [e1]; rfl)).obj
  have h2:PieceOk (decL c i) false (sprP (usN Q E i) (decL d i) (usW Q E i)) w:=h1.1 i _ _ (by omega) e2
  have h3:Holds ⟨decL c i,false,0,spr (usN Q E i+decL d i) (usN Q E i) (fun j=>u8 (usW Q E i j)) (u8 0)⟩ w:=⟨h2.lt,h2.cell,(fun h=>by cases h),trivial⟩
  exact⟨holds_sprB h3,rfl⟩
def usC (Q:BytL) (E:Int) (c d k nm r:Nat):List (Option Blk):=[roO (gsE slqC [Value.slice none 0 0] 1 (usL Q E c d k nm r)),roO (plU Q E c d k)]
theorem us_fam (hk:k≤10) {w:World} (hb:∀ b,some b ∈ usC Q E c d k nm r→Holds b w):FamH (famS (recS (usL Q E c d k nm r))) w :=
  recS_fam (gsOf_ok _ _ _ _) (fun b hb'=>hb b (hb' ▸ List.Mem.head _)) fun i hi=>us_el hk (fun b hb'=>hb b (hb' ▸ List.Mem.tail _ (List.Mem.head _))) hi
theorem us_names (hk:k≤10) {z:Blk} (hz:famS (recS (usL Q E c d k nm r)) z) (j:Nat) (hj:z.has j):∃ b,some b ∈ usC Q E c d k nm r∧b.has j:=by
  rcases hz with ⟨h0,rfl⟩ | ⟨i,hi,hz⟩
  · have hA:(usL Q E c d k nm r).z=false:=(gsOf_ok k (usV Q E c d) nm r:Grw.ok _).pos h0
    refine⟨⟨nm,false,0,sprE 1 (k+r) k (fun i=>slqC (usV Q E c d i)) [Value.slice none 0 0]⟩,?_,hj⟩
    have e:roO (gsE slqC [Value.slice none 0 0] 1 (usL Q E c d k nm r))=some ⟨nm,false,0,sprE 1 (k+r) k (fun i=>slqC (usV Q E c d i)) [Value.slice none 0 0]⟩:=by rw [gsE_own hA]; rfl
    exact e ▸ List.Mem.head _
  · have hi':i < k:=hi
    have hz':famB (usV Q E c d i) z:=hz
    have h0:0 < usN Q E i:=by rw [← usV_wn (c:=c) (d:=d)]; exact hz'.1
    obtain⟨m,e1,e2⟩:=plU_piece (c:=c) (d:=d) hi' h0
    rw [usV_pos h0] at hz'
    obtain⟨_,rfl⟩:=hz'
    have e:roO (plU Q E c d k)=some ⟨decL c m,false,0,.pile 10 (gU Q E c d k)⟩:=by rw [e1]; rfl
    have hj':decL c i=j:=hj
    exact⟨⟨decL c m,false,0,.pile 10 (gU Q E c d k)⟩,e ▸ List.Mem.tail _ (List.Mem.head _),i,sprP (usN Q E i) (decL d i) (usW Q E i),by omega,by rw [e2,hj']⟩
theorem us_lend {F:Blk→Prop} {P:Program} {f:FuncId} {args:List Value} {v:Value} (hk:k≤10) (hr:RunsO (famS (recS (usL Q E c d k nm r))) P f args [] 0 (fun _=>v) (fun _=>[])):RunsO F P f args (usC Q E c d k nm r) 0 (fun _=>v) (fun _=>[none,none]) :=
  hr.lendQ (bs:=[]) (cs:=usC Q E c d k nm r) (o:=fun _=>[]) (nw:=fun _=>[]) (fun _=>rfl) (fun w _ hb=>us_fam hk hb) fun z hz j hj=>.inr (us_names hk hz j hj)
end
theorem sameS_ext {f f' g g':Nat→UInt8} {n m:Nat} (h1:∀ k,k < n→f k=f' k) (h2:∀ k,k < m→g k=g' k):sameS f n g m=sameS f' n g' m:=by
  unfold sameS
  rw [Bool.eq_iff_iff,decide_eq_true_iff,decide_eq_true_iff]
  constructor
  · rintro⟨rfl,h⟩
    exact⟨rfl,fun k hk=>by rw [← h1 k hk,← h2 k hk]; exact h k hk⟩
  · rintro⟨rfl,h⟩
    exact⟨rfl,fun k hk=>by rw [h1 k hk,h2 k hk]; exact h k hk⟩
def usB (Q:BytL) (E:Int) (i:Nat):BytL:=bytO 0 (usN Q E i) 0 (usW Q E i)
section
variable {Q:BytL} {E:Int} {c d k:Nat}
theorem usV_wf {i j:Nat} (hj:j < usN Q E i):(usV Q E c d i).wf j=usW Q E i j:=by rw [usV_pos (by omega)]; rfl
theorem elE_us {x y:BytL} {i:Nat} (hn:x.wn=y.wn) (hf:∀ j,j < x.wn→x.wf j=y.wf j):elE (usV Q E c d) x i=elE (usB Q E) y i:=by
  unfold elE
  rw [usV_wn,hn]
  exact sameS_ext (fun j hj=>usV_wf hj) (fun j hj=>hf j (by omega))
theorem inB_us {x y:BytL} (hn:x.wn=y.wn) (hf:∀ j,j < x.wn→x.wf j=y.wf j):inB (usV Q E c d) k x=inB (usB Q E) k y:=anyK_congr fun i _=>elE_us hn hf
theorem twB_us:twB (usV Q E c d) k=twB (usB Q E) k:=anyK_congr fun i _=>inB_us usV_wn fun j hj=>usV_wf (by rw [usV_wn] at hj; exact hj)
end
end Go.Eng
end
section
namespace Go.Eng
def uQ (q:BytL):BytL:=rsQ (rsQ q 0 18446744073709551615) (rsE q 0 18446744073709551615) 10
def uE (q:BytL):Int:=rsE (rsQ q 0 18446744073709551615) (rsE q 0 18446744073709551615) 10
def uNn (q:BytL):UInt64:=rsV (rsQ q 0 18446744073709551615) (rsE q 0 18446744073709551615) 10
def uN (q:BytL):Nat:=(uNn q).toNat
def uH (q:BytL):UInt64:=rsV q 0 18446744073709551615
def uD (q:BytL):Int:=endE (usS (uQ q) (uE q) (uN q)).1.wn (usS (uQ q) (uE q) (uN q)).2
def uB (q:BytL):Bool:=selB (inB (usB (uQ q) (uE q)) (uN q) (bytZ none 0)) true (twB (usB (uQ q) (uE q)) (uN q))
section
variable {Q R:BytL}
theorem SameB.uQ (h:SameB Q R):SameB (uQ Q) (Go.Eng.uQ R):=by
  unfold Go.Eng.uQ; rw [h.rsE]; exact(h.rsQ _ _).rsQ _ _
theorem SameB.uE (h:SameB Q R):uE Q=Go.Eng.uE R:=by
  unfold Go.Eng.uE; rw [h.rsE]; exact(h.rsQ _ _).rsE _ _
theorem SameB.uNn (h:SameB Q R):uNn Q=Go.Eng.uNn R:=by
  unfold Go.Eng.uNn; rw [h.rsE]; exact(h.rsQ _ _).rsV _ _
theorem SameB.uN (h:SameB Q R):uN Q=Go.Eng.uN R:=by unfold Go.Eng.uN; rw [h.uNn]
theorem SameB.uH (h:SameB Q R):uH Q=Go.Eng.uH R:=h.rsV _ _
theorem SameB.uD (h:SameB Q R):uD Q=Go.Eng.uD R:=by
  unfold Go.Eng.uD
  rw [h.uE,h.uN]
  obtain⟨h1,h2⟩:=h.uQ.us (Go.Eng.uE R) (Go.Eng.uN R)
  rw [h1.n,h2]
theorem SameB.usB (h:SameB Q R) (E:Int):usB Q E=Go.Eng.usB R E:=funext fun i=>by unfold Go.Eng.usB; rw [h.usN,h.usW]
theorem SameB.uB (h:SameB Q R):uB Q=Go.Eng.uB R:=by
  unfold Go.Eng.uB
  rw [h.uE,h.uN,h.uQ.usB]
end
theorem us_cp_V {q:BytL} (hq:OkB q) (a r c d:Nat):usV (uQ (recG (cpG q a r))) (uE (recG (cpG q a r))) c d=usV (uQ q) (uE q) c d:=by
  have h:=same_cp hq a r
  rw [h.uE]; exact h.uQ.usV _ _ _
theorem us_cp_P {q:BytL} (hq:OkB q) (a r c d k:Nat):plU (uQ (recG (cpG q a r))) (uE (recG (cpG q a r))) c d k=plU (uQ q) (uE q) c d k:=by
  have h:=same_cp hq a r
  rw [h.uE]; exact h.uQ.plU _ _ _ _
def unX (q:BytL):Int:=if uD q=0 then (if uB q=true then 31 else 0) else uD q
def unH (q:BytL):UInt64:=if unX q=0 then uH q else 0
def unL (q:BytL) (c d nm r:Nat):Grw BytL:=if unX q=0 then gsOf (uN q) (usV (uQ q) (uE q) c d) nm r else ⟨true,0,0,0,fun _=>bytZ none 0⟩
def unP (q:BytL) (c d:Nat):Option Blk:=if unX q=0 then plU (uQ q) (uE q) c d (uN q) else none
theorem unX_1 {q:BytL} (h:uD q≠0):unX q=uD q:=by unfold unX; rw [if_neg h]
theorem unX_2 {q:BytL} (h:uD q=0) (hb:uB q=true):unX q=31:=by unfold unX; rw [if_pos h,if_pos hb]
theorem unX_0 {q:BytL} (h:uD q=0) (hb:uB q=false):unX q=0:=by unfold unX; rw [if_pos h,hb]; rfl
theorem un_no {q:BytL} (h:unX q≠0):unH q=0∧(∀ c d nm r,unL q c d nm r=⟨true,0,0,0,fun _=>bytZ none 0⟩)∧∀ c d,unP q c d=none:=⟨if_neg h,fun _ _ _ _=>if_neg h,fun _ _=>if_neg h⟩
theorem un_yes {q:BytL} (h:unX q=0):unH q=uH q∧(∀ c d nm r,unL q c d nm r=gsOf (uN q) (usV (uQ q) (uE q) c d) nm r)∧∀ c d,unP q c d=plU (uQ q) (uE q) c d (uN q):=⟨if_pos h,fun _ _ _ _=>if_pos h,fun _ _=>if_pos h⟩
end Go.Eng
end
section
namespace Go.Proofs.YtmdpendnbkajdaaDoor
open Go Go.Eng
theorem equal_fam (x y:BytL) (hx:OkB x) (hy:OkB y):RunsF (famBB x y) Tryd.prog 56 [(Value.slice x.wa x.wn x.wc),(Value.slice y.wa y.wn y.wc)] [] 0 (fun _=>Value.bool (sameS x.wf x.wn y.wf y.wn)) (fun _=>[]) :=
  runsF_of_ev (F:=(famBB x y)) mix Tryd.func56 rfl rfl 400 (.reg (rg [.g]) (.reg (rg [.g,(.othF [] 0 0 (fun _=>(Value.string (strOf x.wf x.wn))) (fun _=>[])),.g,(.othF [] 0 0 (fun _=>(Value.string (strOf y.wf y.wn))) (fun _=>[])),(.as (Value.bool (strE (strOf x.wf x.wn) (strOf y.wf y.wn)))),.g]) .done)) [] [] rfl
    (Eq.mp (by kernel_rfl) (aI kV1 (aI (sk (aI (aT (SRunsF.mono (fun z hz=>(Or.inl hz:famBB x y z)) (srunF_toStr (P:=Tryd.prog) (src:=23) (dst:=9) (e:=5) (by kernel_rfl) (by kernel_rfl) (by kernel_rfl) x hx))) (sk (aI (aT (SRunsF.mono (fun z hz=>(Or.inr hz:famBB x y z)) (srunF_toStr (P:=Tryd.prog) (src:=23) (dst:=9) (e:=5) (by kernel_rfl) (by kernel_rfl) (by kernel_rfl) y hy))) (aI (aT (@is_eqlStr Tryd.prog 9 9 (.tmp 6) (.tmp 8) (strOf x.wf x.wn) (strOf y.wf y.wn))) kV1))))) (aT (eX (fun(ns:List Nat)=>ns.length=0∧((Value.bool (strE (strOf x.wf x.wn) (strOf y.wf y.wn))):Value)=(fun _=>Value.bool (sameS x.wf x.wn y.wf y.wn)) ns∧([]:List (Option Blk))=(fun _=>[]) ns) [] (aI (@rfl Nat 0) (aI ((show(Value.bool (strE (strOf x.wf x.wn) (strOf y.wf y.wn)))=Value.bool (sameS x.wf x.wn y.wf y.wn) from congrArg Value.bool (strE_of _ _ _ _))) (@rfl (List (Option Blk)) []))))))))
def lists_fam_S1 (x:BytS) (y:BytS) (x1:Nat):St:=⟨[(0,.v (Value.slice x.wa x.wn x.wc)),(1,.v (Value.slice y.wa y.wn y.wc)),(5,.v (nat x1))],[],0⟩
def lists_fam_R1 (x:BytS) (y:BytS) (x1:Nat):Prop:=(x1≤x.wn)∧(∀ k,k < x1→elS x y k=true)
def lists_fam_mu1 (x:BytS) (y:BytS) (x1:Nat):Nat:=x.wn - x1
theorem lists_fam (x y:BytS) (hx:OkS x) (hy:OkS y):RunsF (famSS x y) Tryd.prog 11 [(Value.slice x.wa x.wn x.wc),(Value.slice y.wa y.wn y.wc)] [] 0 (fun _=>Value.bool (listsB x y)) (fun _=>[]) :=
  runsF_of_ev (F:=(famSS x y)) mix Tryd.func11 rfl rfl 400 (.reg (rg [.g]) (.reg (rg [.g,(.as (nat x.wn)),.g,(.as (nat y.wn)),(.as (Value.bool (!(decide (x.wn=y.wn)))))]) (.br (.reg (rg [.g]) .done) (.reg (rg [.g]) (.inv [0,1,5] [] 0 (lists_fam_R1 x y) (lists_fam_S1 x y) (lists_fam_mu1 x y) (0:Nat) (fun(x1:Nat)=>(.reg (rg [.g,.g,(.as (nat x.wn)),(.as (Value.bool (decide (x1 < x.wn))))]) (.br (.openr (bysB x) (.openr (bysB y) (.reg (rg [.g,.g,(.as (ptr x.wb (x.wo+x1*1))),(.ld 0 (.tab x1 0)),.g,.g,(.as (ptr y.wb (y.wo+x1*1))),(.ld 1 (.tab x1 0)),(.callF [] 0 0 (fun _=>(Value.bool (elS x y x1))) (fun _=>[])),.g]) (.br (.reg (rg [.g]) .done) (.reg (rg [.g,(.as (nat (x1+1))),.g]) .done))))) (.reg (rg [.g]) .done))))))))) [] [] rfl
    (have f0:=hx.len; have f1:=hy.len; Eq.mp (by kernel_rfl) (aI kV1 (aI (sk (aI (aT (@is_len Tryd.prog 35 23 (.tmp 6) (by kernel_rfl) x.wa x.wn x.wc)) (sk (aI (aT (@is_len Tryd.prog 35 23 (.tmp 8) (by kernel_rfl) y.wa y.wn y.wc)) (aI (aT (@is_neqn Tryd.prog 3 3 (.tmp 7) (.tmp 9)  x.wn y.wn)) tV))))) (aT (aI (fun(h1:(!(decide (x.wn=y.wn)))=true)=>have f2:¬ (x.wn=y.wn):=(oF (bnot_t h1)); aI kV1 (aT (eX (fun(ns:List Nat)=>ns.length=0∧((Value.bool false):Value)=(fun _=>Value.bool (listsB x y)) ns∧([]:List (Option Blk))=(fun _=>[]) ns) [] (aI (@rfl Nat 0) (aI ((show(Value.bool false)=Value.bool (listsB x y) from congrArg Value.bool (by first | exact lists_len (by omega) | exact lists_not (by omega) (by assumption)))) (@rfl (List (Option Blk)) [])))))) (fun(h1:(!(decide (x.wn=y.wn)))=false)=>have f2:(x.wn=y.wn):=(oT (bnot_f h1)); aI kV1 (aI (show(lists_fam_R1 x y) (0:Nat) from(show(0≤x.wn)∧(∀ k,k < 0→elS x y k=true) from by exact⟨by omega,fun k hk=>absurd hk (by omega)⟩)) (aI (@rfl St ((lists_fam_S1 x y) (0:Nat))) (fun(x1:Nat) (hx1:(lists_fam_R1 x y) x1)=>have B0:x1≤x.wn:=hx1.1; have B1:∀ k,k < x1→elS x y k=true:=hx1.2; aI (sK2 (aI (aT (@is_len Tryd.prog 35 23 (.tmp 12) (by kernel_rfl) x.wa x.wn x.wc)) (aI (aT (@is_lssn Tryd.prog 3 3 (.tmp 11) (.tmp 13)  x1 x.wn)) tV))) (aT (aI (fun(h2:(decide (x1 < x.wn))=true)=>have f5:=(oT h2); aI (Or.inl (Or.inl ⟨(show 0 < x.wn from by omega),rfl⟩):famSS x y (bysB x)) (aI (Or.inr (Or.inl ⟨(show 0 < y.wn from by omega),rfl⟩):famSS x y (bysB y)) (aI (sK2 (aI (aT (@is_ixSq Tryd.prog 35 23 (.tmp 17) (.tmp 18) 1 (by kernel_rfl) (by kernel_rfl) x.wb x.wo x.wn x.wc x1 x.wa (hx.ad (show 0 < x.wn from by omega)) (show x1 < x.wn from by omega))) (aI (aT (aI (show x1 < x.wn from by omega) (@rfl Value (ptr x.wb (x.wo+x1*1))))) (sK2 (aI (aT (@is_ixSq Tryd.prog 35 23 (.tmp 21) (.tmp 22) 1 (by kernel_rfl) (by kernel_rfl) y.wb y.wo y.wn y.wc x1 y.wa (hy.ad (show 0 < y.wn from by omega)) (show x1 < y.wn from by omega))) (aI (aT (aI (show x1 < y.wn from by omega) (@rfl Value (ptr y.wb (y.wo+x1*1))))) (aI (aT (RunsF.mono (ss_el (show x1 < x.wn from by omega) (show x1 < y.wn from by omega)) (same_fam (x.wf x1) (y.wf x1) (hx.el _ (show x1 < x.wn from by omega)) (hy.el _ (show x1 < y.wn from by omega))))) kV1))))))) (aT (aI (fun(h3:(!(elS x y x1))=true)=>have f6:(elS x y x1)=false:=(bnot_t h3); aI kV1 (aT (eX (fun(ns:List Nat)=>ns.length=0∧((Value.bool false):Value)=(fun _=>Value.bool (listsB x y)) ns∧([]:List (Option Blk))=(fun _=>[]) ns) [] (aI (@rfl Nat 0) (aI ((show(Value.bool false)=Value.bool (listsB x y) from congrArg Value.bool (by first | exact lists_len (by omega) | exact lists_not (by omega) (by assumption)))) (@rfl (List (Option Blk)) [])))))) (fun(h3:(!(elS x y x1))=false)=>have f6:(elS x y x1)=true:=(bnot_f h3); aI (sk (aI (aT (@is_addn Tryd.prog 3 3 (.tmp 15) (.const (.int .i64 1))  x1 1 (show x1+1≤9223372036854775807 from by omega))) kV1)) ((rnd (lists_fam_R1 x y) (lists_fam_S1 x y) (lists_fam_mu1 x y) x1 (x1+1:Nat) (show(lists_fam_R1 x y) (x1+1:Nat)∧(lists_fam_mu1 x y) (x1+1:Nat) < (lists_fam_mu1 x y) x1 from(show(((x1+1)≤x.wn)∧(∀ k,k < (x1+1)→elS x y k=true))∧(x.wn - (x1+1)) < (x.wn - x1) from by exact⟨⟨by omega,lists_next B1 (by assumption)⟩,by omega⟩)))))))))) (fun(h2:(decide (x1 < x.wn))=false)=>have f5:=(oF h2); aI kV1 (aT (eX (fun(ns:List Nat)=>ns.length=0∧((Value.bool true):Value)=(fun _=>Value.bool (listsB x y)) ns∧([]:List (Option Blk))=(fun _=>[]) ns) [] (aI (@rfl Nat 0) (aI ((show(Value.bool true)=Value.bool (listsB x y) from congrArg Value.bool (by exact lists_yes (by omega) (by omega) B1))) (@rfl (List (Option Blk)) [])))))))))))))))))
theorem has1_fam (b:Nat) (x y:BytL) (hx:OkB x) (hy:OkB y):RunsF (famBB x y) Tryd.prog 55 [(Value.slice x.wa x.wn x.wc),(ptr b 0)] [⟨b,false,0,(.lit [(Value.slice y.wa y.wn y.wc)])⟩] 0 (fun _=>Value.bool (sameS x.wf x.wn y.wf y.wn)) (fun _=>[some ⟨b,false,0,(.lit [(Value.slice y.wa y.wn y.wc)])⟩]) :=
  runsF_of_ev (F:=(famBB x y)) mix Tryd.func55 rfl rfl 400 (.reg (rg [.g]) (.reg (rg [.g,(.ld 0 (.lit 0)),(.callF [] 0 0 (fun _=>(Value.bool (sameS x.wf x.wn y.wf y.wn))) (fun _=>[])),.g]) .done)) [] [] rfl
    (have f0:=hx.len; have f1:=hy.len; Eq.mp (by kernel_rfl) (aI kV1 (aI (sk (aI (aT (ad b 0)) (aI (aT (RunsF.lendP (F':=(famBB x y)) (sh_or (sh_sub (fun z hz=>(Or.inl hz:famBB x y z))) (sh_sub (fun z hz=>(Or.inr hz:famBB x y z)))) (nm_or (nm_sub (fun z hz=>(Or.inl hz:famBB x y z))) (nm_sub (fun z hz=>(Or.inr hz:famBB x y z)))) (equal_fam x y hx hy))) kV1))) (aT (eX (fun(ns:List Nat)=>ns.length=0∧((Value.bool (sameS x.wf x.wn y.wf y.wn)):Value)=(fun _=>Value.bool (sameS x.wf x.wn y.wf y.wn)) ns∧([some ⟨b,false,0,(.lit [(Value.slice y.wa y.wn y.wc)])⟩]:List (Option Blk))=(fun _=>[some ⟨b,false,0,(.lit [(Value.slice y.wa y.wn y.wc)])⟩]) ns) [] (aI (@rfl Nat 0) (aI (@rfl Value (Value.bool (sameS x.wf x.wn y.wf y.wn))) (@rfl (List (Option Blk)) [some ⟨b,false,0,(.lit [(Value.slice y.wa y.wn y.wc)])⟩]))))))))
def rin_fam_S1 (l:BytS) (y:BytL) (x1:Nat):St:=⟨[(0,.v (Value.slice l.wa l.wn l.wc)),(1,.v (Value.slice y.wa y.wn y.wc)),(5,.v (nat x1))],[],0⟩
def rin_fam_R1 (l:BytS) (y:BytL) (x1:Nat):Prop:=(x1≤l.wn)∧(∀ k,k < x1→elE l.wf y k=false)
def rin_fam_mu1 (l:BytS) (y:BytL) (x1:Nat):Nat:=l.wn - x1
theorem rin_fam (l:BytS) (y:BytL) (hl:OkS l) (hy:OkB y):RunsF (famSB l y) Tryd.prog 48 [(Value.slice l.wa l.wn l.wc),(Value.slice y.wa y.wn y.wc)] [] 0 (fun _=>Value.bool (inB l.wf l.wn y)) (fun _=>[]) :=
  runsF_of_ev (F:=(famSB l y)) mix Tryd.func48 rfl rfl 400 (.reg (rg [.g]) (.reg (rg [.g]) (.inv [0,1,5] [] 0 (rin_fam_R1 l y) (rin_fam_S1 l y) (rin_fam_mu1 l y) (0:Nat) (fun(x1:Nat)=>(.reg (rg [.g,.g,(.as (nat l.wn)),(.as (Value.bool (decide (x1 < l.wn))))]) (.br (.openr (bysB l) (.reg (rg [.g,.g,(.as (ptr l.wb (l.wo+x1*1))),(.ld 0 (.tab x1 0)),.g,(.callF [] 0 0 (fun _=>(Value.bool (elE l.wf y x1))) (fun _=>[]))]) (.br (.reg (rg [.g]) .done) (.reg (rg [.g,(.as (nat (x1+1))),.g]) .done)))) (.reg (rg [.g]) .done))))))) [] [] rfl
    (have f0:=hl.len; have f1:=hy.len; Eq.mp (by kernel_rfl) (aI kV1 (aI kV1 (aI (show(rin_fam_R1 l y) (0:Nat) from(show(0≤l.wn)∧(∀ k,k < 0→elE l.wf y k=false) from by exact⟨by omega,fun k hk=>absurd hk (by omega)⟩)) (aI (@rfl St ((rin_fam_S1 l y) (0:Nat))) (fun(x1:Nat) (hx1:(rin_fam_R1 l y) x1)=>have B0:x1≤l.wn:=hx1.1; have B1:∀ k,k < x1→elE l.wf y k=false:=hx1.2; aI (sK2 (aI (aT (@is_len Tryd.prog 35 23 (.tmp 7) (by kernel_rfl) l.wa l.wn l.wc)) (aI (aT (@is_lssn Tryd.prog 3 3 (.tmp 6) (.tmp 8)  x1 l.wn)) tV))) (aT (aI (fun(h1:(decide (x1 < l.wn))=true)=>have f4:=(oT h1); aI (Or.inl (Or.inl ⟨(show 0 < l.wn from by omega),rfl⟩):famSB l y (bysB l)) (aI (sK2 (aI (aT (@is_ixSq Tryd.prog 35 23 (.tmp 12) (.tmp 13) 1 (by kernel_rfl) (by kernel_rfl) l.wb l.wo l.wn l.wc x1 l.wa (hl.ad (show 0 < l.wn from by omega)) (show x1 < l.wn from by omega))) (aI (aT (aI (show x1 < l.wn from by omega) (@rfl Value (ptr l.wb (l.wo+x1*1))))) (sk (aI (aT (RunsF.mono (sb_el (show x1 < l.wn from by omega)) (same_fam (l.wf x1) y (hl.el _ (show x1 < l.wn from by omega)) hy))) tV))))) (aT (aI (fun(h2:(elE l.wf y x1)=true)=>aI kV1 (aT (eX (fun(ns:List Nat)=>ns.length=0∧((Value.bool true):Value)=(fun _=>Value.bool (inB l.wf l.wn y)) ns∧([]:List (Option Blk))=(fun _=>[]) ns) [] (aI (@rfl Nat 0) (aI ((show(Value.bool true)=Value.bool (inB l.wf l.wn y) from congrArg Value.bool (by first | exact any_yes (by omega) (by assumption) | exact any_no (by omega) B1))) (@rfl (List (Option Blk)) [])))))) (fun(h2:(elE l.wf y x1)=false)=>aI (sk (aI (aT (@is_addn Tryd.prog 3 3 (.tmp 10) (.const (.int .i64 1))  x1 1 (show x1+1≤9223372036854775807 from by omega))) kV1)) ((rnd (rin_fam_R1 l y) (rin_fam_S1 l y) (rin_fam_mu1 l y) x1 (x1+1:Nat) (show(rin_fam_R1 l y) (x1+1:Nat)∧(rin_fam_mu1 l y) (x1+1:Nat) < (rin_fam_mu1 l y) x1 from(show(((x1+1)≤l.wn)∧(∀ k,k < (x1+1)→elE l.wf y k=false))∧(l.wn - (x1+1)) < (l.wn - x1) from by exact⟨⟨by omega,any_next B1 (by assumption)⟩,by omega⟩))))))))) (fun(h1:(decide (x1 < l.wn))=false)=>have f4:=(oF h1); aI kV1 (aT (eX (fun(ns:List Nat)=>ns.length=0∧((Value.bool false):Value)=(fun _=>Value.bool (inB l.wf l.wn y)) ns∧([]:List (Option Blk))=(fun _=>[]) ns) [] (aI (@rfl Nat 0) (aI ((show(Value.bool false)=Value.bool (inB l.wf l.wn y) from congrArg Value.bool (by first | exact any_yes (by omega) (by assumption) | exact any_no (by omega) B1))) (@rfl (List (Option Blk)) []))))))))))))))
def ixh_fam_S1 (b:Nat) (l:BytS) (y:BytL) (x1:Nat):St:=⟨[(0,.v (Value.slice l.wa l.wn l.wc)),(1,.v (Value.func (.func 55) #[] #[(ptr b 0)])),(7,.v (nat l.wn)),(8,.v (nat x1))],[(0,some ⟨b,false,0,(.lit [(Value.slice y.wa y.wn y.wc)])⟩)],1⟩
def ixh_fam_R1 (b:Nat) (l:BytS) (y:BytL) (x1:Nat):Prop:=(x1≤l.wn)∧(∀ k,k < x1→elE l.wf y k=false)
def ixh_fam_mu1 (b:Nat) (l:BytS) (y:BytL) (x1:Nat):Nat:=l.wn - x1
theorem ixh_fam (b:Nat) (l:BytS) (y:BytL) (hl:OkS l) (hy:OkB y):RunsF (famSB l y) Tryd.prog 70 [(Value.slice l.wa l.wn l.wc),(Value.func (.func 55) #[] #[(ptr b 0)])] [⟨b,false,0,(.lit [(Value.slice y.wa y.wn y.wc)])⟩] 0 (fun _=>int (idxF (elE l.wf y) l.wn)) (fun _=>[some ⟨b,false,0,(.lit [(Value.slice y.wa y.wn y.wc)])⟩]) :=
  runsF_of_ev (F:=(famSB l y)) mix Tryd.func70 rfl rfl 400 (.reg (rg [.g]) (.reg (rg [.g,(.as (nat l.wn)),.g]) (.inv [0,1,7,8] [0] 1 (ixh_fam_R1 b l y) (ixh_fam_S1 b l y) (ixh_fam_mu1 b l y) (0:Nat) (fun(x1:Nat)=>(.reg (rg [(.as (Value.bool (decide (x1 < l.wn))))]) (.br (.reg (rg [.g,.g]) (.openr (bysB l) (.reg (rg [.g,.g,.g,(.as (ptr l.wb (l.wo+x1*1))),(.ld 1 (.tab x1 0)),(.callF [(0,true)] 0 0 (fun _=>(Value.bool (elE l.wf y x1))) (fun _=>[none]))]) (.br (.reg (rg [.g,.g]) .done) (.reg (rg [(.as (nat (x1+1))),.g]) .done))))) (.reg (rg [.g]) .done))))))) [] [] rfl
    (have f0:=hl.len; have f1:=hy.len; Eq.mp (by kernel_rfl) (aI kV1 (aI (sk (aI (aT (@is_len Tryd.prog 35 23 (.tmp 6) (by kernel_rfl) l.wa l.wn l.wc)) kV1)) (aI (show(ixh_fam_R1 b l y) (0:Nat) from(show(0≤l.wn)∧(∀ k,k < 0→elE l.wf y k=false) from by exact⟨by omega,fun k hk=>absurd hk (by omega)⟩)) (aI (@rfl St ((ixh_fam_S1 b l y) (0:Nat))) (fun(x1:Nat) (hx1:(ixh_fam_R1 b l y) x1)=>have B0:x1≤l.wn:=hx1.1; have B1:∀ k,k < x1→elE l.wf y k=false:=hx1.2; aI (aI (aT (@is_lssn Tryd.prog 3 3 (.tmp 8) (.tmp 7)  x1 l.wn)) tV) (aT (aI (fun(h1:(decide (x1 < l.wn))=true)=>have f4:=(oT h1); aI kV2 (aI (Or.inl (Or.inl ⟨(show 0 < l.wn from by omega),rfl⟩):famSB l y (bysB l)) (aI (sK3 (aI (aT (@is_ixSq Tryd.prog 35 23 (.tmp 12) (.tmp 13) 1 (by kernel_rfl) (by kernel_rfl) l.wb l.wo l.wn l.wc x1 l.wa (hl.ad (show 0 < l.wn from by omega)) (show x1 < l.wn from by omega))) (aI (aT (aI (show x1 < l.wn from by omega) (@rfl Value (ptr l.wb (l.wo+x1*1))))) (aI (aT (RunsF.mono (sb_el (show x1 < l.wn from by omega)) (RunsF.darkF [true] (has1_fam b (l.wf x1) y (hl.el _ (show x1 < l.wn from by omega)) hy)))) tV)))) (aT (aI (fun(h2:(elE l.wf y x1)=true)=>aI kV2 (aT (eX (fun(ns:List Nat)=>ns.length=0∧((nat x1):Value)=(fun _=>int (idxF (elE l.wf y) l.wn)) ns∧([some ⟨b,false,0,(.lit [(Value.slice y.wa y.wn y.wc)])⟩]:List (Option Blk))=(fun _=>[some ⟨b,false,0,(.lit [(Value.slice y.wa y.wn y.wc)])⟩]) ns) [] (aI (@rfl Nat 0) (aI ((show(nat x1)=int (idxF (elE l.wf y) l.wn) from by first | exact idx_ret (by omega) (by assumption) B1 | exact idx_end (by omega) B1)) (@rfl (List (Option Blk)) [some ⟨b,false,0,(.lit [(Value.slice y.wa y.wn y.wc)])⟩])))))) (fun(h2:(elE l.wf y x1)=false)=>aI (aI (aT (@is_addn Tryd.prog 3 3 (.tmp 8) (.const (.int .i64 1))  x1 1 (show x1+1≤9223372036854775807 from by omega))) kV1) ((rnd (ixh_fam_R1 b l y) (ixh_fam_S1 b l y) (ixh_fam_mu1 b l y) x1 (x1+1:Nat) (show(ixh_fam_R1 b l y) (x1+1:Nat)∧(ixh_fam_mu1 b l y) (x1+1:Nat) < (ixh_fam_mu1 b l y) x1 from(show(((x1+1)≤l.wn)∧(∀ k,k < (x1+1)→elE l.wf y k=false))∧(l.wn - (x1+1)) < (l.wn - x1) from by exact⟨⟨by omega,any_next B1 (by assumption)⟩,by omega⟩)))))))))) (fun(h1:(decide (x1 < l.wn))=false)=>have f4:=(oF h1); aI kV1 (aT (eX (fun(ns:List Nat)=>ns.length=0∧((int (-1)):Value)=(fun _=>int (idxF (elE l.wf y) l.wn)) ns∧([some ⟨b,false,0,(.lit [(Value.slice y.wa y.wn y.wc)])⟩]:List (Option Blk))=(fun _=>[some ⟨b,false,0,(.lit [(Value.slice y.wa y.wn y.wc)])⟩]) ns) [] (aI (@rfl Nat 0) (aI ((show(int (-1))=int (idxF (elE l.wf y) l.wn) from by first | exact idx_ret (by omega) (by assumption) B1 | exact idx_end (by omega) B1)) (@rfl (List (Option Blk)) [some ⟨b,false,0,(.lit [(Value.slice y.wa y.wn y.wc)])⟩]))))))))))))))
theorem cnh_fam (b:Nat) (l:BytS) (y:BytL) (hl:OkS l) (hy:OkB y):RunsF (famSB l y) Tryd.prog 54 [(Value.slice l.wa l.wn l.wc),(Value.func (.func 55) #[] #[(ptr b 0)])] [⟨b,false,0,(.lit [(Value.slice y.wa y.wn y.wc)])⟩] 0 (fun _=>Value.bool (inB l.wf l.wn y)) (fun _=>[some ⟨b,false,0,(.lit [(Value.slice y.wa y.wn y.wc)])⟩]) :=
  runsF_of_ev (F:=(famSB l y)) mix Tryd.func54 rfl rfl 400 (.reg (rg [.g]) (.reg (rg [.g,.g,(.callF [(0,true)] 0 0 (fun _=>(int (idxF (elE l.wf y) l.wn))) (fun _=>[none])),.g,.g]) .done)) [] [] rfl
    (have f0:=hl.len; have f1:=hy.len; Eq.mp (by kernel_rfl) (aI kV1 (aI (sK2 (aI (aT (RunsF.darkF [true] (ixh_fam b l y hl hy))) kV2)) (aT (eX (fun(ns:List Nat)=>ns.length=0∧((Value.bool (decide (((idxF (elE l.wf y) l.wn):Int) ≥ 0))):Value)=(fun _=>Value.bool (inB l.wf l.wn y)) ns∧([some ⟨b,false,0,(.lit [(Value.slice y.wa y.wn y.wc)])⟩]:List (Option Blk))=(fun _=>[some ⟨b,false,0,(.lit [(Value.slice y.wa y.wn y.wc)])⟩]) ns) [] (aI (@rfl Nat 0) (aI ((show(Value.bool (decide (((idxF (elE l.wf y) l.wn):Int) ≥ 0)))=Value.bool (inB l.wf l.wn y) from congrArg Value.bool (idxF_ge _ _))) (@rfl (List (Option Blk)) [some ⟨b,false,0,(.lit [(Value.slice y.wa y.wn y.wc)])⟩]))))))))
theorem has_fam (l:BytS) (y:BytL) (hl:OkS l) (hy:OkB y):RunsF (famSB l y) Tryd.prog 35 [(Value.slice l.wa l.wn l.wc),(Value.slice y.wa y.wn y.wc)] [] 0 (fun _=>Value.bool (inB l.wf l.wn y)) (fun _=>[]) :=
  runsF_of_ev (F:=(famSB l y)) mix Tryd.func35 rfl rfl 400 (.regn (rg [.new,.g]) (more (fun n1=>fun _=>(.reg (rg [.g,.g,(.callF [(0,true)] 0 0 (fun _=>(Value.bool (inB l.wf l.wn y))) (fun _=>[none])),.g]) .done)))) [] [] rfl
    (have f0:=hl.len; have f1:=hy.len; Eq.mp (by kernel_rfl) (fun(n1:Nat)=>aI kV2 (aI (sK2 (aI (aT (RunsF.darkF [true] (cnh_fam n1 l y hl hy))) kV1)) (aT (eX (fun(ns:List Nat)=>ns.length=0∧((Value.bool (inB l.wf l.wn y)):Value)=(fun _=>Value.bool (inB l.wf l.wn y)) ns∧([]:List (Option Blk))=(fun _=>[]) ns) [] (aI (@rfl Nat 0) (aI (@rfl Value (Value.bool (inB l.wf l.wn y))) (@rfl (List (Option Blk)) []))))))))
end Go.Proofs.YtmdpendnbkajdaaDoor
end
section
namespace Go.Proofs.YtmdpendnbkajdaaDoor
open Go Go.Eng
def twice_fam_S1 (l:BytS) (x1:Nat):St:=⟨[(0,.v (Value.slice l.wa l.wn l.wc)),(5,.v (Value.slice l.wa l.wn l.wc)),(6,.v (nat l.wn)),(7,.v (nat x1))],[],0⟩
def twice_fam_R1 (l:BytS) (x1:Nat):Prop:=(x1≤l.wn)∧(∀ k,k < x1→(fun i=>inB l.wf i (l.wf i)) k=false)
def twice_fam_mu1 (l:BytS) (x1:Nat):Nat:=l.wn - x1
theorem twice_fam (l:BytS) (hl:OkS l):RunsF (famS l) Tryd.prog 36 [(Value.slice l.wa l.wn l.wc)] [] 0 (fun _=>Value.bool (twB l.wf l.wn)) (fun _=>[]) :=
  runsF_of_ev (F:=(famS l)) mix Tryd.func36 rfl rfl 400 (.reg (rg [.g]) (.reg (rg [.g,(.as (nat l.wn)),.g]) (.inv [0,5,6,7] [] 0 (twice_fam_R1 l) (twice_fam_S1 l) (twice_fam_mu1 l) (0:Nat) (fun(x1:Nat)=>(.reg (rg [(.as (Value.bool (decide (x1 < l.wn))))]) (.br (.openr (bysB l) (.reg (rg [.g,(.as (ptr l.wb (l.wo+x1*1))),(.ld 0 (.tab x1 0)),.g,.g]) (.reg (rg [.g,.g,(.as (Value.slice l.wa x1 l.wc)),.g,(.callF [] 0 0 (fun _=>(Value.bool (inB l.wf x1 (l.wf x1)))) (fun _=>[]))]) (.br (.reg (rg [.g]) .done) (.reg (rg [(.as (nat (x1+1))),.g]) .done))))) (.reg (rg [.g]) .done))))))) [] [] rfl
    (have f0:l.wn≤l.wc∧l.wn≤9223372036854775807:=⟨hl.cap,hl.len⟩; Eq.mp (by kernel_rfl) (aI kV1 (aI (sk (aI (aT (@is_len Tryd.prog 35 23 (.tmp 5) (by kernel_rfl) l.wa l.wn l.wc)) kV1)) (aI (show(twice_fam_R1 l) (0:Nat) from(show(0≤l.wn)∧(∀ k,k < 0→(fun i=>inB l.wf i (l.wf i)) k=false) from by exact⟨by omega,fun k hk=>absurd hk (by omega)⟩)) (aI (@rfl St ((twice_fam_S1 l) (0:Nat))) (fun(x1:Nat) (hx1:(twice_fam_R1 l) x1)=>have B0:x1≤l.wn:=hx1.1; have B1:∀ k,k < x1→(fun i=>inB l.wf i (l.wf i)) k=false:=hx1.2; aI (aI (aT (@is_lssn Tryd.prog 3 3 (.tmp 7) (.tmp 6)  x1 l.wn)) tV) (aT (aI (fun(h1:(decide (x1 < l.wn))=true)=>have f3:=(oT h1); aI (Or.inl ⟨(show 0 < l.wn from by omega),rfl⟩:famS l (bysB l)) (aI (sk (aI (aT (@is_ixSq Tryd.prog 35 23 (.tmp 5) (.tmp 7) 1 (by kernel_rfl) (by kernel_rfl) l.wb l.wo l.wn l.wc x1 l.wa (hl.ad (show 0 < l.wn from by omega)) (show x1 < l.wn from by omega))) (aI (aT (aI (show x1 < l.wn from by omega) (@rfl Value (ptr l.wb (l.wo+x1*1))))) kV2))) (aI (sK2 (aI (aT (@is_slqTo Tryd.prog 35 23 (.tmp 12) (.tmp 13) (by kernel_rfl) 1 (by kernel_rfl) l.wa l.wn l.wc x1 (show x1≤l.wc from by omega))) (sk (aI (aT (RunsF.lendP (F':=famS l) (sh_tw (show x1 < l.wn from by omega)) (nm_tw (show x1 < l.wn from by omega)) (has_fam (bysT l x1) (l.wf x1) (oks_to hl (Nat.le_of_lt (show x1 < l.wn from by omega))) (hl.el _ (show x1 < l.wn from by omega))))) tV)))) (aT (aI (fun(h2:(inB l.wf x1 (l.wf x1))=true)=>aI kV1 (aT (eX (fun(ns:List Nat)=>ns.length=0∧((Value.bool true):Value)=(fun _=>Value.bool (twB l.wf l.wn)) ns∧([]:List (Option Blk))=(fun _=>[]) ns) [] (aI (@rfl Nat 0) (aI ((show(Value.bool true)=Value.bool (twB l.wf l.wn) from congrArg Value.bool (by first | exact any_yes (by omega) (by assumption) | exact any_no (by omega) B1))) (@rfl (List (Option Blk)) [])))))) (fun(h2:(inB l.wf x1 (l.wf x1))=false)=>aI (aI (aT (@is_addn Tryd.prog 3 3 (.tmp 7) (.const (.int .i64 1))  x1 1 (show x1+1≤9223372036854775807 from by omega))) kV1) ((rnd (twice_fam_R1 l) (twice_fam_S1 l) (twice_fam_mu1 l) x1 (x1+1:Nat) (show(twice_fam_R1 l) (x1+1:Nat)∧(twice_fam_mu1 l) (x1+1:Nat) < (twice_fam_mu1 l) x1 from(show(((x1+1)≤l.wn)∧(∀ k,k < (x1+1)→(fun i=>inB l.wf i (l.wf i)) k=false))∧(l.wn - (x1+1)) < (l.wn - x1) from by exact⟨⟨by omega,any_next (p:=fun i=>inB l.wf i (l.wf i)) B1 (by assumption)⟩,by omega⟩)))))))))) (fun(h1:(decide (x1 < l.wn))=false)=>have f3:=(oF h1); aI kV1 (aT (eX (fun(ns:List Nat)=>ns.length=0∧((Value.bool false):Value)=(fun _=>Value.bool (twB l.wf l.wn)) ns∧([]:List (Option Blk))=(fun _=>[]) ns) [] (aI (@rfl Nat 0) (aI ((show(Value.bool false)=Value.bool (twB l.wf l.wn) from congrArg Value.bool (by first | exact any_yes (by omega) (by assumption) | exact any_no (by omega) B1))) (@rfl (List (Option Blk)) []))))))))))))))
theorem one23:OneC Tryd.prog 23 (.slice none 0 0) 24:=oneC_of (by kernel_rfl) rfl
theorem agg23:AggC Tryd.prog 23 [Value.slice none 0 0] 1 24:=aggC_of (z:=.slice none 0 0) (by kernel_rfl) rfl rfl (by decide)
end Go.Proofs.YtmdpendnbkajdaaDoor
end
section
namespace Go.Proofs.YtmdpendnbkajdaaDoor
open Go Go.Eng
theorem rbytes_v (r:Nat) (q:BytL) (e m:Int) (hq:OkB q) (hl:q.wn≤100000) (hm:m≤9223372036854775807):RunsF (famB q) Tryd.prog 33 [ptr r 0,int m] [⟨r,true,0,.lit [slqV q,int e]⟩] 2 (fun ns=>slqV (rbV q e m (ns.getD 0 0) (ns.getD 1 0))) (fun ns=>[some ⟨r,true,0,.lit [slqV (rbQ q e m),int (rbE q e m)]⟩,rbK q e m (ns.getD 0 0) (ns.getD 1 0)]):=by
  by_cases h0:0 < rbN q e m
  · simp only [rbV,rbK,if_pos h0]
    exact rbytes_p r q e m hq hl hm h0
  · simp only [rbV,rbK,if_neg h0]
    exact RunsO.toF (bs:=[⟨r,true,0,.lit [slqV q,int e]⟩]) ((rbytes_z r q e m hq hl hm h0).toO.as (.refl _) (fun ns=>[ns.getD 0 0,0]) fun ns hns=>⟨rfl,rfl,.cons _ (.dn (.zz _)),⟨rfl,tV⟩⟩)
theorem new_G (q:BytL) (hq:OkB q) (hl:q.wn≤140737488355328):RunsO (famB q) Tryd.prog 31 [slqV q] [] 3 (fun ns=>ptr (ns.getD 0 0) 0) (fun ns=>[some ⟨ns.getD 0 0,true,0,.lit [gsV (cpG q (ns.getD 1 0) (ns.getD 2 0)),int 0]⟩,gsE u8C [u8 0] 1 (cpG q (ns.getD 1 0) (ns.getD 2 0))]):=by
  rcases Nat.eq_zero_or_pos q.wn with h0 | h0
  · cases hA:q.wa with
    | none =>
      have e1:slqV q = .slice none 0 q.wc:=by unfold slqV; rw [hA,h0]
      have e2:∀ a r,cpG q a r=⟨true,a,0,r,q.wf⟩:=fun a r=>by unfold cpG; rw [hA,h0]; rfl
      rw [e1]
      simp only [e2]
      exact(new_zn q.wc).toF.toO.as (.zz _) (fun ns=>[ns.getD 0 0,0,0]) fun ns hns=>⟨rfl,rfl,.cons _ (.dn (.zz _)),⟨rfl,tV⟩⟩
    | some A =>
      have e1:slqV q = .slice (some A) 0 q.wc:=by unfold slqV; rw [hA,h0]
      have e2:∀ a r,cpG q a r=⟨false,a,0,r,q.wf⟩:=fun a r=>by unfold cpG; rw [hA,h0]; rfl
      rw [e1]
      simp only [e2,gsE_own8]
      refine(new_zs A q.wc).toF.toO.as (.zz _) (fun ns=>[ns.getD 0 0,ns.getD 1 0,0]) fun ns hns=>⟨rfl,rfl,?_,⟨rfl,rfl,tV⟩⟩
      refine .cons _ ?_
      show Sub [some ⟨ns.getD 1 0,true,0,spr (0+0) 0 (fun k=>u8 (q.wf k)) (u8 0)⟩] _
      rw [spr_as (n:=0) (f:=fun k=>u8 (q.wf k)) (g:=fun k=>u8 ((fun _=>0:Nat→UInt8) k)) (fun k hk=>absurd hk (Nat.not_lt_zero k))]
      exact .refl _
  · have e2:∀ a r,cpG q a r=⟨false,a,q.wn,r,q.wf⟩:=fun a r=>by unfold cpG; rw [hq.ad h0]; rfl
    simp only [e2,gsE_own8]
    exact(new_pos q hq h0 hl).toO
theorem rend_as {F:Blk→Prop} (r:Nat) (q:BytL) (e v:Int) (he:endE q.wn e=v):RunsO F Tryd.prog 34 [ptr r 0] [some ⟨r,false,0,.lit [slqV q,int e]⟩] 0 (fun _=>int v) (fun _=>[none]):=by
  subst he
  exact(rend_runs r q e).toF.toO.as (.refl _) id fun ns hns=>⟨hns,rfl,.dr _ (.zz _),tV⟩
end Go.Proofs.YtmdpendnbkajdaaDoor
end
section
namespace Go.Proofs.YtmdpendnbkajdaaDoor
open Go Go.Eng
def yz (q:BytL) (a b:Nat):BytL:=uQ (recG (cpG q a b))
def ez (q:BytL) (a b:Nat):Int:=uE (recG (cpG q a b))
def uz (q:BytL) (a b:Nat):Nat→BytL × Int:=usS (yz q a b) (ez q a b)
def nz (q:BytL) (a b:Nat):UInt64:=rsV (rsQ (recG (cpG q a b)) 0 18446744073709551615) (rsE (recG (cpG q a b)) 0 18446744073709551615) 10
def rz (q:BytL) (a b k c d:Nat):BytL:=rbV (uz q a b k).1 (uz q a b k).2 1000 c d
abbrev gz (q:BytL) (x:Nat × UInt64 × Nat × Nat × Nat × Nat) (a b:Nat):Grw BytL:=gsOf x.1 (usV (yz q a b) (ez q a b) x.2.2.1 x.2.2.2.1) x.2.2.2.2.1 x.2.2.2.2.2
abbrev kz (q:BytL) (x:Nat × UInt64 × Nat × Nat × Nat × Nat) (a b c d:Nat):Nat→BytL:=catU ((gz q x a b).f) x.1 (fun _=>qOf (slqV (rz q a b x.1 c d)))
theorem hasU {F:Blk→Prop} {Q:BytL} {E:Int} {c d k nm r:Nat} (hk:k≤10) (hl:∀ i,usN Q E i≤9223372036854775807):RunsO F Tryd.prog 35 [gsV (usL Q E c d k nm r),.slice none 0 0] (usC Q E c d k nm r) 0 (fun _=>.bool (inB (usB Q E) k (bytZ none 0))) (fun _=>[none,none]):=by
  rw [← inB_us (c:=c) (d:=d) (x:=bytZ none 0) rfl fun _ _=>rfl]
  exact us_lend hk ((has_fam (recS (usL Q E c d k nm r)) (bytZ none 0) (us_oks (by omega) hl) okb_nil).toO.mono fun z hz=>hz.elim id fun h=>absurd h.1 (Nat.lt_irrefl 0))
theorem twU {F:Blk→Prop} {Q:BytL} {E:Int} {c d k nm r:Nat} (hk:k≤10) (hl:∀ i,usN Q E i≤9223372036854775807):RunsO F Tryd.prog 36 [gsV (usL Q E c d k nm r)] (usC Q E c d k nm r) 0 (fun _=>.bool (twB (usB Q E) k)) (fun _=>[none,none]):=by
  rw [← twB_us (c:=c) (d:=d)]
  exact us_lend hk (twice_fam (recS (usL Q E c d k nm r)) (us_oks (by omega) hl)).toO
def un_1_S1 (q:BytL) (n1:Nat) (n2:Nat) (n3:Nat) (x1:Nat × UInt64 × Nat × Nat × Nat × Nat):St:=⟨[(2,.v (u64 (rsV (recG (cpG q n2 n3)) 0 18446744073709551615))),(3,.v (gsV (gz q x1 n2 n3))),(5,.v (ptr n1 0)),(11,.v (u64 (nz q n2 n3))),(12,.v (u64 x1.2.1))],[(0,some ⟨n1,true,0,(.lit [(Value.slice (((uz q n2 n3 x1.1).1).wa) (((uz q n2 n3 x1.1).1).wn) (((uz q n2 n3 x1.1).1).wc)),(int ((uz q n2 n3 x1.1).2))])⟩),(1,(gsE u8C [u8 0] 1 (cpG q n2 n3))),(2,(gsE slqC [Value.slice none 0 0] 1 (gz q x1 n2 n3))),(3,(plU (yz q n2 n3) (ez q n2 n3) x1.2.2.1 x1.2.2.2.1 x1.1))],4⟩
def un_1_R1 (q:BytL) (n1:Nat) (n2:Nat) (n3:Nat) (x1:Nat × UInt64 × Nat × Nat × Nat × Nat):Prop:=((x1.2.1:UInt64).toNat=x1.1)∧(x1.1≤10)∧(x1.1≤(nz q n2 n3).toNat)
def un_1_mu1 (q:BytL) (n1:Nat) (n2:Nat) (n3:Nat) (x1:Nat × UInt64 × Nat × Nat × Nat × Nat):Nat:=10 - x1.1
theorem un_1 (q:BytL) (hq:OkB q) (hl:q.wn≤100000) (hd:uD q≠0):RunsO (famB q) Tryd.prog 18 [(Value.slice q.wa q.wn q.wc)] [] 0 (fun _=>Value.tuple #[u64 0,Value.slice none 0 0,int (uD q)]) (fun _=>[]) :=
  runsO_of_ev mix Tryd.func18 rfl rfl 400 (.reg (rg [.g,.g,.g]) (.regn (rg [.g,(.callO [] 3 2 (fun ns=>ptr (ns.getD 0 0) 0) (fun ns=>[some ⟨(ns.getD 0 0),true,0,.lit [gsV (cpG q (ns.getD 1 0) (ns.getD 2 0)),int 0]⟩,(gsE u8C [u8 0] 1 (cpG q (ns.getD 1 0) (ns.getD 2 0)))])),.g]) (more (fun n1=>more (fun n2=>more (fun n3=>fun _=>(.reg (rg [.g,(.callO [(0,false),(1,true)] 0 0 (fun _=>(u64 (rsV (recG (cpG q n2 n3)) 0 18446744073709551615))) (fun _=>[some ⟨n1,true,0,.lit [slqV (rsQ (recG (cpG q n2 n3)) 0 18446744073709551615),int (rsE (recG (cpG q n2 n3)) 0 18446744073709551615)]⟩,none])),.g]) (.keep [0,2,3,4,6,7,5,8,9] [0,1] 4 (.reg (rg [.g,(.callO [(0,false),(1,true)] 0 0 (fun _=>(u64 (nz q n2 n3))) (fun _=>[some ⟨n1,true,0,.lit [slqV (yz q n2 n3),int (ez q n2 n3)]⟩,none])),.g]) (.inv [2,3,5,11,12] [0,1,2,3] 4 (un_1_R1 q n1 n2 n3) (un_1_S1 q n1 n2 n3) (un_1_mu1 q n1 n2 n3) ((0,0,0,0,0,0):Nat × UInt64 × Nat × Nat × Nat × Nat) (fun(x1:Nat × UInt64 × Nat × Nat × Nat × Nat)=>(.reg (rg [(.as (Value.bool (decide (x1.2.1 < (nz q n2 n3)))))]) (.br (.regn (rg [.g,.g,(.callO [(0,false),(1,true)] 2 1 (fun ns=>slqV (rbV (uz q n2 n3 x1.1).1 (uz q n2 n3 x1.1).2 1000 (ns.getD 0 0) (ns.getD 1 0))) (fun ns=>[some ⟨n1,true,0,.lit [slqV ((uz q n2 n3 (x1.1+1)).1),int ((uz q n2 n3 (x1.1+1)).2)]⟩,none,(rbK (uz q n2 n3 x1.1).1 (uz q n2 n3 x1.1).2 1000 (ns.getD 0 0) (ns.getD 1 0))])),.bsl,(.othOB [(2,false),(5,true)] 2 0 (fun ns=>gsV (Grw.mk false (ns.getD 0 0) (x1.1+1) (ns.getD 1 0) (catU ((gz q x1 n2 n3).f) x1.1 ((gz q x1 n2 n3).f)))) (fun bs ns=>[(gsE slqC [Value.slice none 0 0] 1 (Grw.mk false (ns.getD 0 0) (x1.1+1) (ns.getD 1 0) (catU ((gz q x1 n2 n3).f) x1.1 (fun _=>qOf (cellO bs 1))))),none])),.g]) (more (fun n4=>more (fun n5=>more (fun n6=>more (fun n7=>more (fun n8=>fun _=>(.both (decide (0 < usN (yz q n2 n3) (ez q n2 n3) x1.1)) (.keep [2,3,5,11,12] [0,1,2,3,4] 5 (.told ⟨[(2,.v (u64 (rsV (recG (cpG q n2 n3)) 0 18446744073709551615))),(3,.v (gsV (Grw.mk false n7 (x1.1+1) n8 (kz q x1 n2 n3 n4 n5)))),(5,.v (ptr n1 0)),(11,.v (u64 (nz q n2 n3))),(12,.v (u64 x1.2.1))],[(0,some ⟨n1,true,0,(.lit [(Value.slice (((uz q n2 n3 (x1.1+1)).1).wa) (((uz q n2 n3 (x1.1+1)).1).wn) (((uz q n2 n3 (x1.1+1)).1).wc)),(int ((uz q n2 n3 (x1.1+1)).2))])⟩),(1,(gsE u8C [u8 0] 1 (cpG q n2 n3))),(2,(gsE slqC [Value.slice none 0 0] 1 (Grw.mk false n7 (x1.1+1) n8 (kz q x1 n2 n3 n4 n5)))),(3,(plU (yz q n2 n3) (ez q n2 n3) x1.2.2.1 x1.2.2.2.1 x1.1)),(4,some ⟨n4,true,0,(spr (usN (yz q n2 n3) (ez q n2 n3) x1.1+n5) (usN (yz q n2 n3) (ez q n2 n3) x1.1) (fun k=>u8 (usW (yz q n2 n3) (ez q n2 n3) x1.1 k)) (u8 0))⟩)],5⟩ (.pack 4 3 10 (gU (yz q n2 n3) (ez q n2 n3) (pcod x1.2.2.1 x1.1 n4) (pcod x1.2.2.2.1 x1.1 n5) (x1.1+1)) (.keep [2,3,5,11,12] [0,1,2,3] 4 (.told ⟨[(2,.v (u64 (rsV (recG (cpG q n2 n3)) 0 18446744073709551615))),(3,.v (gsV (gsOf (x1.1+1) (usV (yz q n2 n3) (ez q n2 n3) (pcod x1.2.2.1 x1.1 n4) (pcod x1.2.2.2.1 x1.1 n5)) n7 n8))),(5,.v (ptr n1 0)),(11,.v (u64 (nz q n2 n3))),(12,.v (u64 x1.2.1))],[(0,some ⟨n1,true,0,(.lit [(Value.slice (((uz q n2 n3 (x1.1+1)).1).wa) (((uz q n2 n3 (x1.1+1)).1).wn) (((uz q n2 n3 (x1.1+1)).1).wc)),(int ((uz q n2 n3 (x1.1+1)).2))])⟩),(1,(gsE u8C [u8 0] 1 (cpG q n2 n3))),(2,(gsE slqC [Value.slice none 0 0] 1 (gsOf (x1.1+1) (usV (yz q n2 n3) (ez q n2 n3) (pcod x1.2.2.1 x1.1 n4) (pcod x1.2.2.2.1 x1.1 n5)) n7 n8))),(3,(plU (yz q n2 n3) (ez q n2 n3) (pcod x1.2.2.1 x1.1 n4) (pcod x1.2.2.2.1 x1.1 n5) (x1.1+1)))],4⟩ (.reg (rg [(.as (u64 (x1.2.1+1))),.g]) .done)))))) (.keep [2,3,5,11,12] [0,1,2,3,4] 5 (.told ⟨[(2,.v (u64 (rsV (recG (cpG q n2 n3)) 0 18446744073709551615))),(3,.v (gsV (Grw.mk false n7 (x1.1+1) n8 (kz q x1 n2 n3 n4 n5)))),(5,.v (ptr n1 0)),(11,.v (u64 (nz q n2 n3))),(12,.v (u64 x1.2.1))],[(0,some ⟨n1,true,0,(.lit [(Value.slice (((uz q n2 n3 (x1.1+1)).1).wa) (((uz q n2 n3 (x1.1+1)).1).wn) (((uz q n2 n3 (x1.1+1)).1).wc)),(int ((uz q n2 n3 (x1.1+1)).2))])⟩),(1,(gsE u8C [u8 0] 1 (cpG q n2 n3))),(2,(gsE slqC [Value.slice none 0 0] 1 (Grw.mk false n7 (x1.1+1) n8 (kz q x1 n2 n3 n4 n5)))),(3,(plU (yz q n2 n3) (ez q n2 n3) x1.2.2.1 x1.2.2.2.1 x1.1)),(4,none)],5⟩ (.keep [2,3,5,11,12] [0,1,2,3] 4 (.told ⟨[(2,.v (u64 (rsV (recG (cpG q n2 n3)) 0 18446744073709551615))),(3,.v (gsV (gsOf (x1.1+1) (usV (yz q n2 n3) (ez q n2 n3) (pcod x1.2.2.1 x1.1 n4) (pcod x1.2.2.2.1 x1.1 n5)) n7 n8))),(5,.v (ptr n1 0)),(11,.v (u64 (nz q n2 n3))),(12,.v (u64 x1.2.1))],[(0,some ⟨n1,true,0,(.lit [(Value.slice (((uz q n2 n3 (x1.1+1)).1).wa) (((uz q n2 n3 (x1.1+1)).1).wn) (((uz q n2 n3 (x1.1+1)).1).wc)),(int ((uz q n2 n3 (x1.1+1)).2))])⟩),(1,(gsE u8C [u8 0] 1 (cpG q n2 n3))),(2,(gsE slqC [Value.slice none 0 0] 1 (gsOf (x1.1+1) (usV (yz q n2 n3) (ez q n2 n3) (pcod x1.2.2.1 x1.1 n4) (pcod x1.2.2.2.1 x1.1 n5)) n7 n8))),(3,(plU (yz q n2 n3) (ez q n2 n3) (pcod x1.2.2.1 x1.1 n4) (pcod x1.2.2.2.1 x1.1 n5) (x1.1+1)))],4⟩ (.reg (rg [(.as (u64 (x1.2.1+1))),.g]) .done))))))))))))) (.reg (rg [.g,(.callO [(0,true)] 0 0 (fun _=>(int (uD q))) (fun _=>[none])),.g]) (.reg (rg [.g,.g,.g,(.opt .g),(.opt (.callO [(2,true),(3,true)] 0 0 (fun _=>(Value.bool (inB (usB (yz q n2 n3) (ez q n2 n3)) x1.1 (bytZ none 0)))) (fun _=>[none,none]))),(.opt .g),(.opt .g),(.opt (.callO [(2,true),(3,true)] 0 0 (fun _=>(Value.bool (twB (usB (yz q n2 n3) (ez q n2 n3)) x1.1))) (fun _=>[none,none]))),(.opt .pk),.pk]) (.no (.reg (rg [.g,.g]) (.yes (.reg (rg [.g,.g,.g,.g]) .done))))))))))))))))))) [] [] rfl
    (Eq.mp (by kernel_rfl) (aI kV3 (fun(n1 n2 n3:Nat)=>aI (sk (aI (aT (new_G q hq (Nat.le_trans hl (by decide)))) kV1)) (aI (sk (aI (aT (RdR.lend (F:=famB q) (rd_first hq hl n2 n3) (rsmall_fam n1 (recG (cpG q n2 n3)) 0 18446744073709551615 (rd_first hq hl n2 n3).ok (rd_first hq hl n2 n3).le) (fun _=>⟨rfl,tV⟩))) kV1)) ((aI (sk (aI (aT (RdR.lend (F:=famB q) (RdR.small (rd_first hq hl n2 n3) 0 18446744073709551615) (rsmall_fam n1 (rsQ (recG (cpG q n2 n3)) 0 18446744073709551615) (rsE (recG (cpG q n2 n3)) 0 18446744073709551615) 10 (RdR.small (rd_first hq hl n2 n3) 0 18446744073709551615).ok (RdR.small (rd_first hq hl n2 n3) 0 18446744073709551615).le) (fun _=>⟨rfl,tV⟩))) kV1)) (aI (show(un_1_R1 q n1 n2 n3) ((0,0,0,0,0,0):Nat × UInt64 × Nat × Nat × Nat × Nat) from(show((0:UInt64).toNat=0)∧(0≤10)∧(0≤(nz q n2 n3).toNat) from by exact⟨rfl,by decide,Nat.zero_le _⟩)) (aI (@rfl St ((un_1_S1 q n1 n2 n3) ((0,0,0,0,0,0):Nat × UInt64 × Nat × Nat × Nat × Nat))) (fun(x1:Nat × UInt64 × Nat × Nat × Nat × Nat) (hx1:(un_1_R1 q n1 n2 n3) x1)=>have B0:(x1.2.1:UInt64).toNat=x1.1:=hx1.1; have B1:x1.1≤10:=hx1.2.1; have B2:x1.1≤(nz q n2 n3).toNat:=hx1.2.2; aI (aI (aT (@is_lss64 Tryd.prog 30 30 (.tmp 12) (.tmp 11) x1.2.1 (nz q n2 n3))) tV) (aT (aI (fun(h1:(decide (x1.2.1 < (nz q n2 n3)))=true)=>have f4:=(oT h1); fun(n4 n5 n6 n7 n8:Nat)=>aI (sK2 (aI (aT (RdR.lend (F:=famB q) (RdR.us (RdR.small (RdR.small (rd_first hq hl n2 n3) 0 18446744073709551615) (rsE (recG (cpG q n2 n3)) 0 18446744073709551615) 10) (ez q n2 n3) x1.1) (rbytes_v n1 (uz q n2 n3 x1.1).1 (uz q n2 n3 x1.1).2 1000 (RdR.us (RdR.small (RdR.small (rd_first hq hl n2 n3) 0 18446744073709551615) (rsE (recG (cpG q n2 n3)) 0 18446744073709551615) 10) (ez q n2 n3) x1.1).ok (RdR.us (RdR.small (RdR.small (rd_first hq hl n2 n3) 0 18446744073709551615) (rsE (recG (cpG q n2 n3)) 0 18446744073709551615) 10) (ez q n2 n3) x1.1).le (by decide)) (fun _=>⟨rfl,rbK_own⟩))) (aI (aT (mk_build (P:=Tryd.prog) (t:=35) (e:=23) one23 1 #[(0,(slqV (rz q n2 n3 x1.1 n4 n5)))] #[(slqV (rz q n2 n3 x1.1 n4 n5))] (by kernel_rfl) (by decide) (by kernel_rfl))) (aI (aT (mkG_catE (P:=Tryd.prog) (t:=35) (ty:=35) (e:=23) (by kernel_rfl) agg23 (gz q x1 n2 n3) (gsOf_ok _ _ _ _) slqC_ok (fun _=>(qOf (slqV (rz q n2 n3 x1.1 n4 n5)))) 1 (some ⟨n6,0,none⟩) 1 (some ⟨n6,false,0,(.lit [(slqV (rz q n2 n3 x1.1 n4 n5))])⟩) (fun _=>⟨_,_,_,_,rfl,rfl,(lit_src (sz:=1) (l:=slqC (qOf (slqV (rz q n2 n3 x1.1 n4 n5)))) rfl)⟩) (show(x1.1+1)*24≤140737488355328∧x1.1+1≤9223372036854775807 from by omega))) kV1)))) (aI (fun(h2:(decide (0 < usN (yz q n2 n3) (ez q n2 n3) x1.1))=true)=>have f5:=(oT h2); aI (show(⟨[(2,.v (u64 (rsV (recG (cpG q n2 n3)) 0 18446744073709551615))),(3,.v (gsV (Grw.mk false n7 (x1.1+1) n8 (kz q x1 n2 n3 n4 n5)))),(5,.v (ptr n1 0)),(11,.v (u64 (nz q n2 n3))),(12,.v (u64 x1.2.1))],[(0,some ⟨n1,true,0,(.lit [(Value.slice (((uz q n2 n3 (x1.1+1)).1).wa) (((uz q n2 n3 (x1.1+1)).1).wn) (((uz q n2 n3 (x1.1+1)).1).wc)),(int ((uz q n2 n3 (x1.1+1)).2))])⟩),(1,(gsE u8C [u8 0] 1 (cpG q n2 n3))),(2,(gsE slqC [Value.slice none 0 0] 1 (Grw.mk false n7 (x1.1+1) n8 (kz q x1 n2 n3 n4 n5)))),(3,(plU (yz q n2 n3) (ez q n2 n3) x1.2.2.1 x1.2.2.2.1 x1.1)),(4,(rbK (uz q n2 n3 x1.1).1 (uz q n2 n3 x1.1).2 1000 n4 n5))],5⟩:St)=⟨[(2,.v (u64 (rsV (recG (cpG q n2 n3)) 0 18446744073709551615))),(3,.v (gsV (Grw.mk false n7 (x1.1+1) n8 (kz q x1 n2 n3 n4 n5)))),(5,.v (ptr n1 0)),(11,.v (u64 (nz q n2 n3))),(12,.v (u64 x1.2.1))],[(0,some ⟨n1,true,0,(.lit [(Value.slice (((uz q n2 n3 (x1.1+1)).1).wa) (((uz q n2 n3 (x1.1+1)).1).wn) (((uz q n2 n3 (x1.1+1)).1).wc)),(int ((uz q n2 n3 (x1.1+1)).2))])⟩),(1,(gsE u8C [u8 0] 1 (cpG q n2 n3))),(2,(gsE slqC [Value.slice none 0 0] 1 (Grw.mk false n7 (x1.1+1) n8 (kz q x1 n2 n3 n4 n5)))),(3,(plU (yz q n2 n3) (ez q n2 n3) x1.2.2.1 x1.2.2.2.1 x1.1)),(4,some ⟨n4,true,0,(spr (usN (yz q n2 n3) (ez q n2 n3) x1.1+n5) (usN (yz q n2 n3) (ez q n2 n3) x1.1) (fun k=>u8 (usW (yz q n2 n3) (ez q n2 n3) x1.1 k)) (u8 0))⟩)],5⟩ from by(try unfold kz); (try unfold slqV); unfold rz uz; rw [rbK_pos (Q:=(yz q n2 n3)) (E:=(ez q n2 n3)) (k:=x1.1) (oT h2)]) (aI (pack_U (Q:=(yz q n2 n3)) (E:=(ez q n2 n3)) (c:=x1.2.2.1) (d:=x1.2.2.2.1) (k:=x1.1) (n1:=n4) (n2:=n5) (oT h2)) (aI (show(⟨[(2,.v (u64 (rsV (recG (cpG q n2 n3)) 0 18446744073709551615))),(3,.v (gsV (Grw.mk false n7 (x1.1+1) n8 (kz q x1 n2 n3 n4 n5)))),(5,.v (ptr n1 0)),(11,.v (u64 (nz q n2 n3))),(12,.v (u64 x1.2.1))],[(0,some ⟨n1,true,0,(.lit [(Value.slice (((uz q n2 n3 (x1.1+1)).1).wa) (((uz q n2 n3 (x1.1+1)).1).wn) (((uz q n2 n3 (x1.1+1)).1).wc)),(int ((uz q n2 n3 (x1.1+1)).2))])⟩),(1,(gsE u8C [u8 0] 1 (cpG q n2 n3))),(2,(gsE slqC [Value.slice none 0 0] 1 (Grw.mk false n7 (x1.1+1) n8 (kz q x1 n2 n3 n4 n5)))),(3,some ⟨n4,true,0,.pile 10 (gU (yz q n2 n3) (ez q n2 n3) (pcod x1.2.2.1 x1.1 n4) (pcod x1.2.2.2.1 x1.1 n5) (x1.1+1))⟩)],4⟩:St)=⟨[(2,.v (u64 (rsV (recG (cpG q n2 n3)) 0 18446744073709551615))),(3,.v (gsV (gsOf (x1.1+1) (usV (yz q n2 n3) (ez q n2 n3) (pcod x1.2.2.1 x1.1 n4) (pcod x1.2.2.2.1 x1.1 n5)) n7 n8))),(5,.v (ptr n1 0)),(11,.v (u64 (nz q n2 n3))),(12,.v (u64 x1.2.1))],[(0,some ⟨n1,true,0,(.lit [(Value.slice (((uz q n2 n3 (x1.1+1)).1).wa) (((uz q n2 n3 (x1.1+1)).1).wn) (((uz q n2 n3 (x1.1+1)).1).wc)),(int ((uz q n2 n3 (x1.1+1)).2))])⟩),(1,(gsE u8C [u8 0] 1 (cpG q n2 n3))),(2,(gsE slqC [Value.slice none 0 0] 1 (gsOf (x1.1+1) (usV (yz q n2 n3) (ez q n2 n3) (pcod x1.2.2.1 x1.1 n4) (pcod x1.2.2.2.1 x1.1 n5)) n7 n8))),(3,(plU (yz q n2 n3) (ez q n2 n3) (pcod x1.2.2.1 x1.1 n4) (pcod x1.2.2.2.1 x1.1 n5) (x1.1+1)))],4⟩ from by rw [plU_yes (Q:=(yz q n2 n3)) (E:=(ez q n2 n3)) (c:=x1.2.2.1) (d:=x1.2.2.2.1) (k:=x1.1) (n1:=n4) (n2:=n5) (oT h2),(list_U (Q:=(yz q n2 n3)) (E:=(ez q n2 n3)) (c:=x1.2.2.1) (d:=x1.2.2.2.1) (k:=x1.1) (n1:=n4) (n2:=n5) (A:=Grw.mk false n7 (x1.1+1) n8 (kz q x1 n2 n3 n4 n5)) rfl rfl rfl).1,(list_U (Q:=(yz q n2 n3)) (E:=(ez q n2 n3)) (c:=x1.2.2.1) (d:=x1.2.2.2.1) (k:=x1.1) (n1:=n4) (n2:=n5) (A:=Grw.mk false n7 (x1.1+1) n8 (kz q x1 n2 n3 n4 n5)) rfl rfl rfl).2]) (aI (aI (aT (@is_add64 Tryd.prog 30 30 (.tmp 12) (.const (.int .u64 1)) x1.2.1 1)) kV1) ((rnd (un_1_R1 q n1 n2 n3) (un_1_S1 q n1 n2 n3) (un_1_mu1 q n1 n2 n3) x1 ((x1.1+1,(x1.2.1+1),(pcod x1.2.2.1 x1.1 n4),(pcod x1.2.2.2.1 x1.1 n5),n7,n8):Nat × UInt64 × Nat × Nat × Nat × Nat) (show(un_1_R1 q n1 n2 n3) ((x1.1+1,(x1.2.1+1),(pcod x1.2.2.1 x1.1 n4),(pcod x1.2.2.2.1 x1.1 n5),n7,n8):Nat × UInt64 × Nat × Nat × Nat × Nat)∧(un_1_mu1 q n1 n2 n3) ((x1.1+1,(x1.2.1+1),(pcod x1.2.2.1 x1.1 n4),(pcod x1.2.2.2.1 x1.1 n5),n7,n8):Nat × UInt64 × Nat × Nat × Nat × Nat) < (un_1_mu1 q n1 n2 n3) x1 from(show((((x1.2.1+1):UInt64).toNat=(x1.1+1))∧((x1.1+1)≤10)∧((x1.1+1)≤(nz q n2 n3).toNat))∧(10 - (x1.1+1)) < (10 - x1.1) from by have h1:=cnt_next B0 h1; have h2:(nz q n2 n3).toNat≤10:=rsV_le _ _ 10; exact⟨⟨h1.1,by omega,by omega⟩,by omega⟩)))))))) (fun(h2:(decide (0 < usN (yz q n2 n3) (ez q n2 n3) x1.1))=false)=>have f5:=(oF h2); aI (show(⟨[(2,.v (u64 (rsV (recG (cpG q n2 n3)) 0 18446744073709551615))),(3,.v (gsV (Grw.mk false n7 (x1.1+1) n8 (kz q x1 n2 n3 n4 n5)))),(5,.v (ptr n1 0)),(11,.v (u64 (nz q n2 n3))),(12,.v (u64 x1.2.1))],[(0,some ⟨n1,true,0,(.lit [(Value.slice (((uz q n2 n3 (x1.1+1)).1).wa) (((uz q n2 n3 (x1.1+1)).1).wn) (((uz q n2 n3 (x1.1+1)).1).wc)),(int ((uz q n2 n3 (x1.1+1)).2))])⟩),(1,(gsE u8C [u8 0] 1 (cpG q n2 n3))),(2,(gsE slqC [Value.slice none 0 0] 1 (Grw.mk false n7 (x1.1+1) n8 (kz q x1 n2 n3 n4 n5)))),(3,(plU (yz q n2 n3) (ez q n2 n3) x1.2.2.1 x1.2.2.2.1 x1.1)),(4,(rbK (uz q n2 n3 x1.1).1 (uz q n2 n3 x1.1).2 1000 n4 n5))],5⟩:St)=⟨[(2,.v (u64 (rsV (recG (cpG q n2 n3)) 0 18446744073709551615))),(3,.v (gsV (Grw.mk false n7 (x1.1+1) n8 (kz q x1 n2 n3 n4 n5)))),(5,.v (ptr n1 0)),(11,.v (u64 (nz q n2 n3))),(12,.v (u64 x1.2.1))],[(0,some ⟨n1,true,0,(.lit [(Value.slice (((uz q n2 n3 (x1.1+1)).1).wa) (((uz q n2 n3 (x1.1+1)).1).wn) (((uz q n2 n3 (x1.1+1)).1).wc)),(int ((uz q n2 n3 (x1.1+1)).2))])⟩),(1,(gsE u8C [u8 0] 1 (cpG q n2 n3))),(2,(gsE slqC [Value.slice none 0 0] 1 (Grw.mk false n7 (x1.1+1) n8 (kz q x1 n2 n3 n4 n5)))),(3,(plU (yz q n2 n3) (ez q n2 n3) x1.2.2.1 x1.2.2.2.1 x1.1)),(4,none)],5⟩ from by(try unfold kz); (try unfold slqV); unfold rz uz; rw [rbK_no (Q:=(yz q n2 n3)) (E:=(ez q n2 n3)) (k:=x1.1) (oF h2)]) (aI (show(⟨[(2,.v (u64 (rsV (recG (cpG q n2 n3)) 0 18446744073709551615))),(3,.v (gsV (Grw.mk false n7 (x1.1+1) n8 (kz q x1 n2 n3 n4 n5)))),(5,.v (ptr n1 0)),(11,.v (u64 (nz q n2 n3))),(12,.v (u64 x1.2.1))],[(0,some ⟨n1,true,0,(.lit [(Value.slice (((uz q n2 n3 (x1.1+1)).1).wa) (((uz q n2 n3 (x1.1+1)).1).wn) (((uz q n2 n3 (x1.1+1)).1).wc)),(int ((uz q n2 n3 (x1.1+1)).2))])⟩),(1,(gsE u8C [u8 0] 1 (cpG q n2 n3))),(2,(gsE slqC [Value.slice none 0 0] 1 (Grw.mk false n7 (x1.1+1) n8 (kz q x1 n2 n3 n4 n5)))),(3,(plU (yz q n2 n3) (ez q n2 n3) x1.2.2.1 x1.2.2.2.1 x1.1))],4⟩:St)=⟨[(2,.v (u64 (rsV (recG (cpG q n2 n3)) 0 18446744073709551615))),(3,.v (gsV (gsOf (x1.1+1) (usV (yz q n2 n3) (ez q n2 n3) (pcod x1.2.2.1 x1.1 n4) (pcod x1.2.2.2.1 x1.1 n5)) n7 n8))),(5,.v (ptr n1 0)),(11,.v (u64 (nz q n2 n3))),(12,.v (u64 x1.2.1))],[(0,some ⟨n1,true,0,(.lit [(Value.slice (((uz q n2 n3 (x1.1+1)).1).wa) (((uz q n2 n3 (x1.1+1)).1).wn) (((uz q n2 n3 (x1.1+1)).1).wc)),(int ((uz q n2 n3 (x1.1+1)).2))])⟩),(1,(gsE u8C [u8 0] 1 (cpG q n2 n3))),(2,(gsE slqC [Value.slice none 0 0] 1 (gsOf (x1.1+1) (usV (yz q n2 n3) (ez q n2 n3) (pcod x1.2.2.1 x1.1 n4) (pcod x1.2.2.2.1 x1.1 n5)) n7 n8))),(3,(plU (yz q n2 n3) (ez q n2 n3) (pcod x1.2.2.1 x1.1 n4) (pcod x1.2.2.2.1 x1.1 n5) (x1.1+1)))],4⟩ from by rw [plU_no (Q:=(yz q n2 n3)) (E:=(ez q n2 n3)) (c:=x1.2.2.1) (d:=x1.2.2.2.1) (k:=x1.1) (n1:=n4) (n2:=n5) (oF h2),(list_U (Q:=(yz q n2 n3)) (E:=(ez q n2 n3)) (c:=x1.2.2.1) (d:=x1.2.2.2.1) (k:=x1.1) (n1:=n4) (n2:=n5) (A:=Grw.mk false n7 (x1.1+1) n8 (kz q x1 n2 n3 n4 n5)) rfl rfl rfl).1,(list_U (Q:=(yz q n2 n3)) (E:=(ez q n2 n3)) (c:=x1.2.2.1) (d:=x1.2.2.2.1) (k:=x1.1) (n1:=n4) (n2:=n5) (A:=Grw.mk false n7 (x1.1+1) n8 (kz q x1 n2 n3 n4 n5)) rfl rfl rfl).2]) (aI (aI (aT (@is_add64 Tryd.prog 30 30 (.tmp 12) (.const (.int .u64 1)) x1.2.1 1)) kV1) ((rnd (un_1_R1 q n1 n2 n3) (un_1_S1 q n1 n2 n3) (un_1_mu1 q n1 n2 n3) x1 ((x1.1+1,(x1.2.1+1),(pcod x1.2.2.1 x1.1 n4),(pcod x1.2.2.2.1 x1.1 n5),n7,n8):Nat × UInt64 × Nat × Nat × Nat × Nat) (show(un_1_R1 q n1 n2 n3) ((x1.1+1,(x1.2.1+1),(pcod x1.2.2.1 x1.1 n4),(pcod x1.2.2.2.1 x1.1 n5),n7,n8):Nat × UInt64 × Nat × Nat × Nat × Nat)∧(un_1_mu1 q n1 n2 n3) ((x1.1+1,(x1.2.1+1),(pcod x1.2.2.1 x1.1 n4),(pcod x1.2.2.2.1 x1.1 n5),n7,n8):Nat × UInt64 × Nat × Nat × Nat × Nat) < (un_1_mu1 q n1 n2 n3) x1 from(show((((x1.2.1+1):UInt64).toNat=(x1.1+1))∧((x1.1+1)≤10)∧((x1.1+1)≤(nz q n2 n3).toNat))∧(10 - (x1.1+1)) < (10 - x1.1) from by have h1:=cnt_next B0 h1; have h2:(nz q n2 n3).toNat≤10:=rsV_le _ _ 10; exact⟨⟨h1.1,by omega,by omega⟩,by omega⟩))))))))) (fun(h1:(decide (x1.2.1 < (nz q n2 n3)))=false)=>have f4:=(oF h1); aI (sk (aI (aT (rend_as (F:=famB q) n1 (uz q n2 n3 x1.1).1 (uz q n2 n3 x1.1).2 (uD q) (by have e:x1.1=uN (recG (cpG q n2 n3)):=cnt_end B0 B2 h1; rw [e]; exact(same_cp hq n2 n3).uD))) kV1)) (aI (sK3 (aI (fun(hg:(sB (((uD q):Int) == 0) true)=true)=>t2) (aI (fun(hg:(sB (((uD q):Int) == 0) true)=true)=>have f5:(((uD q):Int) == 0)=true:=(sameB_t hg); (aI (aI hg tV) (hasU (F:=famB q) (Q:=(yz q n2 n3)) (E:=(ez q n2 n3)) (c:=x1.2.2.1) (d:=x1.2.2.2.1) (k:=x1.1) (nm:=x1.2.2.2.2.1) (r:=x1.2.2.2.2.2) B1 (fun i=>Nat.le_trans (rbN_100 (RdR.small (RdR.small (rd_first hq hl n2 n3) 0 18446744073709551615) (rsE (recG (cpG q n2 n3)) 0 18446744073709551615) 10) (ez q n2 n3) i) (by decide))))) (aI (fun(hg:(sB (((uD q):Int) == 0) true)=true)=>(aI (aI hg tV) tV)) (aI (fun(hg:(selB (sB (((uD q):Int) == 0) true) (sB (inB (usB (yz q n2 n3) (ez q n2 n3)) x1.1 (bytZ none 0)) false) false)=true)=>t2) (aI (fun(hg:(selB (sB (((uD q):Int) == 0) true) (sB (inB (usB (yz q n2 n3) (ez q n2 n3)) x1.1 (bytZ none 0)) false) false)=true)=>have f5:(((uD q):Int) == 0)=true:=(sameB_t (pickl hg)); have f6:(inB (usB (yz q n2 n3) (ez q n2 n3)) x1.1 (bytZ none 0))=false:=(sameB_f (pickr hg)); (aI (aI hg tV) (twU (F:=famB q) (Q:=(yz q n2 n3)) (E:=(ez q n2 n3)) (c:=x1.2.2.1) (d:=x1.2.2.2.1) (k:=x1.1) (nm:=x1.2.2.2.2.1) (r:=x1.2.2.2.2.2) B1 (fun i=>Nat.le_trans (rbN_100 (RdR.small (RdR.small (rd_first hq hl n2 n3) 0 18446744073709551615) (rsE (recG (cpG q n2 n3)) 0 18446744073709551615) 10) (ez q n2 n3) i) (by decide))))) (aI (fun(hg:(sB (((uD q):Int) == 0) true)=true)=>(aI hg (aI (fun(_:(inB (usB (yz q n2 n3) (ez q n2 n3)) x1.1 (bytZ none 0))=true)=>tV) (fun(hp:(inB (usB (yz q n2 n3) (ez q n2 n3)) x1.1 (bytZ none 0))=false)=>(pickm hg (sameB_mkf hp)))))) (aI (aT (aI (fun(hp:(((uD q):Int) == 0)=true)=>(sameB_mk hp)) (fun(_:(((uD q):Int) == 0)=false)=>tV))) tV)))))))) ((fun(hp3:(selB (((uD q):Int) == 0) (selB (inB (usB (yz q n2 n3) (ez q n2 n3)) x1.1 (bytZ none 0)) true (twB (usB (yz q n2 n3) (ez q n2 n3)) x1.1)) false)=false)=>aT (aI hp3 (aI kV2 ((fun(hp4:(((uD q):Int) != 0)=true)=>aT (aI hp4 (aI kV4 (aT (eX (fun(ns:List Nat)=>ns.length=0∧((Value.tuple #[(u64 0),(Value.slice none 0 0),(int (uD q))]):Value)=(fun _=>Value.tuple #[u64 0,Value.slice none 0 0,int (uD q)]) ns∧([]:List (Option Blk))=(fun _=>[]) ns) [] (aI (@rfl Nat 0) (aI (@rfl Value (Value.tuple #[u64 0,Value.slice none 0 0,int (uD q)])) (@rfl (List (Option Blk)) [])))))))) (show(((uD q):Int) != 0)=true from by simpa using hd))))) (show(selB (((uD q):Int) == 0) (selB (inB (usB (yz q n2 n3) (ez q n2 n3)) x1.1 (bytZ none 0)) true (twB (usB (yz q n2 n3) (ez q n2 n3)) x1.1)) false)=false from by rw [show(uD q == 0)=false from by simpa using hd] <;> rfl)))))))))))))))
def un_2_S1 (q:BytL) (n1:Nat) (n2:Nat) (n3:Nat) (x1:Nat × UInt64 × Nat × Nat × Nat × Nat):St:=⟨[(2,.v (u64 (rsV (recG (cpG q n2 n3)) 0 18446744073709551615))),(3,.v (gsV (gz q x1 n2 n3))),(5,.v (ptr n1 0)),(11,.v (u64 (nz q n2 n3))),(12,.v (u64 x1.2.1))],[(0,some ⟨n1,true,0,(.lit [(Value.slice (((uz q n2 n3 x1.1).1).wa) (((uz q n2 n3 x1.1).1).wn) (((uz q n2 n3 x1.1).1).wc)),(int ((uz q n2 n3 x1.1).2))])⟩),(1,(gsE u8C [u8 0] 1 (cpG q n2 n3))),(2,(gsE slqC [Value.slice none 0 0] 1 (gz q x1 n2 n3))),(3,(plU (yz q n2 n3) (ez q n2 n3) x1.2.2.1 x1.2.2.2.1 x1.1))],4⟩
def un_2_R1 (q:BytL) (n1:Nat) (n2:Nat) (n3:Nat) (x1:Nat × UInt64 × Nat × Nat × Nat × Nat):Prop:=((x1.2.1:UInt64).toNat=x1.1)∧(x1.1≤10)∧(x1.1≤(nz q n2 n3).toNat)
def un_2_mu1 (q:BytL) (n1:Nat) (n2:Nat) (n3:Nat) (x1:Nat × UInt64 × Nat × Nat × Nat × Nat):Nat:=10 - x1.1
theorem un_2 (q:BytL) (hq:OkB q) (hl:q.wn≤100000) (hd:uD q=0) (hb:uB q=true):RunsO (famB q) Tryd.prog 18 [(Value.slice q.wa q.wn q.wc)] [] 0 (fun _=>Value.tuple #[u64 0,Value.slice none 0 0,int 31]) (fun _=>[]) :=
  runsO_of_ev mix Tryd.func18 rfl rfl 400 (.reg (rg [.g,.g,.g]) (.regn (rg [.g,(.callO [] 3 2 (fun ns=>ptr (ns.getD 0 0) 0) (fun ns=>[some ⟨(ns.getD 0 0),true,0,.lit [gsV (cpG q (ns.getD 1 0) (ns.getD 2 0)),int 0]⟩,(gsE u8C [u8 0] 1 (cpG q (ns.getD 1 0) (ns.getD 2 0)))])),.g]) (more (fun n1=>more (fun n2=>more (fun n3=>fun _=>(.reg (rg [.g,(.callO [(0,false),(1,true)] 0 0 (fun _=>(u64 (rsV (recG (cpG q n2 n3)) 0 18446744073709551615))) (fun _=>[some ⟨n1,true,0,.lit [slqV (rsQ (recG (cpG q n2 n3)) 0 18446744073709551615),int (rsE (recG (cpG q n2 n3)) 0 18446744073709551615)]⟩,none])),.g]) (.keep [0,2,3,4,6,7,5,8,9] [0,1] 4 (.reg (rg [.g,(.callO [(0,false),(1,true)] 0 0 (fun _=>(u64 (nz q n2 n3))) (fun _=>[some ⟨n1,true,0,.lit [slqV (yz q n2 n3),int (ez q n2 n3)]⟩,none])),.g]) (.inv [2,3,5,11,12] [0,1,2,3] 4 (un_2_R1 q n1 n2 n3) (un_2_S1 q n1 n2 n3) (un_2_mu1 q n1 n2 n3) ((0,0,0,0,0,0):Nat × UInt64 × Nat × Nat × Nat × Nat) (fun(x1:Nat × UInt64 × Nat × Nat × Nat × Nat)=>(.reg (rg [(.as (Value.bool (decide (x1.2.1 < (nz q n2 n3)))))]) (.br (.regn (rg [.g,.g,(.callO [(0,false),(1,true)] 2 1 (fun ns=>slqV (rbV (uz q n2 n3 x1.1).1 (uz q n2 n3 x1.1).2 1000 (ns.getD 0 0) (ns.getD 1 0))) (fun ns=>[some ⟨n1,true,0,.lit [slqV ((uz q n2 n3 (x1.1+1)).1),int ((uz q n2 n3 (x1.1+1)).2)]⟩,none,(rbK (uz q n2 n3 x1.1).1 (uz q n2 n3 x1.1).2 1000 (ns.getD 0 0) (ns.getD 1 0))])),.bsl,(.othOB [(2,false),(5,true)] 2 0 (fun ns=>gsV (Grw.mk false (ns.getD 0 0) (x1.1+1) (ns.getD 1 0) (catU ((gz q x1 n2 n3).f) x1.1 ((gz q x1 n2 n3).f)))) (fun bs ns=>[(gsE slqC [Value.slice none 0 0] 1 (Grw.mk false (ns.getD 0 0) (x1.1+1) (ns.getD 1 0) (catU ((gz q x1 n2 n3).f) x1.1 (fun _=>qOf (cellO bs 1))))),none])),.g]) (more (fun n4=>more (fun n5=>more (fun n6=>more (fun n7=>more (fun n8=>fun _=>(.both (decide (0 < usN (yz q n2 n3) (ez q n2 n3) x1.1)) (.keep [2,3,5,11,12] [0,1,2,3,4] 5 (.told ⟨[(2,.v (u64 (rsV (recG (cpG q n2 n3)) 0 18446744073709551615))),(3,.v (gsV (Grw.mk false n7 (x1.1+1) n8 (kz q x1 n2 n3 n4 n5)))),(5,.v (ptr n1 0)),(11,.v (u64 (nz q n2 n3))),(12,.v (u64 x1.2.1))],[(0,some ⟨n1,true,0,(.lit [(Value.slice (((uz q n2 n3 (x1.1+1)).1).wa) (((uz q n2 n3 (x1.1+1)).1).wn) (((uz q n2 n3 (x1.1+1)).1).wc)),(int ((uz q n2 n3 (x1.1+1)).2))])⟩),(1,(gsE u8C [u8 0] 1 (cpG q n2 n3))),(2,(gsE slqC [Value.slice none 0 0] 1 (Grw.mk false n7 (x1.1+1) n8 (kz q x1 n2 n3 n4 n5)))),(3,(plU (yz q n2 n3) (ez q n2 n3) x1.2.2.1 x1.2.2.2.1 x1.1)),(4,some ⟨n4,true,0,(spr (usN (yz q n2 n3) (ez q n2 n3) x1.1+n5) (usN (yz q n2 n3) (ez q n2 n3) x1.1) (fun k=>u8 (usW (yz q n2 n3) (ez q n2 n3) x1.1 k)) (u8 0))⟩)],5⟩ (.pack 4 3 10 (gU (yz q n2 n3) (ez q n2 n3) (pcod x1.2.2.1 x1.1 n4) (pcod x1.2.2.2.1 x1.1 n5) (x1.1+1)) (.keep [2,3,5,11,12] [0,1,2,3] 4 (.told ⟨[(2,.v (u64 (rsV (recG (cpG q n2 n3)) 0 18446744073709551615))),(3,.v (gsV (gsOf (x1.1+1) (usV (yz q n2 n3) (ez q n2 n3) (pcod x1.2.2.1 x1.1 n4) (pcod x1.2.2.2.1 x1.1 n5)) n7 n8))),(5,.v (ptr n1 0)),(11,.v (u64 (nz q n2 n3))),(12,.v (u64 x1.2.1))],[(0,some ⟨n1,true,0,(.lit [(Value.slice (((uz q n2 n3 (x1.1+1)).1).wa) (((uz q n2 n3 (x1.1+1)).1).wn) (((uz q n2 n3 (x1.1+1)).1).wc)),(int ((uz q n2 n3 (x1.1+1)).2))])⟩),(1,(gsE u8C [u8 0] 1 (cpG q n2 n3))),(2,(gsE slqC [Value.slice none 0 0] 1 (gsOf (x1.1+1) (usV (yz q n2 n3) (ez q n2 n3) (pcod x1.2.2.1 x1.1 n4) (pcod x1.2.2.2.1 x1.1 n5)) n7 n8))),(3,(plU (yz q n2 n3) (ez q n2 n3) (pcod x1.2.2.1 x1.1 n4) (pcod x1.2.2.2.1 x1.1 n5) (x1.1+1)))],4⟩ (.reg (rg [(.as (u64 (x1.2.1+1))),.g]) .done)))))) (.keep [2,3,5,11,12] [0,1,2,3,4] 5 (.told ⟨[(2,.v (u64 (rsV (recG (cpG q n2 n3)) 0 18446744073709551615))),(3,.v (gsV (Grw.mk false n7 (x1.1+1) n8 (kz q x1 n2 n3 n4 n5)))),(5,.v (ptr n1 0)),(11,.v (u64 (nz q n2 n3))),(12,.v (u64 x1.2.1))],[(0,some ⟨n1,true,0,(.lit [(Value.slice (((uz q n2 n3 (x1.1+1)).1).wa) (((uz q n2 n3 (x1.1+1)).1).wn) (((uz q n2 n3 (x1.1+1)).1).wc)),(int ((uz q n2 n3 (x1.1+1)).2))])⟩),(1,(gsE u8C [u8 0] 1 (cpG q n2 n3))),(2,(gsE slqC [Value.slice none 0 0] 1 (Grw.mk false n7 (x1.1+1) n8 (kz q x1 n2 n3 n4 n5)))),(3,(plU (yz q n2 n3) (ez q n2 n3) x1.2.2.1 x1.2.2.2.1 x1.1)),(4,none)],5⟩ (.keep [2,3,5,11,12] [0,1,2,3] 4 (.told ⟨[(2,.v (u64 (rsV (recG (cpG q n2 n3)) 0 18446744073709551615))),(3,.v (gsV (gsOf (x1.1+1) (usV (yz q n2 n3) (ez q n2 n3) (pcod x1.2.2.1 x1.1 n4) (pcod x1.2.2.2.1 x1.1 n5)) n7 n8))),(5,.v (ptr n1 0)),(11,.v (u64 (nz q n2 n3))),(12,.v (u64 x1.2.1))],[(0,some ⟨n1,true,0,(.lit [(Value.slice (((uz q n2 n3 (x1.1+1)).1).wa) (((uz q n2 n3 (x1.1+1)).1).wn) (((uz q n2 n3 (x1.1+1)).1).wc)),(int ((uz q n2 n3 (x1.1+1)).2))])⟩),(1,(gsE u8C [u8 0] 1 (cpG q n2 n3))),(2,(gsE slqC [Value.slice none 0 0] 1 (gsOf (x1.1+1) (usV (yz q n2 n3) (ez q n2 n3) (pcod x1.2.2.1 x1.1 n4) (pcod x1.2.2.2.1 x1.1 n5)) n7 n8))),(3,(plU (yz q n2 n3) (ez q n2 n3) (pcod x1.2.2.1 x1.1 n4) (pcod x1.2.2.2.1 x1.1 n5) (x1.1+1)))],4⟩ (.reg (rg [(.as (u64 (x1.2.1+1))),.g]) .done))))))))))))) (.reg (rg [.g,(.callO [(0,true)] 0 0 (fun _=>(int 0)) (fun _=>[none])),.g]) (.reg (rg [.g,.g,.g,(.run .g),(.run (.callO [(2,true),(3,true)] 0 0 (fun _=>(Value.bool (inB (usB (yz q n2 n3) (ez q n2 n3)) x1.1 (bytZ none 0)))) (fun _=>[none,none]))),(.run .g),(.opt .g),(.opt (.callO [(2,true),(3,true)] 0 0 (fun _=>(Value.bool (twB (usB (yz q n2 n3) (ez q n2 n3)) x1.1))) (fun _=>[none,none]))),(.run .pk),.pk]) (.yes (.reg (rg [.g]) (.reg (rg [.g,.g]) (.yes (.reg (rg [.g,.g,.g,.g]) .done)))))))))))))))))))) [] [] rfl
    (Eq.mp (by kernel_rfl) (aI kV3 (fun(n1 n2 n3:Nat)=>aI (sk (aI (aT (new_G q hq (Nat.le_trans hl (by decide)))) kV1)) (aI (sk (aI (aT (RdR.lend (F:=famB q) (rd_first hq hl n2 n3) (rsmall_fam n1 (recG (cpG q n2 n3)) 0 18446744073709551615 (rd_first hq hl n2 n3).ok (rd_first hq hl n2 n3).le) (fun _=>⟨rfl,tV⟩))) kV1)) ((aI (sk (aI (aT (RdR.lend (F:=famB q) (RdR.small (rd_first hq hl n2 n3) 0 18446744073709551615) (rsmall_fam n1 (rsQ (recG (cpG q n2 n3)) 0 18446744073709551615) (rsE (recG (cpG q n2 n3)) 0 18446744073709551615) 10 (RdR.small (rd_first hq hl n2 n3) 0 18446744073709551615).ok (RdR.small (rd_first hq hl n2 n3) 0 18446744073709551615).le) (fun _=>⟨rfl,tV⟩))) kV1)) (aI (show(un_2_R1 q n1 n2 n3) ((0,0,0,0,0,0):Nat × UInt64 × Nat × Nat × Nat × Nat) from(show((0:UInt64).toNat=0)∧(0≤10)∧(0≤(nz q n2 n3).toNat) from by exact⟨rfl,by decide,Nat.zero_le _⟩)) (aI (@rfl St ((un_2_S1 q n1 n2 n3) ((0,0,0,0,0,0):Nat × UInt64 × Nat × Nat × Nat × Nat))) (fun(x1:Nat × UInt64 × Nat × Nat × Nat × Nat) (hx1:(un_2_R1 q n1 n2 n3) x1)=>have B0:(x1.2.1:UInt64).toNat=x1.1:=hx1.1; have B1:x1.1≤10:=hx1.2.1; have B2:x1.1≤(nz q n2 n3).toNat:=hx1.2.2; aI (aI (aT (@is_lss64 Tryd.prog 30 30 (.tmp 12) (.tmp 11) x1.2.1 (nz q n2 n3))) tV) (aT (aI (fun(h1:(decide (x1.2.1 < (nz q n2 n3)))=true)=>have f4:=(oT h1); fun(n4 n5 n6 n7 n8:Nat)=>aI (sK2 (aI (aT (RdR.lend (F:=famB q) (RdR.us (RdR.small (RdR.small (rd_first hq hl n2 n3) 0 18446744073709551615) (rsE (recG (cpG q n2 n3)) 0 18446744073709551615) 10) (ez q n2 n3) x1.1) (rbytes_v n1 (uz q n2 n3 x1.1).1 (uz q n2 n3 x1.1).2 1000 (RdR.us (RdR.small (RdR.small (rd_first hq hl n2 n3) 0 18446744073709551615) (rsE (recG (cpG q n2 n3)) 0 18446744073709551615) 10) (ez q n2 n3) x1.1).ok (RdR.us (RdR.small (RdR.small (rd_first hq hl n2 n3) 0 18446744073709551615) (rsE (recG (cpG q n2 n3)) 0 18446744073709551615) 10) (ez q n2 n3) x1.1).le (by decide)) (fun _=>⟨rfl,rbK_own⟩))) (aI (aT (mk_build (P:=Tryd.prog) (t:=35) (e:=23) one23 1 #[(0,(slqV (rz q n2 n3 x1.1 n4 n5)))] #[(slqV (rz q n2 n3 x1.1 n4 n5))] (by kernel_rfl) (by decide) (by kernel_rfl))) (aI (aT (mkG_catE (P:=Tryd.prog) (t:=35) (ty:=35) (e:=23) (by kernel_rfl) agg23 (gz q x1 n2 n3) (gsOf_ok _ _ _ _) slqC_ok (fun _=>(qOf (slqV (rz q n2 n3 x1.1 n4 n5)))) 1 (some ⟨n6,0,none⟩) 1 (some ⟨n6,false,0,(.lit [(slqV (rz q n2 n3 x1.1 n4 n5))])⟩) (fun _=>⟨_,_,_,_,rfl,rfl,(lit_src (sz:=1) (l:=slqC (qOf (slqV (rz q n2 n3 x1.1 n4 n5)))) rfl)⟩) (show(x1.1+1)*24≤140737488355328∧x1.1+1≤9223372036854775807 from by omega))) kV1)))) (aI (fun(h2:(decide (0 < usN (yz q n2 n3) (ez q n2 n3) x1.1))=true)=>have f5:=(oT h2); aI (show(⟨[(2,.v (u64 (rsV (recG (cpG q n2 n3)) 0 18446744073709551615))),(3,.v (gsV (Grw.mk false n7 (x1.1+1) n8 (kz q x1 n2 n3 n4 n5)))),(5,.v (ptr n1 0)),(11,.v (u64 (nz q n2 n3))),(12,.v (u64 x1.2.1))],[(0,some ⟨n1,true,0,(.lit [(Value.slice (((uz q n2 n3 (x1.1+1)).1).wa) (((uz q n2 n3 (x1.1+1)).1).wn) (((uz q n2 n3 (x1.1+1)).1).wc)),(int ((uz q n2 n3 (x1.1+1)).2))])⟩),(1,(gsE u8C [u8 0] 1 (cpG q n2 n3))),(2,(gsE slqC [Value.slice none 0 0] 1 (Grw.mk false n7 (x1.1+1) n8 (kz q x1 n2 n3 n4 n5)))),(3,(plU (yz q n2 n3) (ez q n2 n3) x1.2.2.1 x1.2.2.2.1 x1.1)),(4,(rbK (uz q n2 n3 x1.1).1 (uz q n2 n3 x1.1).2 1000 n4 n5))],5⟩:St)=⟨[(2,.v (u64 (rsV (recG (cpG q n2 n3)) 0 18446744073709551615))),(3,.v (gsV (Grw.mk false n7 (x1.1+1) n8 (kz q x1 n2 n3 n4 n5)))),(5,.v (ptr n1 0)),(11,.v (u64 (nz q n2 n3))),(12,.v (u64 x1.2.1))],[(0,some ⟨n1,true,0,(.lit [(Value.slice (((uz q n2 n3 (x1.1+1)).1).wa) (((uz q n2 n3 (x1.1+1)).1).wn) (((uz q n2 n3 (x1.1+1)).1).wc)),(int ((uz q n2 n3 (x1.1+1)).2))])⟩),(1,(gsE u8C [u8 0] 1 (cpG q n2 n3))),(2,(gsE slqC [Value.slice none 0 0] 1 (Grw.mk false n7 (x1.1+1) n8 (kz q x1 n2 n3 n4 n5)))),(3,(plU (yz q n2 n3) (ez q n2 n3) x1.2.2.1 x1.2.2.2.1 x1.1)),(4,some ⟨n4,true,0,(spr (usN (yz q n2 n3) (ez q n2 n3) x1.1+n5) (usN (yz q n2 n3) (ez q n2 n3) x1.1) (fun k=>u8 (usW (yz q n2 n3) (ez q n2 n3) x1.1 k)) (u8 0))⟩)],5⟩ from by(try unfold kz); (try unfold slqV); unfold rz uz; rw [rbK_pos (Q:=(yz q n2 n3)) (E:=(ez q n2 n3)) (k:=x1.1) (oT h2)]) (aI (pack_U (Q:=(yz q n2 n3)) (E:=(ez q n2 n3)) (c:=x1.2.2.1) (d:=x1.2.2.2.1) (k:=x1.1) (n1:=n4) (n2:=n5) (oT h2)) (aI (show(⟨[(2,.v (u64 (rsV (recG (cpG q n2 n3)) 0 18446744073709551615))),(3,.v (gsV (Grw.mk false n7 (x1.1+1) n8 (kz q x1 n2 n3 n4 n5)))),(5,.v (ptr n1 0)),(11,.v (u64 (nz q n2 n3))),(12,.v (u64 x1.2.1))],[(0,some ⟨n1,true,0,(.lit [(Value.slice (((uz q n2 n3 (x1.1+1)).1).wa) (((uz q n2 n3 (x1.1+1)).1).wn) (((uz q n2 n3 (x1.1+1)).1).wc)),(int ((uz q n2 n3 (x1.1+1)).2))])⟩),(1,(gsE u8C [u8 0] 1 (cpG q n2 n3))),(2,(gsE slqC [Value.slice none 0 0] 1 (Grw.mk false n7 (x1.1+1) n8 (kz q x1 n2 n3 n4 n5)))),(3,some ⟨n4,true,0,.pile 10 (gU (yz q n2 n3) (ez q n2 n3) (pcod x1.2.2.1 x1.1 n4) (pcod x1.2.2.2.1 x1.1 n5) (x1.1+1))⟩)],4⟩:St)=⟨[(2,.v (u64 (rsV (recG (cpG q n2 n3)) 0 18446744073709551615))),(3,.v (gsV (gsOf (x1.1+1) (usV (yz q n2 n3) (ez q n2 n3) (pcod x1.2.2.1 x1.1 n4) (pcod x1.2.2.2.1 x1.1 n5)) n7 n8))),(5,.v (ptr n1 0)),(11,.v (u64 (nz q n2 n3))),(12,.v (u64 x1.2.1))],[(0,some ⟨n1,true,0,(.lit [(Value.slice (((uz q n2 n3 (x1.1+1)).1).wa) (((uz q n2 n3 (x1.1+1)).1).wn) (((uz q n2 n3 (x1.1+1)).1).wc)),(int ((uz q n2 n3 (x1.1+1)).2))])⟩),(1,(gsE u8C [u8 0] 1 (cpG q n2 n3))),(2,(gsE slqC [Value.slice none 0 0] 1 (gsOf (x1.1+1) (usV (yz q n2 n3) (ez q n2 n3) (pcod x1.2.2.1 x1.1 n4) (pcod x1.2.2.2.1 x1.1 n5)) n7 n8))),(3,(plU (yz q n2 n3) (ez q n2 n3) (pcod x1.2.2.1 x1.1 n4) (pcod x1.2.2.2.1 x1.1 n5) (x1.1+1)))],4⟩ from by rw [plU_yes (Q:=(yz q n2 n3)) (E:=(ez q n2 n3)) (c:=x1.2.2.1) (d:=x1.2.2.2.1) (k:=x1.1) (n1:=n4) (n2:=n5) (oT h2),(list_U (Q:=(yz q n2 n3)) (E:=(ez q n2 n3)) (c:=x1.2.2.1) (d:=x1.2.2.2.1) (k:=x1.1) (n1:=n4) (n2:=n5) (A:=Grw.mk false n7 (x1.1+1) n8 (kz q x1 n2 n3 n4 n5)) rfl rfl rfl).1,(list_U (Q:=(yz q n2 n3)) (E:=(ez q n2 n3)) (c:=x1.2.2.1) (d:=x1.2.2.2.1) (k:=x1.1) (n1:=n4) (n2:=n5) (A:=Grw.mk false n7 (x1.1+1) n8 (kz q x1 n2 n3 n4 n5)) rfl rfl rfl).2]) (aI (aI (aT (@is_add64 Tryd.prog 30 30 (.tmp 12) (.const (.int .u64 1)) x1.2.1 1)) kV1) ((rnd (un_2_R1 q n1 n2 n3) (un_2_S1 q n1 n2 n3) (un_2_mu1 q n1 n2 n3) x1 ((x1.1+1,(x1.2.1+1),(pcod x1.2.2.1 x1.1 n4),(pcod x1.2.2.2.1 x1.1 n5),n7,n8):Nat × UInt64 × Nat × Nat × Nat × Nat) (show(un_2_R1 q n1 n2 n3) ((x1.1+1,(x1.2.1+1),(pcod x1.2.2.1 x1.1 n4),(pcod x1.2.2.2.1 x1.1 n5),n7,n8):Nat × UInt64 × Nat × Nat × Nat × Nat)∧(un_2_mu1 q n1 n2 n3) ((x1.1+1,(x1.2.1+1),(pcod x1.2.2.1 x1.1 n4),(pcod x1.2.2.2.1 x1.1 n5),n7,n8):Nat × UInt64 × Nat × Nat × Nat × Nat) < (un_2_mu1 q n1 n2 n3) x1 from(show((((x1.2.1+1):UInt64).toNat=(x1.1+1))∧((x1.1+1)≤10)∧((x1.1+1)≤(nz q n2 n3).toNat))∧(10 - (x1.1+1)) < (10 - x1.1) from by have h1:=cnt_next B0 h1; have h2:(nz q n2 n3).toNat≤10:=rsV_le _ _ 10; exact⟨⟨h1.1,by omega,by omega⟩,by omega⟩)))))))) (fun(h2:(decide (0 < usN (yz q n2 n3) (ez q n2 n3) x1.1))=false)=>have f5:=(oF h2); aI (show(⟨[(2,.v (u64 (rsV (recG (cpG q n2 n3)) 0 18446744073709551615))),(3,.v (gsV (Grw.mk false n7 (x1.1+1) n8 (kz q x1 n2 n3 n4 n5)))),(5,.v (ptr n1 0)),(11,.v (u64 (nz q n2 n3))),(12,.v (u64 x1.2.1))],[(0,some ⟨n1,true,0,(.lit [(Value.slice (((uz q n2 n3 (x1.1+1)).1).wa) (((uz q n2 n3 (x1.1+1)).1).wn) (((uz q n2 n3 (x1.1+1)).1).wc)),(int ((uz q n2 n3 (x1.1+1)).2))])⟩),(1,(gsE u8C [u8 0] 1 (cpG q n2 n3))),(2,(gsE slqC [Value.slice none 0 0] 1 (Grw.mk false n7 (x1.1+1) n8 (kz q x1 n2 n3 n4 n5)))),(3,(plU (yz q n2 n3) (ez q n2 n3) x1.2.2.1 x1.2.2.2.1 x1.1)),(4,(rbK (uz q n2 n3 x1.1).1 (uz q n2 n3 x1.1).2 1000 n4 n5))],5⟩:St)=⟨[(2,.v (u64 (rsV (recG (cpG q n2 n3)) 0 18446744073709551615))),(3,.v (gsV (Grw.mk false n7 (x1.1+1) n8 (kz q x1 n2 n3 n4 n5)))),(5,.v (ptr n1 0)),(11,.v (u64 (nz q n2 n3))),(12,.v (u64 x1.2.1))],[(0,some ⟨n1,true,0,(.lit [(Value.slice (((uz q n2 n3 (x1.1+1)).1).wa) (((uz q n2 n3 (x1.1+1)).1).wn) (((uz q n2 n3 (x1.1+1)).1).wc)),(int ((uz q n2 n3 (x1.1+1)).2))])⟩),(1,(gsE u8C [u8 0] 1 (cpG q n2 n3))),(2,(gsE slqC [Value.slice none 0 0] 1 (Grw.mk false n7 (x1.1+1) n8 (kz q x1 n2 n3 n4 n5)))),(3,(plU (yz q n2 n3) (ez q n2 n3) x1.2.2.1 x1.2.2.2.1 x1.1)),(4,none)],5⟩ from by(try unfold kz); (try unfold slqV); unfold rz uz; rw [rbK_no (Q:=(yz q n2 n3)) (E:=(ez q n2 n3)) (k:=x1.1) (oF h2)]) (aI (show(⟨[(2,.v (u64 (rsV (recG (cpG q n2 n3)) 0 18446744073709551615))),(3,.v (gsV (Grw.mk false n7 (x1.1+1) n8 (kz q x1 n2 n3 n4 n5)))),(5,.v (ptr n1 0)),(11,.v (u64 (nz q n2 n3))),(12,.v (u64 x1.2.1))],[(0,some ⟨n1,true,0,(.lit [(Value.slice (((uz q n2 n3 (x1.1+1)).1).wa) (((uz q n2 n3 (x1.1+1)).1).wn) (((uz q n2 n3 (x1.1+1)).1).wc)),(int ((uz q n2 n3 (x1.1+1)).2))])⟩),(1,(gsE u8C [u8 0] 1 (cpG q n2 n3))),(2,(gsE slqC [Value.slice none 0 0] 1 (Grw.mk false n7 (x1.1+1) n8 (kz q x1 n2 n3 n4 n5)))),(3,(plU (yz q n2 n3) (ez q n2 n3) x1.2.2.1 x1.2.2.2.1 x1.1))],4⟩:St)=⟨[(2,.v (u64 (rsV (recG (cpG q n2 n3)) 0 18446744073709551615))),(3,.v (gsV (gsOf (x1.1+1) (usV (yz q n2 n3) (ez q n2 n3) (pcod x1.2.2.1 x1.1 n4) (pcod x1.2.2.2.1 x1.1 n5)) n7 n8))),(5,.v (ptr n1 0)),(11,.v (u64 (nz q n2 n3))),(12,.v (u64 x1.2.1))],[(0,some ⟨n1,true,0,(.lit [(Value.slice (((uz q n2 n3 (x1.1+1)).1).wa) (((uz q n2 n3 (x1.1+1)).1).wn) (((uz q n2 n3 (x1.1+1)).1).wc)),(int ((uz q n2 n3 (x1.1+1)).2))])⟩),(1,(gsE u8C [u8 0] 1 (cpG q n2 n3))),(2,(gsE slqC [Value.slice none 0 0] 1 (gsOf (x1.1+1) (usV (yz q n2 n3) (ez q n2 n3) (pcod x1.2.2.1 x1.1 n4) (pcod x1.2.2.2.1 x1.1 n5)) n7 n8))),(3,(plU (yz q n2 n3) (ez q n2 n3) (pcod x1.2.2.1 x1.1 n4) (pcod x1.2.2.2.1 x1.1 n5) (x1.1+1)))],4⟩ from by rw [plU_no (Q:=(yz q n2 n3)) (E:=(ez q n2 n3)) (c:=x1.2.2.1) (d:=x1.2.2.2.1) (k:=x1.1) (n1:=n4) (n2:=n5) (oF h2),(list_U (Q:=(yz q n2 n3)) (E:=(ez q n2 n3)) (c:=x1.2.2.1) (d:=x1.2.2.2.1) (k:=x1.1) (n1:=n4) (n2:=n5) (A:=Grw.mk false n7 (x1.1+1) n8 (kz q x1 n2 n3 n4 n5)) rfl rfl rfl).1,(list_U (Q:=(yz q n2 n3)) (E:=(ez q n2 n3)) (c:=x1.2.2.1) (d:=x1.2.2.2.1) (k:=x1.1) (n1:=n4) (n2:=n5) (A:=Grw.mk false n7 (x1.1+1) n8 (kz q x1 n2 n3 n4 n5)) rfl rfl rfl).2]) (aI (aI (aT (@is_add64 Tryd.prog 30 30 (.tmp 12) (.const (.int .u64 1)) x1.2.1 1)) kV1) ((rnd (un_2_R1 q n1 n2 n3) (un_2_S1 q n1 n2 n3) (un_2_mu1 q n1 n2 n3) x1 ((x1.1+1,(x1.2.1+1),(pcod x1.2.2.1 x1.1 n4),(pcod x1.2.2.2.1 x1.1 n5),n7,n8):Nat × UInt64 × Nat × Nat × Nat × Nat) (show(un_2_R1 q n1 n2 n3) ((x1.1+1,(x1.2.1+1),(pcod x1.2.2.1 x1.1 n4),(pcod x1.2.2.2.1 x1.1 n5),n7,n8):Nat × UInt64 × Nat × Nat × Nat × Nat)∧(un_2_mu1 q n1 n2 n3) ((x1.1+1,(x1.2.1+1),(pcod x1.2.2.1 x1.1 n4),(pcod x1.2.2.2.1 x1.1 n5),n7,n8):Nat × UInt64 × Nat × Nat × Nat × Nat) < (un_2_mu1 q n1 n2 n3) x1 from(show((((x1.2.1+1):UInt64).toNat=(x1.1+1))∧((x1.1+1)≤10)∧((x1.1+1)≤(nz q n2 n3).toNat))∧(10 - (x1.1+1)) < (10 - x1.1) from by have h1:=cnt_next B0 h1; have h2:(nz q n2 n3).toNat≤10:=rsV_le _ _ 10; exact⟨⟨h1.1,by omega,by omega⟩,by omega⟩))))))))) (fun(h1:(decide (x1.2.1 < (nz q n2 n3)))=false)=>have f4:=(oF h1); aI (sk (aI (aT (rend_as (F:=famB q) n1 (uz q n2 n3 x1.1).1 (uz q n2 n3 x1.1).2 0 (by have e:x1.1=uN (recG (cpG q n2 n3)):=cnt_end B0 B2 h1; rw [e]; exact(same_cp hq n2 n3).uD.trans hd))) kV1)) (aI (sK3 (aI (aI (@rfl Bool true) t2) (aI (aI (@rfl Bool true) (aT (hasU (F:=famB q) (Q:=(yz q n2 n3)) (E:=(ez q n2 n3)) (c:=x1.2.2.1) (d:=x1.2.2.2.1) (k:=x1.1) (nm:=x1.2.2.2.2.1) (r:=x1.2.2.2.2.2) B1 (fun i=>Nat.le_trans (rbN_100 (RdR.small (RdR.small (rd_first hq hl n2 n3) 0 18446744073709551615) (rsE (recG (cpG q n2 n3)) 0 18446744073709551615) 10) (ez q n2 n3) i) (by decide))))) (aI (aI (@rfl Bool true) t2) (aI (fun(hg:(sB (inB (usB (yz q n2 n3) (ez q n2 n3)) x1.1 (bytZ none 0)) false)=true)=>t2) (aI (fun(hg:(sB (inB (usB (yz q n2 n3) (ez q n2 n3)) x1.1 (bytZ none 0)) false)=true)=>have f5:(inB (usB (yz q n2 n3) (ez q n2 n3)) x1.1 (bytZ none 0))=false:=(sameB_f hg); (aI (aI hg tV) (twU (F:=famB q) (Q:=(yz q n2 n3)) (E:=(ez q n2 n3)) (c:=x1.2.2.1) (d:=x1.2.2.2.1) (k:=x1.1) (nm:=x1.2.2.2.2.1) (r:=x1.2.2.2.2.2) B1 (fun i=>Nat.le_trans (rbN_100 (RdR.small (RdR.small (rd_first hq hl n2 n3) 0 18446744073709551615) (rsE (recG (cpG q n2 n3)) 0 18446744073709551615) 10) (ez q n2 n3) i) (by decide))))) (aI (aI (@rfl Bool true) (aT (aI (fun(_:(inB (usB (yz q n2 n3) (ez q n2 n3)) x1.1 (bytZ none 0))=true)=>tV) (fun(hp:(inB (usB (yz q n2 n3) (ez q n2 n3)) x1.1 (bytZ none 0))=false)=>(sameB_mkf hp))))) (aI (aT (aI (fun(_:true=true)=>tV) (fun(_:true=false)=>tV))) tV)))))))) ((fun(hp3:(selB true (selB (inB (usB (yz q n2 n3) (ez q n2 n3)) x1.1 (bytZ none 0)) true (twB (usB (yz q n2 n3) (ez q n2 n3)) x1.1)) false)=true)=>have f5:(true)=true:=(sband_l hp3); have f6:((inB (usB (yz q n2 n3) (ez q n2 n3)) x1.1 (bytZ none 0))=true)∨((twB (usB (yz q n2 n3) (ez q n2 n3)) x1.1)=true):=(Or.imp (fun h=>h) (fun h=>h) (sbor_t (sband_r hp3))); aT (aI hp3 (aI kV1 (aI kV2 (aT (aI (@rfl Bool true) (aI kV4 (aT (eX (fun(ns:List Nat)=>ns.length=0∧((Value.tuple #[(u64 0),(Value.slice none 0 0),(int 31)]):Value)=(fun _=>Value.tuple #[u64 0,Value.slice none 0 0,int 31]) ns∧([]:List (Option Blk))=(fun _=>[]) ns) [] (aI (@rfl Nat 0) (aI (@rfl Value (Value.tuple #[u64 0,Value.slice none 0 0,int 31])) (@rfl (List (Option Blk)) [])))))))))))) (show(selB true (selB (inB (usB (yz q n2 n3) (ez q n2 n3)) x1.1 (bytZ none 0)) true (twB (usB (yz q n2 n3) (ez q n2 n3)) x1.1)) false)=true from by have e:x1.1=uN (recG (cpG q n2 n3)):=cnt_end B0 B2 h1; rw [e]; exact(same_cp hq n2 n3).uB.trans hb)))))))))))))))
def un_0_S1 (q:BytL) (n1:Nat) (n2:Nat) (n3:Nat) (x1:Nat × UInt64 × Nat × Nat × Nat × Nat):St:=⟨[(2,.v (u64 (rsV (recG (cpG q n2 n3)) 0 18446744073709551615))),(3,.v (gsV (gz q x1 n2 n3))),(5,.v (ptr n1 0)),(11,.v (u64 (nz q n2 n3))),(12,.v (u64 x1.2.1))],[(0,some ⟨n1,true,0,(.lit [(Value.slice (((uz q n2 n3 x1.1).1).wa) (((uz q n2 n3 x1.1).1).wn) (((uz q n2 n3 x1.1).1).wc)),(int ((uz q n2 n3 x1.1).2))])⟩),(1,(gsE u8C [u8 0] 1 (cpG q n2 n3))),(2,(gsE slqC [Value.slice none 0 0] 1 (gz q x1 n2 n3))),(3,(plU (yz q n2 n3) (ez q n2 n3) x1.2.2.1 x1.2.2.2.1 x1.1))],4⟩
def un_0_R1 (q:BytL) (n1:Nat) (n2:Nat) (n3:Nat) (x1:Nat × UInt64 × Nat × Nat × Nat × Nat):Prop:=((x1.2.1:UInt64).toNat=x1.1)∧(x1.1≤10)∧(x1.1≤(nz q n2 n3).toNat)
def un_0_mu1 (q:BytL) (n1:Nat) (n2:Nat) (n3:Nat) (x1:Nat × UInt64 × Nat × Nat × Nat × Nat):Nat:=10 - x1.1
theorem un_0 (q:BytL) (hq:OkB q) (hl:q.wn≤100000) (hd:uD q=0) (hb:uB q=false):RunsO (famB q) Tryd.prog 18 [(Value.slice q.wa q.wn q.wc)] [] 4 (fun(ns:List Nat)=>(Value.tuple #[(u64 (uH q)),(gsV (gsOf (uN q) (usV (uQ q) (uE q) (ns.getD 0 0) (ns.getD 1 0)) (ns.getD 2 0) (ns.getD 3 0))),(int 0)])) (fun(ns:List Nat)=>[(gsE slqC [Value.slice none 0 0] 1 (gsOf (uN q) (usV (uQ q) (uE q) (ns.getD 0 0) (ns.getD 1 0)) (ns.getD 2 0) (ns.getD 3 0))),(plU (uQ q) (uE q) (ns.getD 0 0) (ns.getD 1 0) (uN q))]) :=
  runsO_of_ev mix Tryd.func18 rfl rfl 400 (.reg (rg [.g,.g,.g]) (.regn (rg [.g,(.callO [] 3 2 (fun ns=>ptr (ns.getD 0 0) 0) (fun ns=>[some ⟨(ns.getD 0 0),true,0,.lit [gsV (cpG q (ns.getD 1 0) (ns.getD 2 0)),int 0]⟩,(gsE u8C [u8 0] 1 (cpG q (ns.getD 1 0) (ns.getD 2 0)))])),.g]) (more (fun n1=>more (fun n2=>more (fun n3=>fun _=>(.reg (rg [.g,(.callO [(0,false),(1,true)] 0 0 (fun _=>(u64 (rsV (recG (cpG q n2 n3)) 0 18446744073709551615))) (fun _=>[some ⟨n1,true,0,.lit [slqV (rsQ (recG (cpG q n2 n3)) 0 18446744073709551615),int (rsE (recG (cpG q n2 n3)) 0 18446744073709551615)]⟩,none])),.g]) (.keep [0,2,3,4,6,7,5,8,9] [0,1] 4 (.reg (rg [.g,(.callO [(0,false),(1,true)] 0 0 (fun _=>(u64 (nz q n2 n3))) (fun _=>[some ⟨n1,true,0,.lit [slqV (yz q n2 n3),int (ez q n2 n3)]⟩,none])),.g]) (.inv [2,3,5,11,12] [0,1,2,3] 4 (un_0_R1 q n1 n2 n3) (un_0_S1 q n1 n2 n3) (un_0_mu1 q n1 n2 n3) ((0,0,0,0,0,0):Nat × UInt64 × Nat × Nat × Nat × Nat) (fun(x1:Nat × UInt64 × Nat × Nat × Nat × Nat)=>(.reg (rg [(.as (Value.bool (decide (x1.2.1 < (nz q n2 n3)))))]) (.br (.regn (rg [.g,.g,(.callO [(0,false),(1,true)] 2 1 (fun ns=>slqV (rbV (uz q n2 n3 x1.1).1 (uz q n2 n3 x1.1).2 1000 (ns.getD 0 0) (ns.getD 1 0))) (fun ns=>[some ⟨n1,true,0,.lit [slqV ((uz q n2 n3 (x1.1+1)).1),int ((uz q n2 n3 (x1.1+1)).2)]⟩,none,(rbK (uz q n2 n3 x1.1).1 (uz q n2 n3 x1.1).2 1000 (ns.getD 0 0) (ns.getD 1 0))])),.bsl,(.othOB [(2,false),(5,true)] 2 0 (fun ns=>gsV (Grw.mk false (ns.getD 0 0) (x1.1+1) (ns.getD 1 0) (catU ((gz q x1 n2 n3).f) x1.1 ((gz q x1 n2 n3).f)))) (fun bs ns=>[(gsE slqC [Value.slice none 0 0] 1 (Grw.mk false (ns.getD 0 0) (x1.1+1) (ns.getD 1 0) (catU ((gz q x1 n2 n3).f) x1.1 (fun _=>qOf (cellO bs 1))))),none])),.g]) (more (fun n4=>more (fun n5=>more (fun n6=>more (fun n7=>more (fun n8=>fun _=>(.both (decide (0 < usN (yz q n2 n3) (ez q n2 n3) x1.1)) (.keep [2,3,5,11,12] [0,1,2,3,4] 5 (.told ⟨[(2,.v (u64 (rsV (recG (cpG q n2 n3)) 0 18446744073709551615))),(3,.v (gsV (Grw.mk false n7 (x1.1+1) n8 (kz q x1 n2 n3 n4 n5)))),(5,.v (ptr n1 0)),(11,.v (u64 (nz q n2 n3))),(12,.v (u64 x1.2.1))],[(0,some ⟨n1,true,0,(.lit [(Value.slice (((uz q n2 n3 (x1.1+1)).1).wa) (((uz q n2 n3 (x1.1+1)).1).wn) (((uz q n2 n3 (x1.1+1)).1).wc)),(int ((uz q n2 n3 (x1.1+1)).2))])⟩),(1,(gsE u8C [u8 0] 1 (cpG q n2 n3))),(2,(gsE slqC [Value.slice none 0 0] 1 (Grw.mk false n7 (x1.1+1) n8 (kz q x1 n2 n3 n4 n5)))),(3,(plU (yz q n2 n3) (ez q n2 n3) x1.2.2.1 x1.2.2.2.1 x1.1)),(4,some ⟨n4,true,0,(spr (usN (yz q n2 n3) (ez q n2 n3) x1.1+n5) (usN (yz q n2 n3) (ez q n2 n3) x1.1) (fun k=>u8 (usW (yz q n2 n3) (ez q n2 n3) x1.1 k)) (u8 0))⟩)],5⟩ (.pack 4 3 10 (gU (yz q n2 n3) (ez q n2 n3) (pcod x1.2.2.1 x1.1 n4) (pcod x1.2.2.2.1 x1.1 n5) (x1.1+1)) (.keep [2,3,5,11,12] [0,1,2,3] 4 (.told ⟨[(2,.v (u64 (rsV (recG (cpG q n2 n3)) 0 18446744073709551615))),(3,.v (gsV (gsOf (x1.1+1) (usV (yz q n2 n3) (ez q n2 n3) (pcod x1.2.2.1 x1.1 n4) (pcod x1.2.2.2.1 x1.1 n5)) n7 n8))),(5,.v (ptr n1 0)),(11,.v (u64 (nz q n2 n3))),(12,.v (u64 x1.2.1))],[(0,some ⟨n1,true,0,(.lit [(Value.slice (((uz q n2 n3 (x1.1+1)).1).wa) (((uz q n2 n3 (x1.1+1)).1).wn) (((uz q n2 n3 (x1.1+1)).1).wc)),(int ((uz q n2 n3 (x1.1+1)).2))])⟩),(1,(gsE u8C [u8 0] 1 (cpG q n2 n3))),(2,(gsE slqC [Value.slice none 0 0] 1 (gsOf (x1.1+1) (usV (yz q n2 n3) (ez q n2 n3) (pcod x1.2.2.1 x1.1 n4) (pcod x1.2.2.2.1 x1.1 n5)) n7 n8))),(3,(plU (yz q n2 n3) (ez q n2 n3) (pcod x1.2.2.1 x1.1 n4) (pcod x1.2.2.2.1 x1.1 n5) (x1.1+1)))],4⟩ (.reg (rg [(.as (u64 (x1.2.1+1))),.g]) .done)))))) (.keep [2,3,5,11,12] [0,1,2,3,4] 5 (.told ⟨[(2,.v (u64 (rsV (recG (cpG q n2 n3)) 0 18446744073709551615))),(3,.v (gsV (Grw.mk false n7 (x1.1+1) n8 (kz q x1 n2 n3 n4 n5)))),(5,.v (ptr n1 0)),(11,.v (u64 (nz q n2 n3))),(12,.v (u64 x1.2.1))],[(0,some ⟨n1,true,0,(.lit [(Value.slice (((uz q n2 n3 (x1.1+1)).1).wa) (((uz q n2 n3 (x1.1+1)).1).wn) (((uz q n2 n3 (x1.1+1)).1).wc)),(int ((uz q n2 n3 (x1.1+1)).2))])⟩),(1,(gsE u8C [u8 0] 1 (cpG q n2 n3))),(2,(gsE slqC [Value.slice none 0 0] 1 (Grw.mk false n7 (x1.1+1) n8 (kz q x1 n2 n3 n4 n5)))),(3,(plU (yz q n2 n3) (ez q n2 n3) x1.2.2.1 x1.2.2.2.1 x1.1)),(4,none)],5⟩ (.keep [2,3,5,11,12] [0,1,2,3] 4 (.told ⟨[(2,.v (u64 (rsV (recG (cpG q n2 n3)) 0 18446744073709551615))),(3,.v (gsV (gsOf (x1.1+1) (usV (yz q n2 n3) (ez q n2 n3) (pcod x1.2.2.1 x1.1 n4) (pcod x1.2.2.2.1 x1.1 n5)) n7 n8))),(5,.v (ptr n1 0)),(11,.v (u64 (nz q n2 n3))),(12,.v (u64 x1.2.1))],[(0,some ⟨n1,true,0,(.lit [(Value.slice (((uz q n2 n3 (x1.1+1)).1).wa) (((uz q n2 n3 (x1.1+1)).1).wn) (((uz q n2 n3 (x1.1+1)).1).wc)),(int ((uz q n2 n3 (x1.1+1)).2))])⟩),(1,(gsE u8C [u8 0] 1 (cpG q n2 n3))),(2,(gsE slqC [Value.slice none 0 0] 1 (gsOf (x1.1+1) (usV (yz q n2 n3) (ez q n2 n3) (pcod x1.2.2.1 x1.1 n4) (pcod x1.2.2.2.1 x1.1 n5)) n7 n8))),(3,(plU (yz q n2 n3) (ez q n2 n3) (pcod x1.2.2.1 x1.1 n4) (pcod x1.2.2.2.1 x1.1 n5) (x1.1+1)))],4⟩ (.reg (rg [(.as (u64 (x1.2.1+1))),.g]) .done))))))))))))) (.reg (rg [.g,(.callO [(0,true)] 0 0 (fun _=>(int 0)) (fun _=>[none])),.g]) (.reg (rg [.g,.g,.g,(.run .g),(.run (.callO [(2,true),(3,true)] 0 0 (fun _=>(Value.bool (inB (usB (yz q n2 n3) (ez q n2 n3)) x1.1 (bytZ none 0)))) (fun _=>[none,none]))),(.run .g),(.opt .g),(.opt (.callO [(2,true),(3,true)] 0 0 (fun _=>(Value.bool (twB (usB (yz q n2 n3) (ez q n2 n3)) x1.1))) (fun _=>[none,none]))),(.run .pk),.pk]) (.no (.reg (rg [.g,.g]) (.no (.keep [2,3] [2,3] 4 (.told ⟨[(2,.v (u64 (uH q))),(3,.v (gsV (gsOf (uN q) (usV (uQ q) (uE q) x1.2.2.1 x1.2.2.2.1) x1.2.2.2.2.1 x1.2.2.2.2.2)))],[(2,(gsE slqC [Value.slice none 0 0] 1 (gsOf (uN q) (usV (uQ q) (uE q) x1.2.2.1 x1.2.2.2.1) x1.2.2.2.2.1 x1.2.2.2.2.2))),(3,(plU (uQ q) (uE q) x1.2.2.1 x1.2.2.2.1 (uN q)))],4⟩ (.reg (rg [.g,.g,.g,.g,.g]) .done))))))))))))))))))))) [] [2,3] rfl
    (Eq.mp (by kernel_rfl) (aI kV3 (fun(n1 n2 n3:Nat)=>aI (sk (aI (aT (new_G q hq (Nat.le_trans hl (by decide)))) kV1)) (aI (sk (aI (aT (RdR.lend (F:=famB q) (rd_first hq hl n2 n3) (rsmall_fam n1 (recG (cpG q n2 n3)) 0 18446744073709551615 (rd_first hq hl n2 n3).ok (rd_first hq hl n2 n3).le) (fun _=>⟨rfl,tV⟩))) kV1)) ((aI (sk (aI (aT (RdR.lend (F:=famB q) (RdR.small (rd_first hq hl n2 n3) 0 18446744073709551615) (rsmall_fam n1 (rsQ (recG (cpG q n2 n3)) 0 18446744073709551615) (rsE (recG (cpG q n2 n3)) 0 18446744073709551615) 10 (RdR.small (rd_first hq hl n2 n3) 0 18446744073709551615).ok (RdR.small (rd_first hq hl n2 n3) 0 18446744073709551615).le) (fun _=>⟨rfl,tV⟩))) kV1)) (aI (show(un_0_R1 q n1 n2 n3) ((0,0,0,0,0,0):Nat × UInt64 × Nat × Nat × Nat × Nat) from(show((0:UInt64).toNat=0)∧(0≤10)∧(0≤(nz q n2 n3).toNat) from by exact⟨rfl,by decide,Nat.zero_le _⟩)) (aI (@rfl St ((un_0_S1 q n1 n2 n3) ((0,0,0,0,0,0):Nat × UInt64 × Nat × Nat × Nat × Nat))) (fun(x1:Nat × UInt64 × Nat × Nat × Nat × Nat) (hx1:(un_0_R1 q n1 n2 n3) x1)=>have B0:(x1.2.1:UInt64).toNat=x1.1:=hx1.1; have B1:x1.1≤10:=hx1.2.1; have B2:x1.1≤(nz q n2 n3).toNat:=hx1.2.2; aI (aI (aT (@is_lss64 Tryd.prog 30 30 (.tmp 12) (.tmp 11) x1.2.1 (nz q n2 n3))) tV) (aT (aI (fun(h1:(decide (x1.2.1 < (nz q n2 n3)))=true)=>have f4:=(oT h1); fun(n4 n5 n6 n7 n8:Nat)=>aI (sK2 (aI (aT (RdR.lend (F:=famB q) (RdR.us (RdR.small (RdR.small (rd_first hq hl n2 n3) 0 18446744073709551615) (rsE (recG (cpG q n2 n3)) 0 18446744073709551615) 10) (ez q n2 n3) x1.1) (rbytes_v n1 (uz q n2 n3 x1.1).1 (uz q n2 n3 x1.1).2 1000 (RdR.us (RdR.small (RdR.small (rd_first hq hl n2 n3) 0 18446744073709551615) (rsE (recG (cpG q n2 n3)) 0 18446744073709551615) 10) (ez q n2 n3) x1.1).ok (RdR.us (RdR.small (RdR.small (rd_first hq hl n2 n3) 0 18446744073709551615) (rsE (recG (cpG q n2 n3)) 0 18446744073709551615) 10) (ez q n2 n3) x1.1).le (by decide)) (fun _=>⟨rfl,rbK_own⟩))) (aI (aT (mk_build (P:=Tryd.prog) (t:=35) (e:=23) one23 1 #[(0,(slqV (rz q n2 n3 x1.1 n4 n5)))] #[(slqV (rz q n2 n3 x1.1 n4 n5))] (by kernel_rfl) (by decide) (by kernel_rfl))) (aI (aT (mkG_catE (P:=Tryd.prog) (t:=35) (ty:=35) (e:=23) (by kernel_rfl) agg23 (gz q x1 n2 n3) (gsOf_ok _ _ _ _) slqC_ok (fun _=>(qOf (slqV (rz q n2 n3 x1.1 n4 n5)))) 1 (some ⟨n6,0,none⟩) 1 (some ⟨n6,false,0,(.lit [(slqV (rz q n2 n3 x1.1 n4 n5))])⟩) (fun _=>⟨_,_,_,_,rfl,rfl,(lit_src (sz:=1) (l:=slqC (qOf (slqV (rz q n2 n3 x1.1 n4 n5)))) rfl)⟩) (show(x1.1+1)*24≤140737488355328∧x1.1+1≤9223372036854775807 from by omega))) kV1)))) (aI (fun(h2:(decide (0 < usN (yz q n2 n3) (ez q n2 n3) x1.1))=true)=>have f5:=(oT h2); aI (show(⟨[(2,.v (u64 (rsV (recG (cpG q n2 n3)) 0 18446744073709551615))),(3,.v (gsV (Grw.mk false n7 (x1.1+1) n8 (kz q x1 n2 n3 n4 n5)))),(5,.v (ptr n1 0)),(11,.v (u64 (nz q n2 n3))),(12,.v (u64 x1.2.1))],[(0,some ⟨n1,true,0,(.lit [(Value.slice (((uz q n2 n3 (x1.1+1)).1).wa) (((uz q n2 n3 (x1.1+1)).1).wn) (((uz q n2 n3 (x1.1+1)).1).wc)),(int ((uz q n2 n3 (x1.1+1)).2))])⟩),(1,(gsE u8C [u8 0] 1 (cpG q n2 n3))),(2,(gsE slqC [Value.slice none 0 0] 1 (Grw.mk false n7 (x1.1+1) n8 (kz q x1 n2 n3 n4 n5)))),(3,(plU (yz q n2 n3) (ez q n2 n3) x1.2.2.1 x1.2.2.2.1 x1.1)),(4,(rbK (uz q n2 n3 x1.1).1 (uz q n2 n3 x1.1).2 1000 n4 n5))],5⟩:St)=⟨[(2,.v (u64 (rsV (recG (cpG q n2 n3)) 0 18446744073709551615))),(3,.v (gsV (Grw.mk false n7 (x1.1+1) n8 (kz q x1 n2 n3 n4 n5)))),(5,.v (ptr n1 0)),(11,.v (u64 (nz q n2 n3))),(12,.v (u64 x1.2.1))],[(0,some ⟨n1,true,0,(.lit [(Value.slice (((uz q n2 n3 (x1.1+1)).1).wa) (((uz q n2 n3 (x1.1+1)).1).wn) (((uz q n2 n3 (x1.1+1)).1).wc)),(int ((uz q n2 n3 (x1.1+1)).2))])⟩),(1,(gsE u8C [u8 0] 1 (cpG q n2 n3))),(2,(gsE slqC [Value.slice none 0 0] 1 (Grw.mk false n7 (x1.1+1) n8 (kz q x1 n2 n3 n4 n5)))),(3,(plU (yz q n2 n3) (ez q n2 n3) x1.2.2.1 x1.2.2.2.1 x1.1)),(4,some ⟨n4,true,0,(spr (usN (yz q n2 n3) (ez q n2 n3) x1.1+n5) (usN (yz q n2 n3) (ez q n2 n3) x1.1) (fun k=>u8 (usW (yz q n2 n3) (ez q n2 n3) x1.1 k)) (u8 0))⟩)],5⟩ from by(try unfold kz); (try unfold slqV); unfold rz uz; rw [rbK_pos (Q:=(yz q n2 n3)) (E:=(ez q n2 n3)) (k:=x1.1) (oT h2)]) (aI (pack_U (Q:=(yz q n2 n3)) (E:=(ez q n2 n3)) (c:=x1.2.2.1) (d:=x1.2.2.2.1) (k:=x1.1) (n1:=n4) (n2:=n5) (oT h2)) (aI (show(⟨[(2,.v (u64 (rsV (recG (cpG q n2 n3)) 0 18446744073709551615))),(3,.v (gsV (Grw.mk false n7 (x1.1+1) n8 (kz q x1 n2 n3 n4 n5)))),(5,.v (ptr n1 0)),(11,.v (u64 (nz q n2 n3))),(12,.v (u64 x1.2.1))],[(0,some ⟨n1,true,0,(.lit [(Value.slice (((uz q n2 n3 (x1.1+1)).1).wa) (((uz q n2 n3 (x1.1+1)).1).wn) (((uz q n2 n3 (x1.1+1)).1).wc)),(int ((uz q n2 n3 (x1.1+1)).2))])⟩),(1,(gsE u8C [u8 0] 1 (cpG q n2 n3))),(2,(gsE slqC [Value.slice none 0 0] 1 (Grw.mk false n7 (x1.1+1) n8 (kz q x1 n2 n3 n4 n5)))),(3,some ⟨n4,true,0,.pile 10 (gU (yz q n2 n3) (ez q n2 n3) (pcod x1.2.2.1 x1.1 n4) (pcod x1.2.2.2.1 x1.1 n5) (x1.1+1))⟩)],4⟩:St)=⟨[(2,.v (u64 (rsV (recG (cpG q n2 n3)) 0 18446744073709551615))),(3,.v (gsV (gsOf (x1.1+1) (usV (yz q n2 n3) (ez q n2 n3) (pcod x1.2.2.1 x1.1 n4) (pcod x1.2.2.2.1 x1.1 n5)) n7 n8))),(5,.v (ptr n1 0)),(11,.v (u64 (nz q n2 n3))),(12,.v (u64 x1.2.1))],[(0,some ⟨n1,true,0,(.lit [(Value.slice (((uz q n2 n3 (x1.1+1)).1).wa) (((uz q n2 n3 (x1.1+1)).1).wn) (((uz q n2 n3 (x1.1+1)).1).wc)),(int ((uz q n2 n3 (x1.1+1)).2))])⟩),(1,(gsE u8C [u8 0] 1 (cpG q n2 n3))),(2,(gsE slqC [Value.slice none 0 0] 1 (gsOf (x1.1+1) (usV (yz q n2 n3) (ez q n2 n3) (pcod x1.2.2.1 x1.1 n4) (pcod x1.2.2.2.1 x1.1 n5)) n7 n8))),(3,(plU (yz q n2 n3) (ez q n2 n3) (pcod x1.2.2.1 x1.1 n4) (pcod x1.2.2.2.1 x1.1 n5) (x1.1+1)))],4⟩ from by rw [plU_yes (Q:=(yz q n2 n3)) (E:=(ez q n2 n3)) (c:=x1.2.2.1) (d:=x1.2.2.2.1) (k:=x1.1) (n1:=n4) (n2:=n5) (oT h2),(list_U (Q:=(yz q n2 n3)) (E:=(ez q n2 n3)) (c:=x1.2.2.1) (d:=x1.2.2.2.1) (k:=x1.1) (n1:=n4) (n2:=n5) (A:=Grw.mk false n7 (x1.1+1) n8 (kz q x1 n2 n3 n4 n5)) rfl rfl rfl).1,(list_U (Q:=(yz q n2 n3)) (E:=(ez q n2 n3)) (c:=x1.2.2.1) (d:=x1.2.2.2.1) (k:=x1.1) (n1:=n4) (n2:=n5) (A:=Grw.mk false n7 (x1.1+1) n8 (kz q x1 n2 n3 n4 n5)) rfl rfl rfl).2]) (aI (aI (aT (@is_add64 Tryd.prog 30 30 (.tmp 12) (.const (.int .u64 1)) x1.2.1 1)) kV1) ((rnd (un_0_R1 q n1 n2 n3) (un_0_S1 q n1 n2 n3) (un_0_mu1 q n1 n2 n3) x1 ((x1.1+1,(x1.2.1+1),(pcod x1.2.2.1 x1.1 n4),(pcod x1.2.2.2.1 x1.1 n5),n7,n8):Nat × UInt64 × Nat × Nat × Nat × Nat) (show(un_0_R1 q n1 n2 n3) ((x1.1+1,(x1.2.1+1),(pcod x1.2.2.1 x1.1 n4),(pcod x1.2.2.2.1 x1.1 n5),n7,n8):Nat × UInt64 × Nat × Nat × Nat × Nat)∧(un_0_mu1 q n1 n2 n3) ((x1.1+1,(x1.2.1+1),(pcod x1.2.2.1 x1.1 n4),(pcod x1.2.2.2.1 x1.1 n5),n7,n8):Nat × UInt64 × Nat × Nat × Nat × Nat) < (un_0_mu1 q n1 n2 n3) x1 from(show((((x1.2.1+1):UInt64).toNat=(x1.1+1))∧((x1.1+1)≤10)∧((x1.1+1)≤(nz q n2 n3).toNat))∧(10 - (x1.1+1)) < (10 - x1.1) from by have h1:=cnt_next B0 h1; have h2:(nz q n2 n3).toNat≤10:=rsV_le _ _ 10; exact⟨⟨h1.1,by omega,by omega⟩,by omega⟩)))))))) (fun(h2:(decide (0 < usN (yz q n2 n3) (ez q n2 n3) x1.1))=false)=>have f5:=(oF h2); aI (show(⟨[(2,.v (u64 (rsV (recG (cpG q n2 n3)) 0 18446744073709551615))),(3,.v (gsV (Grw.mk false n7 (x1.1+1) n8 (kz q x1 n2 n3 n4 n5)))),(5,.v (ptr n1 0)),(11,.v (u64 (nz q n2 n3))),(12,.v (u64 x1.2.1))],[(0,some ⟨n1,true,0,(.lit [(Value.slice (((uz q n2 n3 (x1.1+1)).1).wa) (((uz q n2 n3 (x1.1+1)).1).wn) (((uz q n2 n3 (x1.1+1)).1).wc)),(int ((uz q n2 n3 (x1.1+1)).2))])⟩),(1,(gsE u8C [u8 0] 1 (cpG q n2 n3))),(2,(gsE slqC [Value.slice none 0 0] 1 (Grw.mk false n7 (x1.1+1) n8 (kz q x1 n2 n3 n4 n5)))),(3,(plU (yz q n2 n3) (ez q n2 n3) x1.2.2.1 x1.2.2.2.1 x1.1)),(4,(rbK (uz q n2 n3 x1.1).1 (uz q n2 n3 x1.1).2 1000 n4 n5))],5⟩:St)=⟨[(2,.v (u64 (rsV (recG (cpG q n2 n3)) 0 18446744073709551615))),(3,.v (gsV (Grw.mk false n7 (x1.1+1) n8 (kz q x1 n2 n3 n4 n5)))),(5,.v (ptr n1 0)),(11,.v (u64 (nz q n2 n3))),(12,.v (u64 x1.2.1))],[(0,some ⟨n1,true,0,(.lit [(Value.slice (((uz q n2 n3 (x1.1+1)).1).wa) (((uz q n2 n3 (x1.1+1)).1).wn) (((uz q n2 n3 (x1.1+1)).1).wc)),(int ((uz q n2 n3 (x1.1+1)).2))])⟩),(1,(gsE u8C [u8 0] 1 (cpG q n2 n3))),(2,(gsE slqC [Value.slice none 0 0] 1 (Grw.mk false n7 (x1.1+1) n8 (kz q x1 n2 n3 n4 n5)))),(3,(plU (yz q n2 n3) (ez q n2 n3) x1.2.2.1 x1.2.2.2.1 x1.1)),(4,none)],5⟩ from by(try unfold kz); (try unfold slqV); unfold rz uz; rw [rbK_no (Q:=(yz q n2 n3)) (E:=(ez q n2 n3)) (k:=x1.1) (oF h2)]) (aI (show(⟨[(2,.v (u64 (rsV (recG (cpG q n2 n3)) 0 18446744073709551615))),(3,.v (gsV (Grw.mk false n7 (x1.1+1) n8 (kz q x1 n2 n3 n4 n5)))),(5,.v (ptr n1 0)),(11,.v (u64 (nz q n2 n3))),(12,.v (u64 x1.2.1))],[(0,some ⟨n1,true,0,(.lit [(Value.slice (((uz q n2 n3 (x1.1+1)).1).wa) (((uz q n2 n3 (x1.1+1)).1).wn) (((uz q n2 n3 (x1.1+1)).1).wc)),(int ((uz q n2 n3 (x1.1+1)).2))])⟩),(1,(gsE u8C [u8 0] 1 (cpG q n2 n3))),(2,(gsE slqC [Value.slice none 0 0] 1 (Grw.mk false n7 (x1.1+1) n8 (kz q x1 n2 n3 n4 n5)))),(3,(plU (yz q n2 n3) (ez q n2 n3) x1.2.2.1 x1.2.2.2.1 x1.1))],4⟩:St)=⟨[(2,.v (u64 (rsV (recG (cpG q n2 n3)) 0 18446744073709551615))),(3,.v (gsV (gsOf (x1.1+1) (usV (yz q n2 n3) (ez q n2 n3) (pcod x1.2.2.1 x1.1 n4) (pcod x1.2.2.2.1 x1.1 n5)) n7 n8))),(5,.v (ptr n1 0)),(11,.v (u64 (nz q n2 n3))),(12,.v (u64 x1.2.1))],[(0,some ⟨n1,true,0,(.lit [(Value.slice (((uz q n2 n3 (x1.1+1)).1).wa) (((uz q n2 n3 (x1.1+1)).1).wn) (((uz q n2 n3 (x1.1+1)).1).wc)),(int ((uz q n2 n3 (x1.1+1)).2))])⟩),(1,(gsE u8C [u8 0] 1 (cpG q n2 n3))),(2,(gsE slqC [Value.slice none 0 0] 1 (gsOf (x1.1+1) (usV (yz q n2 n3) (ez q n2 n3) (pcod x1.2.2.1 x1.1 n4) (pcod x1.2.2.2.1 x1.1 n5)) n7 n8))),(3,(plU (yz q n2 n3) (ez q n2 n3) (pcod x1.2.2.1 x1.1 n4) (pcod x1.2.2.2.1 x1.1 n5) (x1.1+1)))],4⟩ from by rw [plU_no (Q:=(yz q n2 n3)) (E:=(ez q n2 n3)) (c:=x1.2.2.1) (d:=x1.2.2.2.1) (k:=x1.1) (n1:=n4) (n2:=n5) (oF h2),(list_U (Q:=(yz q n2 n3)) (E:=(ez q n2 n3)) (c:=x1.2.2.1) (d:=x1.2.2.2.1) (k:=x1.1) (n1:=n4) (n2:=n5) (A:=Grw.mk false n7 (x1.1+1) n8 (kz q x1 n2 n3 n4 n5)) rfl rfl rfl).1,(list_U (Q:=(yz q n2 n3)) (E:=(ez q n2 n3)) (c:=x1.2.2.1) (d:=x1.2.2.2.1) (k:=x1.1) (n1:=n4) (n2:=n5) (A:=Grw.mk false n7 (x1.1+1) n8 (kz q x1 n2 n3 n4 n5)) rfl rfl rfl).2]) (aI (aI (aT (@is_add64 Tryd.prog 30 30 (.tmp 12) (.const (.int .u64 1)) x1.2.1 1)) kV1) ((rnd (un_0_R1 q n1 n2 n3) (un_0_S1 q n1 n2 n3) (un_0_mu1 q n1 n2 n3) x1 ((x1.1+1,(x1.2.1+1),(pcod x1.2.2.1 x1.1 n4),(pcod x1.2.2.2.1 x1.1 n5),n7,n8):Nat × UInt64 × Nat × Nat × Nat × Nat) (show(un_0_R1 q n1 n2 n3) ((x1.1+1,(x1.2.1+1),(pcod x1.2.2.1 x1.1 n4),(pcod x1.2.2.2.1 x1.1 n5),n7,n8):Nat × UInt64 × Nat × Nat × Nat × Nat)∧(un_0_mu1 q n1 n2 n3) ((x1.1+1,(x1.2.1+1),(pcod x1.2.2.1 x1.1 n4),(pcod x1.2.2.2.1 x1.1 n5),n7,n8):Nat × UInt64 × Nat × Nat × Nat × Nat) < (un_0_mu1 q n1 n2 n3) x1 from(show((((x1.2.1+1):UInt64).toNat=(x1.1+1))∧((x1.1+1)≤10)∧((x1.1+1)≤(nz q n2 n3).toNat))∧(10 - (x1.1+1)) < (10 - x1.1) from by have h1:=cnt_next B0 h1; have h2:(nz q n2 n3).toNat≤10:=rsV_le _ _ 10; exact⟨⟨h1.1,by omega,by omega⟩,by omega⟩))))))))) (fun(h1:(decide (x1.2.1 < (nz q n2 n3)))=false)=>have f4:=(oF h1); aI (sk (aI (aT (rend_as (F:=famB q) n1 (uz q n2 n3 x1.1).1 (uz q n2 n3 x1.1).2 0 (by have e:x1.1=uN (recG (cpG q n2 n3)):=cnt_end B0 B2 h1; rw [e]; exact(same_cp hq n2 n3).uD.trans hd))) kV1)) (aI (sK3 (aI (aI (@rfl Bool true) t2) (aI (aI (@rfl Bool true) (aT (hasU (F:=famB q) (Q:=(yz q n2 n3)) (E:=(ez q n2 n3)) (c:=x1.2.2.1) (d:=x1.2.2.2.1) (k:=x1.1) (nm:=x1.2.2.2.2.1) (r:=x1.2.2.2.2.2) B1 (fun i=>Nat.le_trans (rbN_100 (RdR.small (RdR.small (rd_first hq hl n2 n3) 0 18446744073709551615) (rsE (recG (cpG q n2 n3)) 0 18446744073709551615) 10) (ez q n2 n3) i) (by decide))))) (aI (aI (@rfl Bool true) t2) (aI (fun(hg:(sB (inB (usB (yz q n2 n3) (ez q n2 n3)) x1.1 (bytZ none 0)) false)=true)=>t2) (aI (fun(hg:(sB (inB (usB (yz q n2 n3) (ez q n2 n3)) x1.1 (bytZ none 0)) false)=true)=>have f5:(inB (usB (yz q n2 n3) (ez q n2 n3)) x1.1 (bytZ none 0))=false:=(sameB_f hg); (aI (aI hg tV) (twU (F:=famB q) (Q:=(yz q n2 n3)) (E:=(ez q n2 n3)) (c:=x1.2.2.1) (d:=x1.2.2.2.1) (k:=x1.1) (nm:=x1.2.2.2.2.1) (r:=x1.2.2.2.2.2) B1 (fun i=>Nat.le_trans (rbN_100 (RdR.small (RdR.small (rd_first hq hl n2 n3) 0 18446744073709551615) (rsE (recG (cpG q n2 n3)) 0 18446744073709551615) 10) (ez q n2 n3) i) (by decide))))) (aI (aI (@rfl Bool true) (aT (aI (fun(_:(inB (usB (yz q n2 n3) (ez q n2 n3)) x1.1 (bytZ none 0))=true)=>tV) (fun(hp:(inB (usB (yz q n2 n3) (ez q n2 n3)) x1.1 (bytZ none 0))=false)=>(sameB_mkf hp))))) (aI (aT (aI (fun(_:true=true)=>tV) (fun(_:true=false)=>tV))) tV)))))))) ((fun(hp3:(selB true (selB (inB (usB (yz q n2 n3) (ez q n2 n3)) x1.1 (bytZ none 0)) true (twB (usB (yz q n2 n3) (ez q n2 n3)) x1.1)) false)=false)=>aT (aI hp3 (aI kV2 (aT (aI (@rfl Bool false) (aI (show(⟨[(2,.v (u64 (rsV (recG (cpG q n2 n3)) 0 18446744073709551615))),(3,.v (gsV (gz q x1 n2 n3)))],[(2,(gsE slqC [Value.slice none 0 0] 1 (gz q x1 n2 n3))),(3,(plU (yz q n2 n3) (ez q n2 n3) x1.2.2.1 x1.2.2.2.1 x1.1))],4⟩:St)=⟨[(2,.v (u64 (uH q))),(3,.v (gsV (gsOf (uN q) (usV (uQ q) (uE q) x1.2.2.1 x1.2.2.2.1) x1.2.2.2.2.1 x1.2.2.2.2.2)))],[(2,(gsE slqC [Value.slice none 0 0] 1 (gsOf (uN q) (usV (uQ q) (uE q) x1.2.2.1 x1.2.2.2.1) x1.2.2.2.2.1 x1.2.2.2.2.2))),(3,(plU (uQ q) (uE q) x1.2.2.1 x1.2.2.2.1 (uN q)))],4⟩ from by have e:x1.1=uN (recG (cpG q n2 n3)):=cnt_end B0 B2 h1; have a0:=(same_cp hq n2 n3).uN; have a1:rsV (recG (cpG q n2 n3)) 0 18446744073709551615=uH q:=(same_cp hq n2 n3).uH; have a2:usV (yz q n2 n3) (ez q n2 n3) x1.2.2.1 x1.2.2.2.1=usV (uQ q) (uE q) x1.2.2.1 x1.2.2.2.1:=us_cp_V hq n2 n3 x1.2.2.1 x1.2.2.2.1; have a3:plU (yz q n2 n3) (ez q n2 n3) x1.2.2.1 x1.2.2.2.1 (uN q)=plU (uQ q) (uE q) x1.2.2.1 x1.2.2.2.1 (uN q):=us_cp_P hq n2 n3 x1.2.2.1 x1.2.2.2.1 _; unfold gz; rw [e,a0,a1,a2,a3]) (aI (sk kV4) (aT (eX (fun(ns:List Nat)=>ns.length=4∧((Value.tuple #[(u64 (uH q)),(gsV (gsOf (uN q) (usV (uQ q) (uE q) x1.2.2.1 x1.2.2.2.1) x1.2.2.2.2.1 x1.2.2.2.2.2)),(int 0)]):Value)=(fun(ns:List Nat)=>(Value.tuple #[(u64 (uH q)),(gsV (gsOf (uN q) (usV (uQ q) (uE q) (ns.getD 0 0) (ns.getD 1 0)) (ns.getD 2 0) (ns.getD 3 0))),(int 0)])) ns∧([(gsE slqC [Value.slice none 0 0] 1 (gsOf (uN q) (usV (uQ q) (uE q) x1.2.2.1 x1.2.2.2.1) x1.2.2.2.2.1 x1.2.2.2.2.2)),(plU (uQ q) (uE q) x1.2.2.1 x1.2.2.2.1 (uN q))]:List (Option Blk))=(fun(ns:List Nat)=>[(gsE slqC [Value.slice none 0 0] 1 (gsOf (uN q) (usV (uQ q) (uE q) (ns.getD 0 0) (ns.getD 1 0)) (ns.getD 2 0) (ns.getD 3 0))),(plU (uQ q) (uE q) (ns.getD 0 0) (ns.getD 1 0) (uN q))]) ns) [x1.2.2.1,x1.2.2.2.1,x1.2.2.2.2.1,x1.2.2.2.2.2] (aI (@rfl Nat 4) (aI (@rfl Value (Value.tuple #[(u64 (uH q)),(gsV (gsOf (uN q) (usV (uQ q) (uE q) x1.2.2.1 x1.2.2.2.1) x1.2.2.2.2.1 x1.2.2.2.2.2)),(int 0)])) (@rfl (List (Option Blk)) [(gsE slqC [Value.slice none 0 0] 1 (gsOf (uN q) (usV (uQ q) (uE q) x1.2.2.1 x1.2.2.2.1) x1.2.2.2.2.1 x1.2.2.2.2.2)),(plU (uQ q) (uE q) x1.2.2.1 x1.2.2.2.1 (uN q))])))))))))))) (show(selB true (selB (inB (usB (yz q n2 n3) (ez q n2 n3)) x1.1 (bytZ none 0)) true (twB (usB (yz q n2 n3) (ez q n2 n3)) x1.1)) false)=false from by have e:x1.1=uN (recG (cpG q n2 n3)):=cnt_end B0 B2 h1; rw [e]; exact(same_cp hq n2 n3).uB.trans hb)))))))))))))))
theorem unpack_run (q:BytL) (hq:OkB q) (hl:q.wn≤100000):RunsO (famB q) Tryd.prog 18 [slqV q] [] 4 (fun ns=>.tuple #[u64 (unH q),gsV (unL q (ns.getD 0 0) (ns.getD 1 0) (ns.getD 2 0) (ns.getD 3 0)),int (unX q)]) (fun ns=>[gsE slqC [Value.slice none 0 0] 1 (unL q (ns.getD 0 0) (ns.getD 1 0) (ns.getD 2 0) (ns.getD 3 0)),unP q (ns.getD 0 0) (ns.getD 1 0)]):=by
  by_cases hd:uD q=0
  · cases hb:uB q with
    | true =>
      have e:=unX_2 hd hb
      simp only [e,un_no (show unX q≠0 by rw [e]; decide)]
      exact(un_2 q hq hl hd hb).as (.refl _) (fun _=>[0,0,0,0]) fun ns _=>⟨rfl,rfl,.dn (.dn (.zz _)),tV⟩
    | false =>
      have e:=unX_0 hd hb
      simp only [e,un_yes e]
      exact un_0 q hq hl hd hb
  · have e:=unX_1 hd
    simp only [e,un_no (show unX q≠0 by rw [e]; exact hd)]
    exact(un_1 q hq hl hd).as (.refl _) (fun _=>[0,0,0,0]) fun ns _=>⟨rfl,rfl,.dn (.dn (.zz _)),tV⟩
end Go.Proofs.YtmdpendnbkajdaaDoor
end
section
namespace Go.Eng
def drP (B:BytL) (i j:Nat):BytL:=bytF (bytT B j) i
section
variable {B:BytL} {i j:Nat}
end
def atS (Q:BytL) (E:Int) (a:Nat):Nat:=if E≠0∨Q.wn=0 then a else if 8 < (Q.wf 0).toNat∨Q.wn - 1 < (Q.wf 0).toNat then a+1 else a+1+(Q.wf 0).toNat
section
variable {B Q:BytL} {E:Int} {a:Nat} {l:UInt64}
theorem atS_2 (h:0 < Q.wn) (h2:(Q.wf 0).toNat≤8) (h3:(Q.wf 0).toNat≤Q.wn - 1):atS Q 0 a=a+1+(Q.wf 0).toNat:=by
  unfold atS; rw [if_neg (by omega),if_neg (by omega)]
theorem atS_le (ha:a≤B.wn):atS (bytF B a) E a≤B.wn:=by
  have e:(bytF B a).wn=B.wn - a:=rfl
  unfold atS
  split
  · exact ha
  · rename_i h1
    split
    · omega
    · omega
end
structure RlR (Q:BytL) (B:BytL) (a:Nat) (E:Int):Prop where
  le:a≤B.wn
  n:E=0→Q.wn=B.wn - a
  f:E=0→∀ k,Q.wf k=B.wf (k+a)
section
variable {B Q:BytL} {E:Int} {a:Nat} {l:UInt64}
theorem RlR.fe (h:RlR Q B a E) (hE:E=0):Q.wf=(bytF B a).wf:=funext fun k=>h.f hE k
theorem RlR.rsE (h:RlR Q B a E) (l:UInt64):Go.Eng.rsE (bytF B a) E l=Go.Eng.rsE Q E l:=by
  by_cases hE:E=0
  · subst hE
    unfold Go.Eng.rsE
    rw [h.fe rfl,h.n rfl]; rfl
  · rw [(rs_keep hE).1,(rs_keep hE).1]
theorem RlR.rsV (h:RlR Q B a E) (l:UInt64):Go.Eng.rsV (bytF B a) E l=Go.Eng.rsV Q E l:=by
  by_cases hE:E=0
  · unfold Go.Eng.rsV
    rw [h.rsE l,h.fe hE]
  · rw [(rs_keep hE).2,(rs_keep hE).2]
theorem RlR.small (h:RlR Q B a E) (l:UInt64):RlR (Go.Eng.rsQ Q E l) B (atS (bytF B a) E a) (Go.Eng.rsE Q E l):=by
  refine⟨atS_le h.le,fun h0=>?_,fun h0 k=>?_⟩
  all_goals
    have hE:E=0:=(failE_zero h0).1
    subst hE
    obtain⟨z1,z2,z3,z4⟩:=rs_zero h0
    have e1:(bytF B a).wf 0=Q.wf 0:=(h.f rfl 0).symm
    have e2:(bytF B a).wn=Q.wn:=(h.n rfl).symm
    have e3:atS (bytF B a) 0 a=a+1+(Q.wf 0).toNat:=by rw [atS_2 (by omega) (by rw [e1]; exact z2) (by rw [e1]; omega),e1]
    rw [e3,(rs_in h0).1,z4]
  · show Q.wn - (1+(Q.wf 0).toNat)=_
    rw [h.n rfl]; omega
  · show Q.wf (k+(1+(Q.wf 0).toNat))=_
    rw [h.f rfl]; congr 1; omega
end
def atB (B:BytL) (a:Nat) (E m:Int):Nat:=if rbE (bytF B a) E m=0 then atS (bytF B a) E a+rbN (bytF B a) E m else atS (bytF B a) E a
def drB (B:BytL) (a:Nat) (E m:Int):BytL:=if rbE (bytF B a) E m=0 then drP B (atS (bytF B a) E a) (atS (bytF B a) E a+rbN (bytF B a) E m) else bytZ none 0
section
variable {B Q:BytL} {E m:Int} {a:Nat}
end
end Go.Eng
namespace Go.Eng
section
variable {B Q:BytL} {E m:Int} {a:Nat}
theorem ct_of (Q:BytL) (E:Int) (hm:0≤m):ctQ Q E m=rsQ Q E (u64i m)∧ctV Q E m=(rsV Q E (u64i m)).toNat∧∀ z,ctE Q E m z=(if (rsQ Q E (u64i m)).wn / z < (rsV Q E (u64i m)).toNat then failE (rsE Q E (u64i m)) 3 else rsE Q E (u64i m))∧ctN Q E m z=(if (rsQ Q E (u64i m)).wn / z < (rsV Q E (u64i m)).toNat then 0 else (rsV Q E (u64i m)).toNat):=by
  have hE:ctE1 E m=E:=by unfold ctE1; rw [if_neg (by omega)]
  unfold ctE ctN ctV ctQ
  rw [hE]
  exact⟨rfl,rfl,fun z=>⟨rfl,rfl⟩⟩
theorem rb_err (hm:0≤m) (h:rsE Q E (u64i m)≠0):rbE Q E m=rsE Q E (u64i m)∧rbN Q E m=0:=by
  obtain⟨e1,e2,e3⟩:=ct_of Q E hm
  have hv:(rsV Q E (u64i m)).toNat=0:=by rw [(rs_out h).2]; rfl
  have h3:ctE Q E m 1=rsE Q E (u64i m):=by rw [(e3 1).1,hv,if_neg (Nat.not_lt_zero _)]
  have h4:ctN Q E m 1=0:=by rw [(e3 1).2,hv,if_neg (Nat.not_lt_zero _)]
  have h5:tkE (ctQ Q E m) (ctE Q E m 1) (ctN Q E m 1)=rsE Q E (u64i m):=by rw [h3,h4]; unfold tkE; rw [if_neg (Nat.not_lt_zero _)]
  refine⟨h5,?_⟩
  unfold rbN; rw [h5,if_neg h]
theorem rb_num (hm:0≤m) (h:rsE Q E (u64i m)=0):(if (rsQ Q E (u64i m)).wn < (rsV Q E (u64i m)).toNat then rbE Q E m=3∧rbN Q E m=0 else rbE Q E m=0∧rbN Q E m=(rsV Q E (u64i m)).toNat):=by
  obtain⟨e1,e2,e3⟩:=ct_of Q E hm
  split
  · rename_i h1
    have h3:ctE Q E m 1=3:=by rw [(e3 1).1,Nat.div_one,if_pos h1,h]; rfl
    have h4:ctN Q E m 1=0:=by rw [(e3 1).2,Nat.div_one,if_pos h1]
    have h5:tkE (ctQ Q E m) (ctE Q E m 1) (ctN Q E m 1)=3:=by rw [h3,h4]; unfold tkE; rw [if_neg (Nat.not_lt_zero _)]
    refine⟨h5,?_⟩
    unfold rbN; rw [h5,if_neg (by decide)]
  · rename_i h1
    have h3:ctE Q E m 1=0:=by rw [(e3 1).1,Nat.div_one,if_neg h1,h]
    have h4:ctN Q E m 1=(rsV Q E (u64i m)).toNat:=by rw [(e3 1).2,Nat.div_one,if_neg h1]
    have h5:tkE (ctQ Q E m) (ctE Q E m 1) (ctN Q E m 1)=0:=by rw [h3,h4,e1]; unfold tkE; rw [if_neg h1]
    refine⟨h5,?_⟩
    unfold rbN; rw [h5,if_pos rfl,h4]
theorem RlR.rb (h:RlR Q B a E) (hm:0≤m):rbE (bytF B a) E m=rbE Q E m∧rbN (bytF B a) E m=rbN Q E m:=by
  have e1:=h.rsE (u64i m)
  have e2:=h.rsV (u64i m)
  by_cases h0:Go.Eng.rsE Q E (u64i m)=0
  · have r1:=h.small (u64i m)
    have r2:=(show RlR (bytF B a) B a E from⟨h.le,fun _=>rfl,fun _ _=>rfl⟩).small (u64i m)
    have n1:=r1.n h0
    have n2:=r2.n (by rw [e1]; exact h0)
    have c1:=rb_num (Q:=Q) hm h0
    have c2:=rb_num (Q:=bytF B a) hm (by rw [e1]; exact h0)
    rw [e2] at c2
    split at c1
    · rw [if_pos (by omega)] at c2; exact⟨by rw [c1.1,c2.1],by rw [c1.2,c2.2]⟩
    · rw [if_neg (by omega)] at c2; exact⟨by rw [c1.1,c2.1],by rw [c1.2,c2.2]⟩
  · have c1:=rb_err (Q:=Q) hm h0
    have c2:=rb_err (Q:=bytF B a) hm (by rw [e1]; exact h0)
    exact⟨by rw [c1.1,c2.1,e1],by rw [c1.2,c2.2]⟩
theorem RlR.bytes (h:RlR Q B a E) (hm:0≤m):RlR (rbQ Q E m) B (atB B a E m) (rbE Q E m)∧(drB B a E m).wn=rbN Q E m∧∀ j,j < rbN Q E m→(drB B a E m).wf j=(ctQ Q E m).wf j:=by
  obtain⟨e1,e2⟩:=h.rb hm
  have r1:=h.small (u64i m)
  obtain⟨c1,c2,c3⟩:=ct_of Q E hm
  by_cases h0:rbE Q E m=0
  · have hs:Go.Eng.rsE Q E (u64i m)=0:=Decidable.byContradiction fun hn=>hn ((rb_err hm hn).1.symm.trans h0)
    obtain⟨b1,b2⟩:=tkE_zero (show tkE (ctQ Q E m) (ctE Q E m 1) (ctN Q E m 1)=0 from h0)
    have b3:rbN Q E m=ctN Q E m 1:=(rb_good h0).1
    have n1:=r1.n hs
    have f1:=r1.f hs
    rw [c1] at b2
    refine⟨⟨?_,fun _=>?_,fun _ k=>?_⟩,?_,fun j hj=>?_⟩
    · unfold atB; rw [e1,if_pos h0,e2]; have:=r1.le; omega
    · unfold atB; rw [e1,if_pos h0,e2]
      show(tkQ (ctQ Q E m) (ctE Q E m 1) (ctN Q E m 1)).wn=_
      rw [tk_in h0,c1,b3]
      show(Go.Eng.rsQ Q E (u64i m)).wn - _=_
      omega
    · unfold atB; rw [e1,if_pos h0,e2]
      show(tkQ (ctQ Q E m) (ctE Q E m 1) (ctN Q E m 1)).wf k=_
      rw [tk_in h0,c1,b3]
      show(Go.Eng.rsQ Q E (u64i m)).wf (k+_)=_
      rw [f1]; congr 1; omega
    · unfold drB; rw [e1,if_pos h0,e2]
      show atS (bytF B a) E a+rbN Q E m - atS (bytF B a) E a=_
      omega
    · unfold drB; rw [e1,if_pos h0,e2]
      show B.wf (j+atS (bytF B a) E a)=_
      rw [c1,f1]
  · have h1:rbN Q E m=0:=(rb_bad h0).1
    refine⟨⟨?_,fun hh=>absurd hh h0,fun hh=>absurd hh h0⟩,?_,fun j hj=>by omega⟩
    · unfold atB; rw [e1,if_neg h0]; exact r1.le
    · unfold drB; rw [e1,if_neg h0,h1]; rfl
end
end Go.Eng
namespace Go.Eng
section
variable {B:BytL} {a:Nat} {l:UInt64}
end
end Go.Eng
namespace Go.Eng
section
variable {B:BytL} {a:Nat} {E:Int}
end
end Go.Eng
end
section
namespace Go.Eng
attribute [local irreducible] smN smB byN byB rsQ rsE rsV rbQ rbE rbN ctQ
section
variable {h:UInt64} {n:Nat} {e:Nat→BytL}
theorem pkL_mono {i:Nat}:∀ j,i≤j→pkL h n e i≤pkL h n e j
  | 0,hj=>by rw [show i=0 by omega]; exact Nat.le_refl _
  | j+1,hj=>by
    by_cases h1:i=j+1
    · rw [h1]; exact Nat.le_refl _
    · have:=pkL_mono (i:=i) j (by omega)
      show _≤pkL h n e j+byN (e j).wn
      omega
theorem pkF_less {i:Nat}:∀ j,i≤j→∀ k,k < pkL h n e i→pkF h n e j k=pkF h n e i k
  | 0,hj,k,hk=>by rw [show i=0 by omega]
  | j+1,hj,k,hk=>by
    by_cases h1:i=j+1
    · rw [h1]
    · have h2:=pkF_less (i:=i) j (by omega) k hk
      have h3:=pkL_mono (h:=h) (n:=n) (e:=e) (i:=i) j (by omega)
      show catU (pkF h n e j) (pkL h n e j) (byB (e j).wf (e j).wn) k=_
      unfold catU; rw [if_pos (by omega)]; exact h2
theorem pkF_at {i M:Nat} (hi:i < M) {k:Nat} (hk:k < byN (e i).wn):pkF h n e M (pkL h n e i+k)=byB (e i).wf (e i).wn k:=by
  rw [pkF_less (i:=i+1) M hi _ (by show _ < pkL h n e i+byN (e i).wn; omega)]
  show catU (pkF h n e i) (pkL h n e i) (byB (e i).wf (e i).wn) _=_
  unfold catU
  rw [if_neg (by omega),show pkL h n e i+k - pkL h n e i=k by omega]
theorem pkF_one {M k:Nat} (hk:k < smN h):pkF h n e M k=smB h k:=by
  rw [pkF_less (i:=0) M (Nat.zero_le _) _ (by show k < smN h+smN (UInt64.ofNat n); omega)]
  show catU (smB h) (smN h) _ k=_
  unfold catU; rw [if_pos hk]
theorem pkF_two {M k:Nat} (hk:k < smN (UInt64.ofNat n)):pkF h n e M (smN h+k)=smB (UInt64.ofNat n) k:=by
  rw [pkF_less (i:=0) M (Nat.zero_le _) _ (by show _ < smN h+smN (UInt64.ofNat n); omega)]
  show catU (smB h) (smN h) (smB (UInt64.ofNat n)) _=_
  unfold catU; rw [if_neg (by omega),show smN h+k - smN h=k by omega]
end
def FwU (g:Nat→UInt8) (T L:Nat) (Q:BytL) (E:Int) (p:Nat):Prop:=(E=0∧Q.wn+p=L∧∀ k,k < Q.wn→p+k < T→Q.wf k=g (p+k))∨(E=3∧L < p)
theorem FwU.next {g : Nat → UInt8} {T L p m : Nat} {Q Q' : BytL} {E E' : Int} {V : Prop} {b : Nat → UInt8} (h : FwU g T L Q E p) (hp : p + m ≤ T) (hb : ∀ k, k < m → g (p + k) = b k)
    (h0:E=0→At Q m b→FwS Q Q' E' m V) (h3:E≠0→E'=E):FwU g T L Q' E' (p+m)∧(p+m≤L→V):=by
  rcases h with ⟨e0,e1,e2⟩ | ⟨e3,e4⟩
  · have hat:At Q m b:=fun k hk hq=>by rw [e2 k hq (by omega)]; exact hb k hk
    rcases h0 e0 hat with ⟨a1,a2,a3,a4,a5⟩ | ⟨a1,a2⟩
    · exact⟨.inl ⟨a2,by omega,fun k hk hT=>by rw [a4,e2 _ (by omega) (by omega),Nat.add_assoc]⟩,fun _=>a5⟩
    · exact⟨.inr ⟨a2,by omega⟩,fun hL=>by omega⟩
  · have:=h3 (by rw [e3]; decide)
    exact⟨.inr ⟨by rw [this,e3],by omega⟩,fun hL=>by omega⟩
section
variable {h:UInt64} {n L:Nat} {e:Nat→BytL} {q:BytL}
theorem not_max_lt (x:UInt64):¬ (18446744073709551615:UInt64) < x:=fun hlt=>by
  rw [UInt64.lt_iff_toNat_lt] at hlt
  have h1:=x.toNat_lt
  have h2:(18446744073709551615:UInt64).toNat=18446744073709551615:=rfl
  omega
theorem not_ten_lt {n:Nat} (hn:n≤10):¬ (10:UInt64) < UInt64.ofNat n:=fun hlt=>by
  rw [UInt64.lt_iff_toNat_lt,UInt64.toNat_ofNat'] at hlt
  have h2:(10:UInt64).toNat=10:=rfl
  omega
theorem fw_head (hn : n ≤ 10) (hL : q.wn = L) (hq : ∀ k, k < q.wn → k < pkL h n e n → q.wf k = pkF h n e n k) :
    FwU (pkF h n e n) (pkL h n e n) L (uQ q) (uE q) (pkL h n e 0)∧(pkL h n e 0≤L→uH q=h∧uNn q=UInt64.ofNat n)∧(uE q≠0→uNn q=0):=by
  have hT:pkL h n e 0≤pkL h n e n:=pkL_mono n (Nat.zero_le _)
  have e0:pkL h n e 0=smN h+smN (UInt64.ofNat n):=rfl
  have h0:FwU (pkF h n e n) (pkL h n e n) L q 0 0:=.inl ⟨rfl,by omega,fun k hk hk2=>by rw [Nat.zero_add] at hk2 ⊢; exact hq k hk hk2⟩
  have h1:=h0.next (m:=smN h) (b:=smB h) (Q':=rsQ q 0 18446744073709551615) (E':=rsE q 0 18446744073709551615) (V:=rsV q 0 18446744073709551615=h) (by omega) (fun k hk=>by rw [Nat.zero_add]; exact pkF_one hk) (fun _ hat=>fw_small hat (not_max_lt h)) (fun h3=>absurd rfl h3)
  rw [Nat.zero_add] at h1
  have h2:=h1.1.next (m:=smN (UInt64.ofNat n)) (b:=smB (UInt64.ofNat n)) (Q':=uQ q) (E':=uE q) (V:=uNn q=UInt64.ofNat n) (by omega) (fun k hk=>pkF_two hk) (fun ez hat=>by
    unfold uQ uE uNn
    rw [ez]
    exact fw_small hat (not_ten_lt hn)) (fun h3=>(rs_keep h3).1)
  refine⟨h2.1,fun hl=>⟨h1.2 (by omega),h2.2 (by omega)⟩,fun hE=>(rs_out hE).2⟩
theorem fw_list (hs : ∀ i, i < n → (e i).wn ≤ 1000) {Q : BytL} {E : Int} (h0 : FwU (pkF h n e n) (pkL h n e n) L Q E (pkL h n e 0)) : ∀ k, k ≤ n →
    FwU (pkF h n e n) (pkL h n e n) L (usS Q E k).1 (usS Q E k).2 (pkL h n e k)∧∀ i,i < k→pkL h n e (i+1)≤L→usN Q E i=(e i).wn∧∀ j,j < (e i).wn→usW Q E i j=(e i).wf j
  | 0,_=>⟨h0,fun i hi=>absurd hi (Nat.not_lt_zero i)⟩
  | k+1,hk=>by
    obtain⟨a,b⟩:=fw_list hs h0 k (by omega)
    have hT:pkL h n e (k+1)≤pkL h n e n:=pkL_mono n hk
    have hs':=hs k (by omega)
    have h1:=a.next (m:=byN (e k).wn) (b:=byB (e k).wf (e k).wn) (Q':=(usS Q E (k+1)).1) (E':=(usS Q E (k+1)).2) (V:=usN Q E k=(e k).wn∧∀ j,j < (e k).wn→usW Q E k j=(e k).wf j) hT (fun j hj=>pkF_at (by omega) hj) (fun ez hat=>by
      show FwS _ (rbQ (usS Q E k).1 (usS Q E k).2 1000) (rbE (usS Q E k).1 (usS Q E k).2 1000) _ (rbN (usS Q E k).1 (usS Q E k).2 1000=(e k).wn∧∀ j,j < (e k).wn→(ctQ (usS Q E k).1 (usS Q E k).2 1000).wf j=(e k).wf j)
      rw [ez]
      exact fw_bytes (by decide) (by decide) hs' hat) (fun h3=>(rb_keep h3).1)
    refine⟨h1.1,fun i hi hl=>?_⟩
    by_cases hik:i < k
    · exact b i hik hl
    · have:i=k:=by omega
      subst this
      exact h1.2 hl
theorem ofN_10 (hn:n≤10):(UInt64.ofNat n).toNat=n:=by rw [UInt64.toNat_ofNat']; omega
theorem fw_whole (hn : n ≤ 10) (hs : ∀ i, i < n → (e i).wn ≤ 1000) (hL : q.wn = pkL h n e n) (hq : ∀ k, k < q.wn → q.wf k = pkF h n e n k) :
    uD q=0∧uH q=h∧uN q=n∧∀ i,i < n→usN (uQ q) (uE q) i=(e i).wn∧∀ j,j < (e i).wn→usW (uQ q) (uE q) i j=(e i).wf j:=by
  obtain⟨a,b,c⟩:=fw_head (L:=pkL h n e n) hn hL (fun k hk _=>hq k hk)
  obtain⟨b1,b2⟩:=b (pkL_mono n (Nat.zero_le _))
  have hN:uN q=n:=by unfold uN; rw [b2,ofN_10 hn]
  obtain⟨d1,d2⟩:=fw_list hs a n (Nat.le_refl _)
  refine⟨?_,b1,hN,fun i hi=>d2 i hi (pkL_mono n hi)⟩
  unfold uD
  rw [hN]
  rcases d1 with ⟨e0,e1,_⟩ | ⟨_,e4⟩
  · unfold endE; rw [if_neg (by omega)]; exact e0
  · omega
end
section
variable {h:UInt64} {l:BytS} {q:BytL}
theorem pakE_few (hp:pakE l=0):(l.wn≤10∧∀ i,i < l.wn→1≤(l.wf i).wn∧(l.wf i).wn≤1000)∧twB l.wf l.wn=false:=by
  unfold pakE at hp
  by_cases h1:(selB (decide (10 < l.wn)) true (anyK (unB l.wf) l.wn))=true
  · rw [if_pos h1] at hp; cases hp
  · rw [if_neg h1] at hp
    by_cases h2:twB l.wf l.wn=true
    · rw [if_pos h2] at hp; cases hp
    · exact⟨pack_few (by simpa using h1),by simpa using h2⟩
theorem elE_ext {e e':Nat→BytL} {x y:BytL} {i:Nat} (h1:(e i).wn=(e' i).wn) (h2:∀ j,j < (e i).wn→(e i).wf j=(e' i).wf j) (h3:x.wn=y.wn) (h4:∀ j,j < x.wn→x.wf j=y.wf j):elE e x i=elE e' y i:=by
  unfold elE
  rw [h1,h3]
  exact sameS_ext (fun j hj=>h2 j (by omega)) (fun j hj=>h4 j (by omega))
theorem twB_ext {e e':Nat→BytL} {n:Nat} (h:∀ i,i < n→(e i).wn=(e' i).wn∧∀ j,j < (e i).wn→(e i).wf j=(e' i).wf j):twB e n=twB e' n :=
  anyK_congr fun i hi=>anyK_congr fun k hk=>elE_ext (h k (by omega)).1 (h k (by omega)).2 (h i hi).1 (h i hi).2
theorem inB_empty {e:Nat→BytL} {n:Nat} {a:Option Addr} {c:Nat} (h:∀ i,i < n→1≤(e i).wn):inB e n (bytZ a c)=false :=
  anyK_false fun i hi=>by
    unfold elE sameS
    refine decide_eq_false fun hh=>?_
    have h1:(e i).wn=0:=hh.1
    have:=h i hi
    omega
theorem fw_un (hp:pakE l=0) (hL:q.wn=pkL h l.wn l.wf l.wn) (hq:∀ k,k < q.wn→q.wf k=pkF h l.wn l.wf l.wn k):unX q=0∧unH q=h∧uN q=l.wn∧∀ i,i < l.wn→usN (uQ q) (uE q) i=(l.wf i).wn∧∀ j,j < (l.wf i).wn→usW (uQ q) (uE q) i j=(l.wf i).wf j:=by
  obtain⟨⟨h1,h2⟩,h3⟩:=pakE_few hp
  obtain⟨a,b,c,d⟩:=fw_whole h1 (fun i hi=>(h2 i hi).2) hL hq
  have hb:uB q=false:=by
    unfold uB
    rw [c,selB_or,Bool.or_eq_false_iff]
    refine⟨inB_empty fun i hi=>?_,?_⟩
    · show 1≤usN (uQ q) (uE q) i
      rw [(d i hi).1]; exact(h2 i hi).1
    · rw [twB_ext (e:=usB (uQ q) (uE q)) (e':=l.wf) fun i hi=>⟨(d i hi).1,fun j hj=>(d i hi).2 j (by have h4:(usB (uQ q) (uE q) i).wn=(l.wf i).wn:=(d i hi).1; omega)⟩]
      exact h3
  have hX:=unX_0 a hb
  exact⟨hX,by rw [(un_yes hX).1,b],c,d⟩
end
section
variable {h:UInt64} {n:Nat} {e e':Nat→BytL} {q:BytL}
theorem un_0 (hX:unX q=0):uD q=0∧uB q=false:=by
  unfold unX at hX
  by_cases hd:uD q=0
  · rw [if_pos hd] at hX
    refine⟨hd,?_⟩
    cases hb:uB q with
    | false=>rfl
    | true=>rw [hb] at hX; cases hX
  · rw [if_neg hd] at hX; exact absurd hX hd
end
end Go.Eng
end
section
namespace Go.Eng
open Go.RowKit Go.WideShapes Go.ChangeShapes Go.ChangeAt Go.Deep
def bysZ:BytS:=⟨none,0,0,0,0,fun _=>bytZ none 0⟩
theorem oks_nil:OkS bysZ:=⟨Nat.le_refl _,fun h=>absurd h (Nat.lt_irrefl 0),Nat.zero_le _,fun k hk=>absurd hk (Nat.not_lt_zero k)⟩
theorem holds_nilS {W:World}:FamH (famS bysZ) W:=fun z hz=>by
  rcases hz with ⟨h0,_⟩ | ⟨k,hk,_⟩
  · exact absurd h0 (Nat.lt_irrefl 0)
  · exact absurd hk (Nat.not_lt_zero k)
structure POp where
  d:Int
  n:Int
  l:BytS
instance:Inhabited POp:=⟨⟨0,0,bysZ⟩⟩
section
variable {H:Type} {enc:TypeId × Value→H} {P:Program}
end
end Go.Eng
end
section
namespace Go.Eng
end Go.Eng
end
section
namespace Go.Eng
theorem RunsO.veq {F:Blk→Prop} {P:Program} {f:FuncId} {args:List Value} {bs:List (Option Blk)} {k:Nat} {v v':Value} {out:List Nat→List (Option Blk)} (e:v=v') (h:RunsO F P f args bs k (fun _=>v) out):RunsO F P f args bs k (fun _=>v') out:=e ▸ h
def X0:PoR:=⟨⟨true,0,0,0,fun _=>bytZ none 0⟩,0,0,0,fun _=>0,fun _ _=>0,⟨true,0,[]⟩⟩
section
variable {K c d nm r:Nat} {L:Nat→Nat} {g:Nat→Nat→UInt8}
end
structure OnX (X:PoR):Prop where
  w:∀ k,k < X.A.n→hasP X.Y.l (strOf (X.A.f k).wf (X.A.f k).wn)=false
  a:∀ k,k < X.A.n→inB X.A.f k (X.A.f k)=false
theorem OnX.zero:OnX X0:=⟨fun k hk=>absurd hk (Nat.not_lt_zero k),fun k hk=>absurd hk (Nat.not_lt_zero k)⟩
section
variable {X:PoR} {y:BytL} {q:BytS} {n1 n2 nm r m:Nat}
theorem OnX.add (h:OnX X):OnX (adX X y n1 n2 nm r):=by
  unfold adX
  split
  · rename_i h0
    obtain⟨_,h1,_⟩:=add_0 h0
    rw [selB_or,Bool.or_eq_false_iff] at h1
    have eo:∀ k,k < X.A.n→(addX X y n1 n2 nm r).A.f k=X.A.f k:=fun k hk=>if_pos hk
    have en:(addX X y n1 n2 nm r).A.f X.A.n=bytO n1 y.wn (y.wn+n2) y.wf:=if_neg (Nat.lt_irrefl _)
    refine⟨fun k hk=>?_,fun k hk=>?_⟩
    · have hk':k < X.A.n+1:=hk
      show hasP X.Y.l _=false
      by_cases hkn:k < X.A.n
      · rw [eo k hkn]; exact h.w k hkn
      · rw [show k=X.A.n by omega,en]; exact h1.2
    · have hk':k < X.A.n+1:=hk
      by_cases hkn:k < X.A.n
      · rw [eo k hkn,← h.a k hkn]
        exact anyK_congr fun i hi=>by unfold elE; rw [eo i (by omega)]
      · rw [show k=X.A.n by omega,en,← h1.1]
        exact anyK_congr fun i hi=>by unfold elE; rw [eo i hi]; rfl
  · exact h
end
end Go.Eng
end
section
namespace Go.Eng
theorem pak_len {h:UInt64} {l:BytS} {a r:Nat} (e:pakE l=0):(recG (pakG h l a r)).wn=pkL h l.wn l.wf l.wn∧(recG (pakG h l a r)).wf=pkF h l.wn l.wf l.wn:=by rw [pakG_yes e]; exact⟨rfl,rfl⟩
theorem brow1 {P:Nat→BytL→Prop} {a:BytL} (h0:P 0 a):∀ k,k < 1→P k (brow [a] k):=fun k hk=>by
  rcases k with _ | k
  · exact h0
  · omega
end Go.Eng
namespace Go.Eng
section
variable {P:Program} {t e:TypeId} {x y:Operand}
theorem is_ixG {α:Type} {sz:Nat} {A:Grw α} (ht:P.underlying t=some (.slice e)) (he:sizeB P e=some sz) (hz:A.z=false) (i:Nat) (hi:i < A.n):IsOp P (.indexAddr t x y) [gsV A,nat i] (ptr A.nm (0+i*sz)):=by
  rw [gsV_own hz]; exact is_ixSl ht he A.nm 0 A.n (A.n+A.r) i hi
def ldGSem (t:TypeId) (x:Value):Sem Next:=do pure (.value (← Instr.loadAt t x))
end
end Go.Eng
namespace Go.Eng
section
variable {h:UInt64} {l:BytS} {a r:Nat} {q:BytL}
end
end Go.Eng
namespace Go.Eng
end Go.Eng
namespace Go.Eng
end Go.Eng
end
section
namespace Go.Proofs.YtmdpendnbkajdaaDoor
open Go Go.Eng
end Go.Proofs.YtmdpendnbkajdaaDoor
end
section
namespace Go.Eng
section
variable {B:BytL}
end
end Go.Eng
end
section
namespace Go.Proofs.YtmdpendnbkajdaaDoor
open Go Go.Eng
def rtwice_fam_S1 (l:BytS) (x1:Nat):St:=⟨[(0,.v (Value.slice l.wa l.wn l.wc)),(3,.v (nat x1))],[],0⟩
def rtwice_fam_R1 (l:BytS) (x1:Nat):Prop:=(x1≤l.wn)∧(∀ k,k < x1→(fun i=>inB l.wf i (l.wf i)) k=false)
def rtwice_fam_mu1 (l:BytS) (x1:Nat):Nat:=l.wn - x1
theorem rtwice_fam (l:BytS) (hl:OkS l):RunsF (famS l) Tryd.prog 28 [(Value.slice l.wa l.wn l.wc)] [] 0 (fun _=>Value.bool (twB l.wf l.wn)) (fun _=>[]) :=
  runsF_of_ev (F:=(famS l)) mix Tryd.func28 rfl rfl 400 (.reg (rg [.g]) (.reg (rg [.g]) (.inv [0,3] [] 0 (rtwice_fam_R1 l) (rtwice_fam_S1 l) (rtwice_fam_mu1 l) (0:Nat) (fun(x1:Nat)=>(.reg (rg [.g,.g,(.as (nat l.wn)),(.as (Value.bool (decide (x1 < l.wn))))]) (.br (.openr (bysB l) (.reg (rg [.g,.g,(.as (Value.slice l.wa x1 l.wc)),.g,.g,(.as (ptr l.wb (l.wo+x1*1))),(.ld 0 (.tab x1 0)),(.callF [] 0 0 (fun _=>(Value.bool (inB l.wf x1 (l.wf x1)))) (fun _=>[])),.g]) (.reg (rg [.g]) (.br (.reg (rg [.g]) .done) (.reg (rg [.g,(.as (nat (x1+1))),.g]) .done))))) (.reg (rg [.g]) .done))))))) [] [] rfl
    (have f0:l.wn≤l.wc∧l.wn≤9223372036854775807:=⟨hl.cap,hl.len⟩; Eq.mp (by kernel_rfl) (aI kV1 (aI kV1 (aI (show(rtwice_fam_R1 l) (0:Nat) from(show(0≤l.wn)∧(∀ k,k < 0→(fun i=>inB l.wf i (l.wf i)) k=false) from by exact⟨by omega,fun k hk=>absurd hk (by omega)⟩)) (aI (@rfl St ((rtwice_fam_S1 l) (0:Nat))) (fun(x1:Nat) (hx1:(rtwice_fam_R1 l) x1)=>have B0:x1≤l.wn:=hx1.1; have B1:∀ k,k < x1→(fun i=>inB l.wf i (l.wf i)) k=false:=hx1.2; aI (sK2 (aI (aT (@is_len Tryd.prog 35 23 (.tmp 6) (by kernel_rfl) l.wa l.wn l.wc)) (aI (aT (@is_lssn Tryd.prog 3 3 (.tmp 5) (.tmp 7)  x1 l.wn)) tV))) (aT (aI (fun(h1:(decide (x1 < l.wn))=true)=>have f3:=(oT h1); aI (Or.inl ⟨(show 0 < l.wn from by omega),rfl⟩:famS l (bysB l)) (aI (sK2 (aI (aT (@is_slqTo Tryd.prog 35 23 (.tmp 11) (.tmp 12) (by kernel_rfl) 1 (by kernel_rfl) l.wa l.wn l.wc x1 (show x1≤l.wc from by omega))) (sK2 (aI (aT (@is_ixSq Tryd.prog 35 23 (.tmp 14) (.tmp 15) 1 (by kernel_rfl) (by kernel_rfl) l.wb l.wo l.wn l.wc x1 l.wa (hl.ad (show 0 < l.wn from by omega)) (show x1 < l.wn from by omega))) (aI (aT (aI (show x1 < l.wn from by omega) (@rfl Value (ptr l.wb (l.wo+x1*1))))) (aI (aT (RunsF.lendP (F':=famS l) (sh_tw (show x1 < l.wn from by omega)) (nm_tw (show x1 < l.wn from by omega)) (rin_fam (bysT l x1) (l.wf x1) (oks_to hl (Nat.le_of_lt (show x1 < l.wn from by omega))) (hl.el _ (show x1 < l.wn from by omega))))) kV1)))))) (aI kV1 (aT (aI (fun(h2:(inB l.wf x1 (l.wf x1))=true)=>aI kV1 (aT (eX (fun(ns:List Nat)=>ns.length=0∧((Value.bool true):Value)=(fun _=>Value.bool (twB l.wf l.wn)) ns∧([]:List (Option Blk))=(fun _=>[]) ns) [] (aI (@rfl Nat 0) (aI ((show(Value.bool true)=Value.bool (twB l.wf l.wn) from congrArg Value.bool (by first | exact any_yes (by omega) (by assumption) | exact any_no (by omega) B1))) (@rfl (List (Option Blk)) [])))))) (fun(h2:(inB l.wf x1 (l.wf x1))=false)=>aI (sk (aI (aT (@is_addn Tryd.prog 3 3 (.tmp 9) (.const (.int .i64 1))  x1 1 (show x1+1≤9223372036854775807 from by omega))) kV1)) ((rnd (rtwice_fam_R1 l) (rtwice_fam_S1 l) (rtwice_fam_mu1 l) x1 (x1+1:Nat) (show(rtwice_fam_R1 l) (x1+1:Nat)∧(rtwice_fam_mu1 l) (x1+1:Nat) < (rtwice_fam_mu1 l) x1 from(show(((x1+1)≤l.wn)∧(∀ k,k < (x1+1)→(fun i=>inB l.wf i (l.wf i)) k=false))∧(l.wn - (x1+1)) < (l.wn - x1) from by exact⟨⟨by omega,any_next (p:=fun i=>inB l.wf i (l.wf i)) B1 (by assumption)⟩,by omega⟩)))))))))) (fun(h1:(decide (x1 < l.wn))=false)=>have f3:=(oF h1); aI kV1 (aT (eX (fun(ns:List Nat)=>ns.length=0∧((Value.bool false):Value)=(fun _=>Value.bool (twB l.wf l.wn)) ns∧([]:List (Option Blk))=(fun _=>[]) ns) [] (aI (@rfl Nat 0) (aI ((show(Value.bool false)=Value.bool (twB l.wf l.wn) from congrArg Value.bool (by first | exact any_yes (by omega) (by assumption) | exact any_no (by omega) B1))) (@rfl (List (Option Blk)) []))))))))))))))
end Go.Proofs.YtmdpendnbkajdaaDoor
end
section
namespace Go.Proofs.YtmdpendnbkajdaaDoor
open Go Go.Eng
theorem ne_of_bad {l:BytS} {i e:Nat} (h:selB (decide ((l.wf i).wn < 1)) true (decide (1000 < (l.wf i).wn))=false) (hb:unB l.wf e=true):i≠e:=fun hh=>by
  subst hh
  rw [selB_or,Bool.or_eq_false_iff,decide_eq_false_iff_not,decide_eq_false_iff_not] at h
  have h2:szB (l.wf i).wn=false:=by simpa [unB] using hb
  unfold szB at h2
  rw [Bool.and_eq_false_iff,decide_eq_false_iff_not,decide_eq_false_iff_not] at h2
  omega
theorem sz_ok {n:Nat} (h:1≤n∧n≤1000):selB (decide (n < 1)) true (decide (1000 < n))=false:=by
  rw [selB_or,decide_eq_false (by omega),decide_eq_false (by omega)]; rfl
section
variable {h:UInt64} {n:Nat} {e:Nat→BytL} {k a r:Nat}
theorem pkG_z:(pkG h n e k a r).z=false:=decide_eq_false (by have:=pkL_pos (h:=h) (n:=n) (e:=e) (k:=k); omega)
theorem pkG_V:gsV (pkG h n e k a r) = .slice (some ⟨a,0,none⟩) (pkL h n e k) (pkL h n e k+r):=gsV_own pkG_z
theorem pkG_E:gsE u8C [u8 0] 1 (pkG h n e k a r)=some ⟨a,true,0,spr (pkL h n e k+r) (pkL h n e k) (fun j=>u8 (pkF h n e k j)) (u8 0)⟩:=by
  have e1:pkG h n e k a r=⟨false,a,pkL h n e k,r,pkF h n e k⟩:=by
    have hz:=pkG_z (h:=h) (n:=n) (e:=e) (k:=k) (a:=a) (r:=r)
    unfold pkG gsOf at hz ⊢
    first | rw [hz] | (simp only at hz; rw [hz])
  rw [e1]; exact gsE_own8
end
theorem dpk_l (h:UInt64) (l:BytS) (hl:OkS l) (h1:10 < l.wn):RunsF (famS l) Tryd.prog 17 [(u64 h),(Value.slice l.wa l.wn l.wc)] [] 0 (fun _=>Value.tuple #[Value.slice none 0 0,int 2]) (fun _=>[]) :=
  runsF_of_ev (F:=(famS l)) mix Tryd.func17 rfl rfl 400 (.reg (rg [.g,.g]) (.reg (rg [.g,(.as (nat l.wn)),(.as (Value.bool (decide (10 < l.wn))))]) (.yes (.reg (rg [.g,.g]) .done)))) [] [] rfl
    (have f0:l.wn≤l.wc∧l.wn≤9223372036854775807:=⟨hl.cap,hl.len⟩; Eq.mp (by kernel_rfl) (aI kV2 (aI (sk (aI (aT (@is_len Tryd.prog 35 23 (.tmp 10) (by kernel_rfl) l.wa l.wn l.wc)) (aI (aT (@is_gtrn Tryd.prog 3 3 (.tmp 11) (.const (.int .i64 10))  l.wn 10)) tV))) ((fun(hp1:(decide (10 < l.wn))=true)=>have f1:=(oT hp1); aT (aI hp1 (aI kV2 (aT (eX (fun(ns:List Nat)=>ns.length=0∧((Value.tuple #[(Value.slice none 0 0),(int 2)]):Value)=(fun _=>Value.tuple #[Value.slice none 0 0,int 2]) ns∧([]:List (Option Blk))=(fun _=>[]) ns) [] (aI (@rfl Nat 0) (aI (@rfl Value (Value.tuple #[Value.slice none 0 0,int 2])) (@rfl (List (Option Blk)) [])))))))) (show(decide (10 < l.wn))=true from by exact decide_eq_true h1)))))
def dpk_b_S1 (h:UInt64) (l:BytS) (e:Nat) (x1:Nat):St:=⟨[(0,.v (u64 h)),(1,.v (Value.slice l.wa l.wn l.wc)),(6,.v (nat x1))],[],0⟩
def dpk_b_R1 (h:UInt64) (l:BytS) (e:Nat) (x1:Nat):Prop:=(x1≤e)
def dpk_b_mu1 (h:UInt64) (l:BytS) (e:Nat) (x1:Nat):Nat:=e - x1
theorem dpk_b (h:UInt64) (l:BytS) (e:Nat) (hl:OkS l) (h1:l.wn≤10) (he:e < l.wn) (hb:unB l.wf e=true):RunsF (famS l) Tryd.prog 17 [(u64 h),(Value.slice l.wa l.wn l.wc)] [] 0 (fun _=>Value.tuple #[Value.slice none 0 0,int 2]) (fun _=>[]) :=
  runsF_of_ev (F:=(famS l)) mix Tryd.func17 rfl rfl 400 (.reg (rg [.g,.g]) (.reg (rg [.g,(.as (nat l.wn)),(.as (Value.bool (decide (10 < l.wn))))]) (.no (.reg (rg [.g]) (.inv [0,1,6] [] 0 (dpk_b_R1 h l e) (dpk_b_S1 h l e) (dpk_b_mu1 h l e) (0:Nat) (fun(x1:Nat)=>(.reg (rg [.g,.g,(.as (nat l.wn)),(.as (Value.bool (decide (x1 < l.wn))))]) (.yes (.openr (bysB l) (.reg (rg [.g,.g,(.as (ptr l.wb (l.wo+x1*1))),(.ld 0 (.tab x1 0)),(.as (nat ((l.wf x1).wn))),(.as (Value.bool (decide (((l.wf x1).wn) < 1)))),.g,(.opt .g),(.opt .g),(.opt (.as (ptr l.wb (l.wo+x1*1)))),(.opt (.ld 0 (.tab x1 0))),(.opt (.as (nat ((l.wf x1).wn)))),(.opt (.as (Value.bool (decide (1000 < ((l.wf x1).wn)))))),.pk]) (.br (.reg (rg [.g,.g]) .done) (.reg (rg [.g,(.as (nat (x1+1))),.g]) .done)))))))))))) [] [] rfl
    (have f0:l.wn≤l.wc∧l.wn≤9223372036854775807:=⟨hl.cap,hl.len⟩; Eq.mp (by kernel_rfl) (aI kV2 (aI (sk (aI (aT (@is_len Tryd.prog 35 23 (.tmp 10) (by kernel_rfl) l.wa l.wn l.wc)) (aI (aT (@is_gtrn Tryd.prog 3 3 (.tmp 11) (.const (.int .i64 10))  l.wn 10)) tV))) ((fun(hp1:(decide (10 < l.wn))=false)=>have f3:=(oF hp1); aT (aI hp1 (aI kV1 (aI (show(dpk_b_R1 h l e) (0:Nat) from(show(0≤e) from by exact Nat.zero_le _)) (aI (@rfl St ((dpk_b_S1 h l e) (0:Nat))) (fun(x1:Nat) (hx1:(dpk_b_R1 h l e) x1)=>have B0:x1≤e:=hx1; aI (sK2 (aI (aT (@is_len Tryd.prog 35 23 (.tmp 14) (by kernel_rfl) l.wa l.wn l.wc)) (aI (aT (@is_lssn Tryd.prog 3 3 (.tmp 13) (.tmp 15)  x1 l.wn)) tV))) ((fun(hp2:(decide (x1 < l.wn))=true)=>have f5:=(oT hp2); aT (aI hp2 (aI (Or.inl ⟨(show 0 < l.wn from by omega),rfl⟩:famS l (bysB l)) (aI (sK2 (aI (aT (@is_ixSq Tryd.prog 35 23 (.tmp 19) (.tmp 20) 1 (by kernel_rfl) (by kernel_rfl) l.wb l.wo l.wn l.wc x1 l.wa (hl.ad (show 0 < l.wn from by omega)) (show x1 < l.wn from by omega))) (aI (aT (aI (show x1 < l.wn from by omega) (@rfl Value (ptr l.wb (l.wo+x1*1))))) (aI (aT (@is_len Tryd.prog 23 5 (.tmp 22) (by kernel_rfl) ((l.wf x1).wa) ((l.wf x1).wn) ((l.wf x1).wc))) (aI (aT (@is_lssn Tryd.prog 3 3 (.tmp 23) (.const (.int .i64 1))  ((l.wf x1).wn) 1)) (sk (aI (fun(hg:(sB (decide (((l.wf x1).wn) < 1)) false)=true)=>t2) (aI (fun(hg:(sB (decide (((l.wf x1).wn) < 1)) false)=true)=>t2) (aI (fun(hg:(sB (decide (((l.wf x1).wn) < 1)) false)=true)=>have f6:¬ (((l.wf x1).wn) < 1):=(oF (sameB_f hg)); (aI (aI hg (aI hg tV)) (@is_ixSq Tryd.prog 35 23 (.tmp 26) (.tmp 27) 1 (by kernel_rfl) (by kernel_rfl) l.wb l.wo l.wn l.wc x1 l.wa (hl.ad (show 0 < l.wn from by omega)) (show x1 < l.wn from by omega)))) (aI (fun(hg:(sB (decide (((l.wf x1).wn) < 1)) false)=true)=>have f6:¬ (((l.wf x1).wn) < 1):=(oF (sameB_f hg)); (aI (aI hg tV) (aI (show x1 < l.wn from by omega) (@rfl Value (ptr l.wb (l.wo+x1*1)))))) (aI (fun(hg:(sB (decide (((l.wf x1).wn) < 1)) false)=true)=>have f6:¬ (((l.wf x1).wn) < 1):=(oF (sameB_f hg)); (aI (aI hg tV) (@is_len Tryd.prog 23 5 (.tmp 29) (by kernel_rfl) ((l.wf x1).wa) ((l.wf x1).wn) ((l.wf x1).wc)))) (aI (fun(hg:(sB (decide (((l.wf x1).wn) < 1)) false)=true)=>(aI (aI hg tV) (@is_gtrn Tryd.prog 3 3 (.tmp 30) (.const (.int .i64 1000))  ((l.wf x1).wn) 1000))) (aI (aT (aI (fun(_:(decide (((l.wf x1).wn) < 1))=true)=>tV) (fun(hp:(decide (((l.wf x1).wn) < 1))=false)=>(sameB_mkf hp)))) tV))))))))))))) (aT (aI (fun(h3:(selB (decide (((l.wf x1).wn) < 1)) true (decide (1000 < ((l.wf x1).wn))))=true)=>have f6:((((l.wf x1).wn) < 1))∨((1000 < ((l.wf x1).wn))):=(Or.imp (fun h=>(oT h)) (fun h=>(oT h)) (sbor_t h3)); aI kV2 (aT (eX (fun(ns:List Nat)=>ns.length=0∧((Value.tuple #[(Value.slice none 0 0),(int 2)]):Value)=(fun _=>Value.tuple #[Value.slice none 0 0,int 2]) ns∧([]:List (Option Blk))=(fun _=>[]) ns) [] (aI (@rfl Nat 0) (aI (@rfl Value (Value.tuple #[Value.slice none 0 0,int 2])) (@rfl (List (Option Blk)) [])))))) (fun(h3:(selB (decide (((l.wf x1).wn) < 1)) true (decide (1000 < ((l.wf x1).wn))))=false)=>have f6:¬ (((l.wf x1).wn) < 1):=(oF (sbor_l h3)); have f7:¬ (1000 < ((l.wf x1).wn)):=(oF (sbor_r h3)); aI (sk (aI (aT (@is_addn Tryd.prog 3 3 (.tmp 17) (.const (.int .i64 1))  x1 1 (show x1+1≤9223372036854775807 from by omega))) kV1)) ((rnd (dpk_b_R1 h l e) (dpk_b_S1 h l e) (dpk_b_mu1 h l e) x1 (x1+1:Nat) (show(dpk_b_R1 h l e) (x1+1:Nat)∧(dpk_b_mu1 h l e) (x1+1:Nat) < (dpk_b_mu1 h l e) x1 from(show(((x1+1)≤e))∧(e - (x1+1)) < (e - x1) from by have hne:=ne_of_bad h3 hb; exact⟨by omega,by omega⟩))))))))))) (show(decide (x1 < l.wn))=true from by exact decide_eq_true (by omega))))))))) (show(decide (10 < l.wn))=false from by exact decide_eq_false (by omega))))))
def dpk_t_S1 (h:UInt64) (l:BytS) (x1:Nat):St:=⟨[(0,.v (u64 h)),(1,.v (Value.slice l.wa l.wn l.wc)),(6,.v (nat x1))],[],0⟩
def dpk_t_R1 (h:UInt64) (l:BytS) (x1:Nat):Prop:=(x1≤l.wn)
def dpk_t_mu1 (h:UInt64) (l:BytS) (x1:Nat):Nat:=l.wn - x1
theorem dpk_t (h:UInt64) (l:BytS) (hl:OkS l) (hf:l.wn≤10∧∀ i,i < l.wn→1≤(l.wf i).wn∧(l.wf i).wn≤1000) (ht:twB l.wf l.wn=true):RunsF (famS l) Tryd.prog 17 [(u64 h),(Value.slice l.wa l.wn l.wc)] [] 0 (fun _=>Value.tuple #[Value.slice none 0 0,int 13]) (fun _=>[]) :=
  runsF_of_ev (F:=(famS l)) mix Tryd.func17 rfl rfl 400 (.reg (rg [.g,.g]) (.reg (rg [.g,(.as (nat l.wn)),(.as (Value.bool (decide (10 < l.wn))))]) (.no (.reg (rg [.g]) (.inv [0,1,6] [] 0 (dpk_t_R1 h l) (dpk_t_S1 h l) (dpk_t_mu1 h l) (0:Nat) (fun(x1:Nat)=>(.reg (rg [.g,.g,(.as (nat l.wn)),(.as (Value.bool (decide (x1 < l.wn))))]) (.br (.openr (bysB l) (.reg (rg [.g,.g,(.as (ptr l.wb (l.wo+x1*1))),(.ld 0 (.tab x1 0)),(.as (nat ((l.wf x1).wn))),(.as (Value.bool (decide (((l.wf x1).wn) < 1)))),.g,(.opt .g),(.opt .g),(.opt (.as (ptr l.wb (l.wo+x1*1)))),(.opt (.ld 0 (.tab x1 0))),(.opt (.as (nat ((l.wf x1).wn)))),(.opt (.as (Value.bool (decide (1000 < ((l.wf x1).wn)))))),.pk]) (.no (.reg (rg [.g,(.as (nat (x1+1))),.g]) .done)))) (.reg (rg [.g,(.callF [] 0 0 (fun _=>(Value.bool (twB l.wf l.wn))) (fun _=>[])),.g]) (.reg (rg [.g]) (.yes (.reg (rg [.g,.g]) .done)))))))))))) [] [] rfl
    (have f0:l.wn≤l.wc∧l.wn≤9223372036854775807:=⟨hl.cap,hl.len⟩; have f1:=hf.1; Eq.mp (by kernel_rfl) (aI kV2 (aI (sk (aI (aT (@is_len Tryd.prog 35 23 (.tmp 10) (by kernel_rfl) l.wa l.wn l.wc)) (aI (aT (@is_gtrn Tryd.prog 3 3 (.tmp 11) (.const (.int .i64 10))  l.wn 10)) tV))) ((fun(hp1:(decide (10 < l.wn))=false)=>have f2:=(oF hp1); aT (aI hp1 (aI kV1 (aI (show(dpk_t_R1 h l) (0:Nat) from(show(0≤l.wn) from by exact Nat.zero_le _)) (aI (@rfl St ((dpk_t_S1 h l) (0:Nat))) (fun(x1:Nat) (hx1:(dpk_t_R1 h l) x1)=>have B0:x1≤l.wn:=hx1; aI (sK2 (aI (aT (@is_len Tryd.prog 35 23 (.tmp 14) (by kernel_rfl) l.wa l.wn l.wc)) (aI (aT (@is_lssn Tryd.prog 3 3 (.tmp 13) (.tmp 15)  x1 l.wn)) tV))) (aT (aI (fun(h2:(decide (x1 < l.wn))=true)=>have f4:=(oT h2); aI (Or.inl ⟨(show 0 < l.wn from by omega),rfl⟩:famS l (bysB l)) (aI (sK2 (aI (aT (@is_ixSq Tryd.prog 35 23 (.tmp 19) (.tmp 20) 1 (by kernel_rfl) (by kernel_rfl) l.wb l.wo l.wn l.wc x1 l.wa (hl.ad (show 0 < l.wn from by omega)) (show x1 < l.wn from by omega))) (aI (aT (aI (show x1 < l.wn from by omega) (@rfl Value (ptr l.wb (l.wo+x1*1))))) (aI (aT (@is_len Tryd.prog 23 5 (.tmp 22) (by kernel_rfl) ((l.wf x1).wa) ((l.wf x1).wn) ((l.wf x1).wc))) (aI (aT (@is_lssn Tryd.prog 3 3 (.tmp 23) (.const (.int .i64 1))  ((l.wf x1).wn) 1)) (sk (aI (fun(hg:(sB (decide (((l.wf x1).wn) < 1)) false)=true)=>t2) (aI (fun(hg:(sB (decide (((l.wf x1).wn) < 1)) false)=true)=>t2) (aI (fun(hg:(sB (decide (((l.wf x1).wn) < 1)) false)=true)=>have f5:¬ (((l.wf x1).wn) < 1):=(oF (sameB_f hg)); (aI (aI hg (aI hg tV)) (@is_ixSq Tryd.prog 35 23 (.tmp 26) (.tmp 27) 1 (by kernel_rfl) (by kernel_rfl) l.wb l.wo l.wn l.wc x1 l.wa (hl.ad (show 0 < l.wn from by omega)) (show x1 < l.wn from by omega)))) (aI (fun(hg:(sB (decide (((l.wf x1).wn) < 1)) false)=true)=>have f5:¬ (((l.wf x1).wn) < 1):=(oF (sameB_f hg)); (aI (aI hg tV) (aI (show x1 < l.wn from by omega) (@rfl Value (ptr l.wb (l.wo+x1*1)))))) (aI (fun(hg:(sB (decide (((l.wf x1).wn) < 1)) false)=true)=>have f5:¬ (((l.wf x1).wn) < 1):=(oF (sameB_f hg)); (aI (aI hg tV) (@is_len Tryd.prog 23 5 (.tmp 29) (by kernel_rfl) ((l.wf x1).wa) ((l.wf x1).wn) ((l.wf x1).wc)))) (aI (fun(hg:(sB (decide (((l.wf x1).wn) < 1)) false)=true)=>(aI (aI hg tV) (@is_gtrn Tryd.prog 3 3 (.tmp 30) (.const (.int .i64 1000))  ((l.wf x1).wn) 1000))) (aI (aT (aI (fun(_:(decide (((l.wf x1).wn) < 1))=true)=>tV) (fun(hp:(decide (((l.wf x1).wn) < 1))=false)=>(sameB_mkf hp)))) tV))))))))))))) ((fun(hp3:(selB (decide (((l.wf x1).wn) < 1)) true (decide (1000 < ((l.wf x1).wn))))=false)=>have f5:¬ (((l.wf x1).wn) < 1):=(oF (sbor_l hp3)); have f6:¬ (1000 < ((l.wf x1).wn)):=(oF (sbor_r hp3)); aT (aI hp3 (aI (sk (aI (aT (@is_addn Tryd.prog 3 3 (.tmp 17) (.const (.int .i64 1))  x1 1 (show x1+1≤9223372036854775807 from by omega))) kV1)) ((rnd (dpk_t_R1 h l) (dpk_t_S1 h l) (dpk_t_mu1 h l) x1 (x1+1:Nat) (show(dpk_t_R1 h l) (x1+1:Nat)∧(dpk_t_mu1 h l) (x1+1:Nat) < (dpk_t_mu1 h l) x1 from(show(((x1+1)≤l.wn))∧(l.wn - (x1+1)) < (l.wn - x1) from by exact⟨by omega,by omega⟩))))))) (show(selB (decide (((l.wf x1).wn) < 1)) true (decide (1000 < ((l.wf x1).wn))))=false from by exact sz_ok (hf.2 _ (by omega)))))) (fun(h2:(decide (x1 < l.wn))=false)=>have f4:=(oF h2); aI (sk (aI (aT (rtwice_fam l hl)) kV1)) (aI kV1 ((fun(hp4:(twB l.wf l.wn)=true)=>aT (aI hp4 (aI kV2 (aT (eX (fun(ns:List Nat)=>ns.length=0∧((Value.tuple #[(Value.slice none 0 0),(int 13)]):Value)=(fun _=>Value.tuple #[Value.slice none 0 0,int 13]) ns∧([]:List (Option Blk))=(fun _=>[]) ns) [] (aI (@rfl Nat 0) (aI (@rfl Value (Value.tuple #[Value.slice none 0 0,int 13])) (@rfl (List (Option Blk)) [])))))))) (show(twB l.wf l.wn)=true from by exact ht)))))))))))) (show(decide (10 < l.wn))=false from by exact decide_eq_false (by omega))))))
def dpk_0_S1 (h:UInt64) (l:BytS) (x1:Nat):St:=⟨[(0,.v (u64 h)),(1,.v (Value.slice l.wa l.wn l.wc)),(6,.v (nat x1))],[],0⟩
def dpk_0_R1 (h:UInt64) (l:BytS) (x1:Nat):Prop:=(x1≤l.wn)
def dpk_0_mu1 (h:UInt64) (l:BytS) (x1:Nat):Nat:=l.wn - x1
def dpk_0_S2 (h:UInt64) (l:BytS) (x1:Nat) (n1:Nat) (n2:Nat) (n3:Nat) (n4:Nat) (n5:Nat) (n6:Nat) (x2:Nat × Nat × Nat × (Nat→UInt8) × Nat):St:=⟨[(1,.v (Value.slice l.wa l.wn l.wc)),(8,.v (Value.slice (some ⟨x2.2.2.2.2,0,none⟩) x2.2.1 (x2.2.1+x2.2.2.1))),(9,.v (nat x2.1))],[(0,some ⟨x2.2.2.2.2,true,0,(spr (x2.2.1+x2.2.2.1) x2.2.1 (fun k=>u8 (x2.2.2.2.1 k)) (u8 0))⟩),(1,some ⟨n3,true,0,(spr (smN (UInt64.ofNat l.wn)+n4) (smN (UInt64.ofNat l.wn)) (fun k=>u8 (smB (UInt64.ofNat l.wn) k)) (u8 0))⟩)],2⟩
def dpk_0_R2 (h:UInt64) (l:BytS) (x1:Nat) (n1:Nat) (n2:Nat) (n3:Nat) (n4:Nat) (n5:Nat) (n6:Nat) (x2:Nat × Nat × Nat × (Nat→UInt8) × Nat):Prop:=(x2.1≤l.wn)∧(x2.2.1=pkL h l.wn l.wf (x2.1))∧(x2.2.2.2.1=(pkF h l.wn l.wf (x2.1)))
def dpk_0_mu2 (h:UInt64) (l:BytS) (x1:Nat) (n1:Nat) (n2:Nat) (n3:Nat) (n4:Nat) (n5:Nat) (n6:Nat) (x2:Nat × Nat × Nat × (Nat→UInt8) × Nat):Nat:=l.wn - x2.1
theorem dpk_0 (h:UInt64) (l:BytS) (hl:OkS l) (hf:l.wn≤10∧∀ i,i < l.wn→1≤(l.wf i).wn∧(l.wf i).wn≤1000) (ht:twB l.wf l.wn=false):RunsF (famS l) Tryd.prog 17 [(u64 h),(Value.slice l.wa l.wn l.wc)] [] 2 (fun(ns:List Nat)=>(Value.tuple #[(Value.slice (some ⟨(ns.getD 0 0),0,none⟩) (pkL h l.wn l.wf l.wn) (pkL h l.wn l.wf l.wn+(ns.getD 1 0))),(int 0)])) (fun(ns:List Nat)=>[some ⟨(ns.getD 0 0),true,0,(spr (pkL h l.wn l.wf l.wn+(ns.getD 1 0)) (pkL h l.wn l.wf l.wn) (fun k=>u8 (pkF h l.wn l.wf l.wn k)) (u8 0))⟩]) :=
  runsF_of_ev (F:=(famS l)) mix Tryd.func17 rfl rfl 400 (.reg (rg [.g,.g]) (.reg (rg [.g,(.as (nat l.wn)),(.as (Value.bool (decide (10 < l.wn))))]) (.no (.reg (rg [.g]) (.inv [0,1,6] [] 0 (dpk_0_R1 h l) (dpk_0_S1 h l) (dpk_0_mu1 h l) (0:Nat) (fun(x1:Nat)=>(.reg (rg [.g,.g,(.as (nat l.wn)),(.as (Value.bool (decide (x1 < l.wn))))]) (.br (.openr (bysB l) (.reg (rg [.g,.g,(.as (ptr l.wb (l.wo+x1*1))),(.ld 0 (.tab x1 0)),(.as (nat ((l.wf x1).wn))),(.as (Value.bool (decide (((l.wf x1).wn) < 1)))),.g,(.opt .g),(.opt .g),(.opt (.as (ptr l.wb (l.wo+x1*1)))),(.opt (.ld 0 (.tab x1 0))),(.opt (.as (nat ((l.wf x1).wn)))),(.opt (.as (Value.bool (decide (1000 < ((l.wf x1).wn)))))),.pk]) (.no (.reg (rg [.g,(.as (nat (x1+1))),.g]) .done)))) (.reg (rg [.g,(.callF [] 0 0 (fun _=>(Value.bool (twB l.wf l.wn))) (fun _=>[])),.g]) (.reg (rg [.g]) (.no (.regn (rg [.g,(.callF [] 2 1 (fun ns=>Value.slice (some ⟨(ns.getD 0 0),0,none⟩) (smN h) (smN h+(ns.getD 1 0))) (fun ns=>[some ⟨(ns.getD 0 0),true,0,(spr (smN h+(ns.getD 1 0)) (smN h) (fun k=>u8 (smB h k)) (u8 0))⟩])),.g,(.as (nat l.wn)),(.as (u64 (UInt64.ofNat l.wn))),(.callF [] 2 1 (fun ns=>Value.slice (some ⟨(ns.getD 0 0),0,none⟩) (smN (UInt64.ofNat l.wn)) (smN (UInt64.ofNat l.wn)+(ns.getD 1 0))) (fun ns=>[some ⟨(ns.getD 0 0),true,0,(spr (smN (UInt64.ofNat l.wn)+(ns.getD 1 0)) (smN (UInt64.ofNat l.wn)) (fun k=>u8 (smB (UInt64.ofNat l.wn) k)) (u8 0))⟩])),(.oth [(0,false),(1,true)] 2 0 (fun ns=>Value.slice (some ⟨(ns.getD 0 0),0,none⟩) (smN h+(smN (UInt64.ofNat l.wn))) (smN h+(smN (UInt64.ofNat l.wn))+(ns.getD 1 0))) (fun ns=>[some ⟨(ns.getD 0 0),true,0,(spr (smN h+(smN (UInt64.ofNat l.wn))+(ns.getD 1 0)) (smN h+(smN (UInt64.ofNat l.wn))) (fun k=>u8 (catU (smB h) (smN h) (smB (UInt64.ofNat l.wn)) k)) (u8 0))⟩,none])),.g]) (more (fun n1=>more (fun n2=>more (fun n3=>more (fun n4=>more (fun n5=>more (fun n6=>fun _=>(.reg (rg [.g]) (.inv [1,8,9] [0,1] 2 (dpk_0_R2 h l x1 n1 n2 n3 n4 n5 n6) (dpk_0_S2 h l x1 n1 n2 n3 n4 n5 n6) (dpk_0_mu2 h l x1 n1 n2 n3 n4 n5 n6) ((0,smN h+(smN (UInt64.ofNat l.wn)),n6,catU (smB h) (smN h) (smB (UInt64.ofNat l.wn)),n5):Nat × Nat × Nat × (Nat→UInt8) × Nat) (fun(x2:Nat × Nat × Nat × (Nat→UInt8) × Nat)=>(.reg (rg [.g,.g,(.as (nat l.wn)),(.as (Value.bool (decide (x2.1 < l.wn))))]) (.br (.openr (bysB l) (.regn (rg [.g,.g,.g,(.as (ptr l.wb (l.wo+x2.1*1))),(.ld 2 (.tab x2.1 0)),(.callF [] 2 1 (fun ns=>Value.slice (some ⟨(ns.getD 0 0),0,none⟩) (byN (l.wf x2.1).wn) (byN (l.wf x2.1).wn+(ns.getD 1 0))) (fun ns=>[some ⟨(ns.getD 0 0),true,0,(spr (byN (l.wf x2.1).wn+(ns.getD 1 0)) (byN (l.wf x2.1).wn) (fun k=>u8 (byB (l.wf x2.1).wf (l.wf x2.1).wn k)) (u8 0))⟩])),(.oth [(0,false),(3,true)] 2 0 (fun ns=>Value.slice (some ⟨(ns.getD 0 0),0,none⟩) (x2.2.1+(byN (l.wf x2.1).wn)) (x2.2.1+(byN (l.wf x2.1).wn)+(ns.getD 1 0))) (fun ns=>[some ⟨(ns.getD 0 0),true,0,(spr (x2.2.1+(byN (l.wf x2.1).wn)+(ns.getD 1 0)) (x2.2.1+(byN (l.wf x2.1).wn)) (fun k=>u8 (catU x2.2.2.2.1 x2.2.1 (byB (l.wf x2.1).wf (l.wf x2.1).wn) k)) (u8 0))⟩,none])),.g]) (more (fun n7=>more (fun n8=>more (fun n9=>more (fun n10=>fun _=>(.reg (rg [.g,(.as (nat (x2.1+1))),.g]) .done)))))))) (.keep [8] [0] 2 (.told ⟨[(8,.v (Value.slice (some ⟨x2.2.2.2.2,0,none⟩) (pkL h l.wn l.wf l.wn) (pkL h l.wn l.wf l.wn+x2.2.2.1)))],[(0,some ⟨x2.2.2.2.2,true,0,(spr (pkL h l.wn l.wf l.wn+x2.2.2.1) (pkL h l.wn l.wf l.wn) (fun k=>u8 (pkF h l.wn l.wf l.wn k)) (u8 0))⟩)],2⟩ (.reg (rg [.g,.g,.g]) .done))))))))))))))))))))))))))) [] [0] rfl
    (have f0:l.wn≤l.wc∧l.wn≤9223372036854775807:=⟨hl.cap,hl.len⟩; have f1:=hf.1; Eq.mp (by kernel_rfl) (aI kV2 (aI (sk (aI (aT (@is_len Tryd.prog 35 23 (.tmp 10) (by kernel_rfl) l.wa l.wn l.wc)) (aI (aT (@is_gtrn Tryd.prog 3 3 (.tmp 11) (.const (.int .i64 10))  l.wn 10)) tV))) ((fun(hp1:(decide (10 < l.wn))=false)=>have f2:=(oF hp1); aT (aI hp1 (aI kV1 (aI (show(dpk_0_R1 h l) (0:Nat) from(show(0≤l.wn) from by exact Nat.zero_le _)) (aI (@rfl St ((dpk_0_S1 h l) (0:Nat))) (fun(x1:Nat) (hx1:(dpk_0_R1 h l) x1)=>have B0:x1≤l.wn:=hx1; aI (sK2 (aI (aT (@is_len Tryd.prog 35 23 (.tmp 14) (by kernel_rfl) l.wa l.wn l.wc)) (aI (aT (@is_lssn Tryd.prog 3 3 (.tmp 13) (.tmp 15)  x1 l.wn)) tV))) (aT (aI (fun(h2:(decide (x1 < l.wn))=true)=>have f4:=(oT h2); aI (Or.inl ⟨(show 0 < l.wn from by omega),rfl⟩:famS l (bysB l)) (aI (sK2 (aI (aT (@is_ixSq Tryd.prog 35 23 (.tmp 19) (.tmp 20) 1 (by kernel_rfl) (by kernel_rfl) l.wb l.wo l.wn l.wc x1 l.wa (hl.ad (show 0 < l.wn from by omega)) (show x1 < l.wn from by omega))) (aI (aT (aI (show x1 < l.wn from by omega) (@rfl Value (ptr l.wb (l.wo+x1*1))))) (aI (aT (@is_len Tryd.prog 23 5 (.tmp 22) (by kernel_rfl) ((l.wf x1).wa) ((l.wf x1).wn) ((l.wf x1).wc))) (aI (aT (@is_lssn Tryd.prog 3 3 (.tmp 23) (.const (.int .i64 1))  ((l.wf x1).wn) 1)) (sk (aI (fun(hg:(sB (decide (((l.wf x1).wn) < 1)) false)=true)=>t2) (aI (fun(hg:(sB (decide (((l.wf x1).wn) < 1)) false)=true)=>t2) (aI (fun(hg:(sB (decide (((l.wf x1).wn) < 1)) false)=true)=>have f5:¬ (((l.wf x1).wn) < 1):=(oF (sameB_f hg)); (aI (aI hg (aI hg tV)) (@is_ixSq Tryd.prog 35 23 (.tmp 26) (.tmp 27) 1 (by kernel_rfl) (by kernel_rfl) l.wb l.wo l.wn l.wc x1 l.wa (hl.ad (show 0 < l.wn from by omega)) (show x1 < l.wn from by omega)))) (aI (fun(hg:(sB (decide (((l.wf x1).wn) < 1)) false)=true)=>have f5:¬ (((l.wf x1).wn) < 1):=(oF (sameB_f hg)); (aI (aI hg tV) (aI (show x1 < l.wn from by omega) (@rfl Value (ptr l.wb (l.wo+x1*1)))))) (aI (fun(hg:(sB (decide (((l.wf x1).wn) < 1)) false)=true)=>have f5:¬ (((l.wf x1).wn) < 1):=(oF (sameB_f hg)); (aI (aI hg tV) (@is_len Tryd.prog 23 5 (.tmp 29) (by kernel_rfl) ((l.wf x1).wa) ((l.wf x1).wn) ((l.wf x1).wc)))) (aI (fun(hg:(sB (decide (((l.wf x1).wn) < 1)) false)=true)=>(aI (aI hg tV) (@is_gtrn Tryd.prog 3 3 (.tmp 30) (.const (.int .i64 1000))  ((l.wf x1).wn) 1000))) (aI (aT (aI (fun(_:(decide (((l.wf x1).wn) < 1))=true)=>tV) (fun(hp:(decide (((l.wf x1).wn) < 1))=false)=>(sameB_mkf hp)))) tV))))))))))))) ((fun(hp3:(selB (decide (((l.wf x1).wn) < 1)) true (decide (1000 < ((l.wf x1).wn))))=false)=>have f5:¬ (((l.wf x1).wn) < 1):=(oF (sbor_l hp3)); have f6:¬ (1000 < ((l.wf x1).wn)):=(oF (sbor_r hp3)); aT (aI hp3 (aI (sk (aI (aT (@is_addn Tryd.prog 3 3 (.tmp 17) (.const (.int .i64 1))  x1 1 (show x1+1≤9223372036854775807 from by omega))) kV1)) ((rnd (dpk_0_R1 h l) (dpk_0_S1 h l) (dpk_0_mu1 h l) x1 (x1+1:Nat) (show(dpk_0_R1 h l) (x1+1:Nat)∧(dpk_0_mu1 h l) (x1+1:Nat) < (dpk_0_mu1 h l) x1 from(show(((x1+1)≤l.wn))∧(l.wn - (x1+1)) < (l.wn - x1) from by exact⟨by omega,by omega⟩))))))) (show(selB (decide (((l.wf x1).wn) < 1)) true (decide (1000 < ((l.wf x1).wn))))=false from by exact sz_ok (hf.2 _ (by omega)))))) (fun(h2:(decide (x1 < l.wn))=false)=>have f4:=(oF h2); aI (sk (aI (aT (rtwice_fam l hl)) kV1)) (aI kV1 ((fun(hp4:(twB l.wf l.wn)=false)=>aT (aI hp4 (fun(n1 n2 n3 n4 n5 n6:Nat)=>aI (sk (aI (aT (rsmall_s (F:=(famS l)) h)) (sk (aI (aT (@is_len Tryd.prog 35 23 (.tmp 38) (by kernel_rfl) l.wa l.wn l.wc)) (aI (aT (@conv_int_u64 Tryd.prog 3 30 (.tmp 39) (by kernel_rfl) (by kernel_rfl) l.wn)) (aI (aT (rsmall_s (F:=(famS l)) (UInt64.ofNat l.wn))) (aI (aT (SRuns.dark [false,true] (mk_append (P:=Tryd.prog) (t:=23) (ty:=23) (e:=5) (by kernel_rfl) one5 n1 (smN h) n2 n3 0 0 (smN (UInt64.ofNat l.wn)) (smN (UInt64.ofNat l.wn)+n4) u8 (smB h) (smB (UInt64.ofNat l.wn)) (spr (smN (UInt64.ofNat l.wn)+n4) (smN (UInt64.ofNat l.wn)) (fun k=>u8 (smB (UInt64.ofNat l.wn) k)) (u8 0)) (spr_srcJ) (fun _=>rfl) (show(smN h+(smN (UInt64.ofNat l.wn)))*1≤140737488355328∧smN h+(smN (UInt64.ofNat l.wn))≤9223372036854775807 from by have hb1:=smN_rng h; have hb2:=smN_rng (UInt64.ofNat l.wn); omega)))) kV1))))))) (aI kV1 (aI (show(dpk_0_R2 h l x1 n1 n2 n3 n4 n5 n6) ((0,smN h+(smN (UInt64.ofNat l.wn)),n6,catU (smB h) (smN h) (smB (UInt64.ofNat l.wn)),n5):Nat × Nat × Nat × (Nat→UInt8) × Nat) from(show(0≤l.wn)∧((smN h+(smN (UInt64.ofNat l.wn)))=pkL h l.wn l.wf (0))∧((catU (smB h) (smN h) (smB (UInt64.ofNat l.wn)))=(pkF h l.wn l.wf (0))) from by exact⟨Nat.zero_le _,rfl,rfl⟩)) (aI (@rfl St ((dpk_0_S2 h l x1 n1 n2 n3 n4 n5 n6) ((0,smN h+(smN (UInt64.ofNat l.wn)),n6,catU (smB h) (smN h) (smB (UInt64.ofNat l.wn)),n5):Nat × Nat × Nat × (Nat→UInt8) × Nat))) (fun(x2:Nat × Nat × Nat × (Nat→UInt8) × Nat) (hx2:(dpk_0_R2 h l x1 n1 n2 n3 n4 n5 n6) x2)=>have C0:x2.1≤l.wn:=hx2.1; have C1:x2.2.1=pkL h l.wn l.wf (x2.1):=hx2.2.1; have C2:x2.2.2.2.1=(pkF h l.wn l.wf (x2.1)):=hx2.2.2; aI (sK2 (aI (aT (@is_len Tryd.prog 35 23 (.tmp 44) (by kernel_rfl) l.wa l.wn l.wc)) (aI (aT (@is_lssn Tryd.prog 3 3 (.tmp 43) (.tmp 45)  x2.1 l.wn)) tV))) (aT (aI (fun(h5:(decide (x2.1 < l.wn))=true)=>have f9:=(oT h5); aI (Or.inl ⟨(show 0 < l.wn from by omega),rfl⟩:famS l (bysB l)) (fun(n7 n8 n9 n10:Nat)=>aI (sK3 (aI (aT (@is_ixSq Tryd.prog 35 23 (.tmp 50) (.tmp 51) 1 (by kernel_rfl) (by kernel_rfl) l.wb l.wo l.wn l.wc x2.1 l.wa (hl.ad (show 0 < l.wn from by omega)) (show x2.1 < l.wn from by omega))) (aI (aT (aI (show x2.1 < l.wn from by omega) (@rfl Value (ptr l.wb (l.wo+x2.1*1))))) (aI (aT (RunsF.mono (s_el (show x2.1 < l.wn from by omega)) (rbytes_s (l.wf x2.1) (hl.el _ (show x2.1 < l.wn from by omega)) (Nat.le_trans (hf.2 _ (show x2.1 < l.wn from by omega)).2 (by decide))))) (aI (aT (SRuns.dark [false,true] (mk_append (P:=Tryd.prog) (t:=23) (ty:=23) (e:=5) (by kernel_rfl) one5 x2.2.2.2.2 x2.2.1 x2.2.2.1 n7 0 0 (byN (l.wf x2.1).wn) (byN (l.wf x2.1).wn+n8) u8 x2.2.2.2.1 (byB (l.wf x2.1).wf (l.wf x2.1).wn) (spr (byN (l.wf x2.1).wn+n8) (byN (l.wf x2.1).wn) (fun k=>u8 (byB (l.wf x2.1).wf (l.wf x2.1).wn k)) (u8 0)) (spr_srcJ) (fun _=>rfl) (show(x2.2.1+(byN (l.wf x2.1).wn))*1≤140737488355328∧x2.2.1+(byN (l.wf x2.1).wn)≤9223372036854775807 from by have hb1:=pkL_le (h:=h) (n:=l.wn) (e:=l.wf) (k:=x2.1) (fun j hj=>(hf.2 j (by omega)).2); have hb2:=byN_rng (l.wf x2.1).wn; have hb3:=(hf.2 x2.1 (by omega)).2; omega)))) kV1))))) (aI (sk (aI (aT (@is_addn Tryd.prog 3 3 (.tmp 47) (.const (.int .i64 1))  x2.1 1 (show x2.1+1≤9223372036854775807 from by omega))) kV1)) ((rnd (dpk_0_R2 h l x1 n1 n2 n3 n4 n5 n6) (dpk_0_S2 h l x1 n1 n2 n3 n4 n5 n6) (dpk_0_mu2 h l x1 n1 n2 n3 n4 n5 n6) x2 ((x2.1+1,x2.2.1+(byN (l.wf x2.1).wn),n10,catU x2.2.2.2.1 x2.2.1 (byB (l.wf x2.1).wf (l.wf x2.1).wn),n9):Nat × Nat × Nat × (Nat→UInt8) × Nat) (show(dpk_0_R2 h l x1 n1 n2 n3 n4 n5 n6) ((x2.1+1,x2.2.1+(byN (l.wf x2.1).wn),n10,catU x2.2.2.2.1 x2.2.1 (byB (l.wf x2.1).wf (l.wf x2.1).wn),n9):Nat × Nat × Nat × (Nat→UInt8) × Nat)∧(dpk_0_mu2 h l x1 n1 n2 n3 n4 n5 n6) ((x2.1+1,x2.2.1+(byN (l.wf x2.1).wn),n10,catU x2.2.2.2.1 x2.2.1 (byB (l.wf x2.1).wf (l.wf x2.1).wn),n9):Nat × Nat × Nat × (Nat→UInt8) × Nat) < (dpk_0_mu2 h l x1 n1 n2 n3 n4 n5 n6) x2 from(show(((x2.1+1)≤l.wn)∧((x2.2.1+(byN (l.wf x2.1).wn))=pkL h l.wn l.wf ((x2.1+1)))∧((catU x2.2.2.2.1 x2.2.1 (byB (l.wf x2.1).wf (l.wf x2.1).wn))=(pkF h l.wn l.wf ((x2.1+1)))))∧(l.wn - (x2.1+1)) < (l.wn - x2.1) from by exact⟨⟨by omega,by rw [C1] <;> rfl,by rw [C2,C1] <;> rfl⟩,by omega⟩))))))) (fun(h5:(decide (x2.1 < l.wn))=false)=>have f9:=(oF h5); aI (show(⟨[(8,.v (Value.slice (some ⟨x2.2.2.2.2,0,none⟩) x2.2.1 (x2.2.1+x2.2.2.1)))],[(0,some ⟨x2.2.2.2.2,true,0,(spr (x2.2.1+x2.2.2.1) x2.2.1 (fun k=>u8 (x2.2.2.2.1 k)) (u8 0))⟩)],2⟩:St)=⟨[(8,.v (Value.slice (some ⟨x2.2.2.2.2,0,none⟩) (pkL h l.wn l.wf l.wn) (pkL h l.wn l.wf l.wn+x2.2.2.1)))],[(0,some ⟨x2.2.2.2.2,true,0,(spr (pkL h l.wn l.wf l.wn+x2.2.2.1) (pkL h l.wn l.wf l.wn) (fun k=>u8 (pkF h l.wn l.wf l.wn k)) (u8 0))⟩)],2⟩ from by have e0:x2.1=l.wn:=(by omega); rw [C2,C1,e0]) (aI kV3 (aT (eX (fun(ns:List Nat)=>ns.length=2∧((Value.tuple #[(Value.slice (some ⟨x2.2.2.2.2,0,none⟩) (pkL h l.wn l.wf l.wn) (pkL h l.wn l.wf l.wn+x2.2.2.1)),(int 0)]):Value)=(fun(ns:List Nat)=>(Value.tuple #[(Value.slice (some ⟨(ns.getD 0 0),0,none⟩) (pkL h l.wn l.wf l.wn) (pkL h l.wn l.wf l.wn+(ns.getD 1 0))),(int 0)])) ns∧([some ⟨x2.2.2.2.2,true,0,(spr (pkL h l.wn l.wf l.wn+x2.2.2.1) (pkL h l.wn l.wf l.wn) (fun k=>u8 (pkF h l.wn l.wf l.wn k)) (u8 0))⟩]:List (Option Blk))=(fun(ns:List Nat)=>[some ⟨(ns.getD 0 0),true,0,(spr (pkL h l.wn l.wf l.wn+(ns.getD 1 0)) (pkL h l.wn l.wf l.wn) (fun k=>u8 (pkF h l.wn l.wf l.wn k)) (u8 0))⟩]) ns) [x2.2.2.2.2,x2.2.2.1] (aI (@rfl Nat 2) (aI (@rfl Value (Value.tuple #[(Value.slice (some ⟨x2.2.2.2.2,0,none⟩) (pkL h l.wn l.wf l.wn) (pkL h l.wn l.wf l.wn+x2.2.2.1)),(int 0)])) (@rfl (List (Option Blk)) [some ⟨x2.2.2.2.2,true,0,(spr (pkL h l.wn l.wf l.wn+x2.2.2.1) (pkL h l.wn l.wf l.wn) (fun k=>u8 (pkF h l.wn l.wf l.wn k)) (u8 0))⟩])))))))))))))))) (show(twB l.wf l.wn)=false from by exact ht)))))))))))) (show(decide (10 < l.wn))=false from by exact decide_eq_false (by omega))))))
theorem dpack_X (h:UInt64) (l:BytS) (hl:OkS l):RunsO (famS l) Tryd.prog 17 [u64 h,slqS l] [] 2 (fun ns=>.tuple #[gsV (pakG h l (ns.getD 0 0) (ns.getD 1 0)),int (pakE l)]) (fun ns=>[gsE u8C [u8 0] 1 (pakG h l (ns.getD 0 0) (ns.getD 1 0))]):=by
  by_cases h1:(selB (decide (10 < l.wn)) true (anyK (unB l.wf) l.wn))=true
  · have e:=pak_1 h1
    simp only [e,pakG_no (show pakE l≠0 by rw [e]; decide)]
    have h2:RunsF (famS l) Tryd.prog 17 [u64 h,slqS l] [] 0 (fun _=>.tuple #[Value.slice none 0 0,int 2]) (fun _=>[]):=by
      by_cases h10:10 < l.wn
      · exact dpk_l h l hl h10
      · rw [selB_or,decide_eq_false h10,Bool.false_or] at h1
        obtain⟨i,hi,hb⟩:=anyK_iff.1 h1
        exact dpk_b h l i hl (by omega) hi hb
    exact h2.toO.as (.refl _) (fun _=>[0,0]) fun ns _=>⟨rfl,rfl,.dn (.zz _),tV⟩
  · have h1':(selB (decide (10 < l.wn)) true (anyK (unB l.wf) l.wn))=false:=by simpa using h1
    by_cases h2:twB l.wf l.wn=true
    · have e:=pak_2 h1' h2
      simp only [e,pakG_no (show pakE l≠0 by rw [e]; decide)]
      exact(dpk_t h l hl (pack_few h1') h2).toO.as (.refl _) (fun _=>[0,0]) fun ns _=>⟨rfl,rfl,.dn (.zz _),tV⟩
    · have h2':twB l.wf l.wn=false:=by simpa using h2
      have e:=pak_0 h1' h2'
      simp only [e,pakG_yes e,pkG_V,pkG_E]
      exact(dpk_0 h l hl (pack_few h1') h2').toO
end Go.Proofs.YtmdpendnbkajdaaDoor
end
