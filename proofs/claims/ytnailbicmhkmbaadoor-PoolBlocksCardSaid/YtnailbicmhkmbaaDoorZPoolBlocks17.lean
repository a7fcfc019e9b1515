/-
  Many in one: Jou, Jou2, Jou3, Pool, Pool2, PoFn, PoWa, Jou4, Jou5, Jou6, Jou7, Jou8, Jou9, Pool3, PoFi, Pool4, PoAd, Pool5, Pool6, Pool7, PoTw, Pool10, Pool11, PoRd, Pool12, Pool13, Pool14, PoUn.
-/
import Derived.Test.YtnailbicmhkmbaaDoorZPoolBlocks16
import Derived.Laws.BytesString
set_option linter.unusedVariables false
set_option linter.unusedSimpArgs false
set_option maxRecDepth 100000
set_option maxHeartbeats 1000000
section
namespace Go.Eng
open Go.RowKit Go.WideShapes Go.ChangeShapes Go.ChangeAt Go.Deep
def strOf (f:Nat→UInt8) (n:Nat):ByteArray:=⟨((List.range n).map f).toArray⟩
theorem push_fold (f:Nat→UInt8):∀ (l:List Nat) (s:ByteArray),(l.map fun k=>((f k).toNat:Int)).foldl (fun r n=>r.push (UInt8.ofNat n.toNat)) s=⟨s.data ++ (l.map f).toArray⟩
  | [],s=>by simp
  | k :: l,s=>by
    simp only [List.map_cons,List.foldl_cons]
    rw [push_fold f l]
    simp [ByteArray.push]
theorem srunF_toStr {P : Program} {src dst e : TypeId} (hs : P.underlying src = some (.slice e)) (he : P.underlying e = some (.int .u8)) (hd : P.underlying dst = some .string) (q : BytL) (hq : OkB q) :
    SRunsF (famB q) P (convSem src dst (slqV q)) [] 0 (fun _=>.string (strOf q.wf q.wn)) (fun _=>[]):=by
  intro w hall ha hF
  refine⟨[],w,rfl,.inl ?_,Post.refl (fun p b h=>by simp [lM] at h) ha⟩
  have key:(Conv.bytesToString (slqV q)).run P w = .ok (.string (strOf q.wf q.wn)) w:=by
    rcases Nat.eq_zero_or_pos q.wn with h0 | h0
    · unfold slqV
      rw [h0]
      cases q.wa with
      | none=>rfl
      | some a =>
        have:=run_bytesToString (P:=P) w a 0 q.wc [] (by
          have:=run_loadCells (P:=P) (w:=w) a 0 (fun _=>undef) (fun j hj=>by omega)
          simpa using this)
        rw [this]; rfl
    · have h1:=(hF (bytB q) ⟨h0,rfl⟩).1
      unfold slqV
      rw [hq.ad h0]
      have h2:=run_loadCells (P:=P) (w:=w) ⟨q.wb,q.wo,none⟩ q.wn (fun k=>u8 (q.wf k)) (fun j hj=>by
        have:=h1.cell j (u8 (q.wf j)) (tabF_in hj)
        rw [add_none]; exact this)
      have h3:=run_bytesToString (P:=P) w ⟨q.wb,q.wo,none⟩ q.wn q.wc ((List.range q.wn).map fun k=>((q.wf k).toNat:Int)) (by
        rw [h2]; congr 2; rw [List.map_map]; rfl)
      rw [h3]
      congr 2
      rw [push_fold]
      unfold strOf
      congr 1
      exact Array.empty_append
  show((convert src dst (slqV q)).bind fun v=>Sem.pure (Next.value v)).run P w=_
  have e1:=run_convert_bytes_string (P:=P) w src dst e q.wa q.wn q.wc hs he hd
  show(convert src dst (slqV q) >>= fun v=>Sem.pure (Next.value v)).run P w=_
  rw [Sem.run_bind,show(convert src dst (slqV q)).run P w=_ from e1,show(Conv.bytesToString (.slice q.wa q.wn q.wc)).run P w=_ from key]
  rfl
theorem SRunsF.mono {F F':Blk→Prop} {P:Program} {s:Sem Next} {bs:List Blk} {k:Nat} {v:List Nat→Value} {out:List Nat→List (Option Blk)} (hs:∀ b,F b→F' b) (h:SRunsF F P s bs k v out):SRunsF F' P s bs k v out :=
  fun w hb ha hF=>h w hb ha fun b hb'=>hF b (hs b hb')
def NmF (F F':Blk→Prop):Prop:=∀ z,F z→∃ y,F' y∧∀ j,z.has j→y.has j
theorem nm_sub {F F':Blk→Prop} (h:∀ z,F z→F' z):NmF F F':=fun z hz=>⟨z,h z hz,fun _ h=>h⟩
theorem nm_or {F G F':Blk→Prop} (h1:NmF F F') (h2:NmF G F'):NmF (fun b=>F b∨G b) F':=fun z hz=>hz.elim (h1 z) (h2 z)
def SubH (F F':Blk→Prop):Prop:=∀ w:World,FamH F' w→FamH F w
theorem sh_sub {F F':Blk→Prop} (h:∀ z,F z→F' z):SubH F F':=fun w hF z hz=>hF z (h z hz)
theorem sh_to {F':Blk→Prop} {b:BytL} {k:Nat} (hk:k≤b.wn) (H:SubH (famB b) F'):SubH (famB (bytT b k)) F':=fun w hF=>holdb_to hk (H w hF)
theorem sh_from {F':Blk→Prop} {b:BytL} {k:Nat} (hk:k≤b.wn) (H:SubH (famB b) F'):SubH (famB (bytF b k)) F':=fun w hF=>holdb_from hk (H w hF)
theorem sh_or {F G F':Blk→Prop} (h1:SubH F F') (h2:SubH G F'):SubH (fun b=>F b∨G b) F':=fun w hF=>hold_or (h1 w hF) (h2 w hF)
theorem RunsO.pad1 {F : Blk → Prop} {P : Program} {f : FuncId} {args : List Value} {bs : List (Option Blk)} {v v2 : List Nat → Value} {out out2 : List Nat → List (Option Blk)} (h : RunsO F P f args bs 1 v out) (hv : ∀ a, v2 [a, 0] = v [a]) (ho : ∀ a, out2 [a, 0] = out [a]) :
    RunsO F P f args bs 2 v2 out2:=fun w hm ha hF=>(h w hm ha hF).mono fun e w' ⟨ns,hns,he,hp⟩=>by
  match ns,hns with
  | [a],_=>exact⟨[a,0],rfl,by rw [hv]; exact he,by rw [ho]; exact hp⟩
theorem RunsO.pad0 {F : Blk → Prop} {P : Program} {f : FuncId} {args : List Value} {bs : List (Option Blk)} {k : Nat} {v v2 : List Nat → Value} {out out2 : List Nat → List (Option Blk)} (h : RunsO F P f args bs 0 v out) (ns0 : List Nat) (hk : ns0.length = k) (hv : v2 ns0 = v []) (ho : ∀ p b, lM (out2 ns0) p = some b → lM (out []) p = some b) :
    RunsO F P f args bs k v2 out2:=fun w hm ha hF=>(h w hm ha hF).mono fun e w' ⟨ns,hns,he,hp⟩=>by
  match ns,hns with
  | [],_=>exact⟨ns0,hk,by rw [hv]; exact he,hp.sub ho⟩
def clG (q:BytL) (a r:Nat):Grw UInt8:=⟨q.wa.isNone,a,q.wn,r,q.wf⟩
def strE (s u:ByteArray):Bool:=s.toList == u.toList
theorem is_eqlStr {P:Program} {t t':TypeId} {x y:Operand} (s u:ByteArray):IsOp P (.binOp .eql t x y t') [.string s,.string u] (.bool (strE s u)):=isOp_bin rfl rfl
theorem strOf_list (f:Nat→UInt8) (n:Nat):(strOf f n).toList=(List.range n).map f:=by
  rw [ByteArray.toList_eq]; simp [strOf]
theorem strE_of (f g:Nat→UInt8) (n m:Nat):strE (strOf f n) (strOf g m)=sameS f n g m:=by
  unfold strE
  rw [strOf_list,strOf_list,Bool.eq_iff_iff,beq_iff_eq]
  constructor
  · intro h
    have hl:n=m:=by have:=congrArg List.length h; simpa using this
    subst hl
    refine decide_eq_true ⟨rfl,fun k hk=>?_⟩
    have h1:=congrArg (fun l=>l[k]?) h
    simp only [List.getElem?_map,List.getElem?_range hk,Option.map_some] at h1
    exact Option.some.inj h1
  · intro h
    obtain⟨rfl,hk⟩:=of_decide_eq_true h
    exact List.map_congr_left fun k hk'=>hk k (List.mem_range.1 hk')
def siz4 (n:Nat):Nat→UInt8
  | 0=>UInt8.ofNat (n / 16777216)
  | 1=>UInt8.ofNat (n / 65536)
  | 2=>UInt8.ofNat (n / 256)
  | _=>UInt8.ofNat n
def dig4 (n:Nat) (f:Nat→UInt8):Nat→UInt8:=digOf (catU (siz4 n) 4 f) (4+n)
def frF (n:Nat) (f:Nat→UInt8):Nat→UInt8:=catU (catU (siz4 n) 4 (dig4 n f)) 8 f
section
variable {q:BytL}
end
end Go.Eng
end
section
namespace Go.Eng
open Go.RowKit Go.WideShapes Go.ChangeShapes Go.ChangeAt Go.Deep
def tzP:Nat→Nat→Nat
  | 0,_=>0
  | k+1,n=>if n % 2=0 then tzP k (n / 2)+1 else 0
theorem tzP_pair (y:Nat):∀ (x fuel:Nat),x < fuel→tzP fuel (2 ^ x*(2*y+1))=x
  | 0,fuel+1,_=>by
    unfold tzP; rw [if_neg (by omega)]
  | x+1,fuel+1,h=>by
    have e:2 ^ (x+1)*(2*y+1)=2*(2 ^ x*(2*y+1)):=by rw [Nat.pow_succ,Nat.mul_comm (2 ^ x) 2,Nat.mul_assoc]
    unfold tzP
    rw [e,if_pos (by omega),Nat.mul_div_cancel_left _ (by omega),tzP_pair y x fuel (by omega)]
def un1 (n:Nat):Nat:=tzP n n
def un2 (n:Nat):Nat:=n / 2 ^ un1 n / 2
theorem un1_pair (x y:Nat):un1 (2 ^ x*(2*y+1))=x:=by
  refine tzP_pair y x _ ?_
  have h1:=Nat.lt_two_pow_self (n:=x)
  have h2:2 ^ x*1≤2 ^ x*(2*y+1):=Nat.mul_le_mul_left _ (by omega)
  omega
theorem un2_pair (x y:Nat):un2 (2 ^ x*(2*y+1))=y:=by
  unfold un2
  rw [un1_pair,Nat.mul_div_cancel_left _ (Nat.two_pow_pos x)]
  omega
def decL:Nat→Nat→Nat
  | c,0=>un1 c
  | c,i+1=>decL (un2 c) i
def codL:Nat→(Nat→Nat)→Nat
  | 0,_=>0
  | n+1,f=>2 ^ f 0*(2*codL n (fun i=>f (i+1))+1)
theorem decL_codL:∀ (n:Nat) (f:Nat→Nat) (i:Nat),i < n→decL (codL n f) i=f i
  | n+1,f,0,_=>un1_pair _ _
  | n+1,f,i+1,h=>by
    show decL (un2 (2 ^ f 0*(2*codL n (fun i=>f (i+1))+1))) i=_
    rw [un2_pair,decL_codL n _ i (by omega)]
def pcod (c k x:Nat):Nat:=codL (k+1) fun i=>if i < k then decL c i else x
theorem pcod_old {c k x i:Nat} (h:i < k):decL (pcod c k x) i=decL c i:=by
  unfold pcod; rw [decL_codL _ _ _ (by omega),if_pos h]
theorem pcod_new (c k x:Nat):decL (pcod c k x) k=x:=by
  unfold pcod; rw [decL_codL _ _ _ (by omega),if_neg (by omega)]
def slqC (q:BytL):List Value:=[slqV q]
theorem slqC_ok (q:BytL):(slqC q).length=1∧(slqC q).all Value.oneCell'=true:=⟨rfl,rfl⟩
section
variable {L:Nat→Nat} {f:Nat→Nat→UInt8}
def elF (c d:Nat) (L:Nat→Nat) (f:Nat→Nat→UInt8) (k:Nat):BytL:=bytO (decL c k) (L k) (L k+decL d k) (f k)
def sprP (n r:Nat) (g:Nat→UInt8):Piece:=.row (n+r) 1 fun k=>[if k < n then u8 (g k) else u8 0]
def plG (c d:Nat) (L:Nat→Nat) (f:Nat→Nat→UInt8) (k:Nat):Option (Nat × Piece):=some (decL c k,sprP (L k) (decL d k) (f k))
def plO (n c d:Nat) (L:Nat→Nat) (f:Nat→Nat→UInt8):Option Blk:=match n with
  | 0=>none
  | m+1=>some ⟨decL c m,true,0,.pile (m+1) (plG c d L f)⟩
theorem plO_succ (n c d:Nat):plO (n+1) c d L f=some ⟨decL c n,true,0,.pile (n+1) (plG c d L f)⟩:=rfl
theorem pack_push {k c d n1 n2 : Nat} {x : BytL} (hL : x.wn = L k) (hf : x.wf = f k) :
    PackOk (plO k c d L f) ⟨n1,true,0,spr (x.wn+n2) x.wn (fun j=>u8 (x.wf j)) (u8 0)⟩ (k+1) (plG (pcod c k n1) (pcod d k n2) L f):=by
  intro i j pc hi hg
  injection hg with hg
  injection hg with h1 h2
  by_cases hik:i < k
  · left
    cases k with
    | zero=>omega
    | succ m =>
      refine⟨_,_,_,i,plO_succ m c d,rfl,rfl,hik,?_⟩
      rw [← h1,← h2,pcod_old hik,pcod_old hik]; rfl
  · right
    have:i=k:=by omega
    subst this
    refine⟨by rw [← h1,pcod_new],.inl ?_⟩
    rw [← h2,pcod_new,hL,hf]
    rfl
theorem gs_tellC {α : Type} {C : α → List Value} {zc : List Value} {sz : Nat} {A : Grw α} {S : Nat} {F : Nat → α} (h1 : A.n = S) (h2 : A.z = decide (S = 0)) (h3 : ∀ j, j < S → C (A.f j) = C (F j)) :
    gsV A=gsV (gsOf S F A.nm A.r)∧gsE C zc sz A=gsE C zc sz (gsOf S F A.nm A.r):=by
  subst h1
  refine⟨?_,?_⟩
  · unfold gsV gsA gsC gsOf
    simp only [h2]
  · unfold gsE gsOf
    rw [h2]
    cases hd:decide (A.n=0) with
    | true=>rfl
    | false =>
      simp only
      congr 2
      unfold sprE
      congr 1
      funext k
      by_cases h:k < A.n
      · rw [if_pos h,if_pos h]; exact h3 k h
      · rw [if_neg h,if_neg h]
def qOf:Value→BytL
  | .slice a n c=>⟨a,n,c,0,0,fun _=>0⟩
  | _=>bytZ none 0
theorem list_push {k c d n1 n2 : Nat} {x : BytL} (hL : x.wn = L k) (hf : x.wf = f k) {A : Grw BytL} (hz : A.z = false) (hn : A.n = k + 1) (hA : A.f = catU (elF c d L f) k fun _ => qOf (.slice (some ⟨n1, 0, none⟩) x.wn (x.wn + n2))) :
    gsV A=gsV (gsOf (k+1) (elF (pcod c k n1) (pcod d k n2) L f) A.nm A.r)∧gsE slqC [Value.slice none 0 0] 1 A=gsE slqC [Value.slice none 0 0] 1 (gsOf (k+1) (elF (pcod c k n1) (pcod d k n2) L f) A.nm A.r) :=
  gs_tellC hn (by rw [hz,decide_eq_false (by omega)]) fun j hj=>by
    rw [hA]
    unfold catU
    by_cases h:j < k
    · rw [if_pos h]; unfold elF; rw [pcod_old h,pcod_old h]
    · have:j=k:=by omega
      subst this
      rw [if_neg h]; unfold elF; rw [pcod_new,pcod_new,← hL]
      rfl
end
end Go.Eng
end
section
namespace Go.Eng
open Go.RowKit Go.WideShapes Go.ChangeShapes Go.ChangeAt Go.Deep
section
variable {q:BytL} {A:Option Addr} {m C a:Nat}
end
section
variable {q:BytL} {A:Option Addr} {m C a k:Nat}
end
theorem spr_srcJ {n r:Nat} {f:Nat→Value} {z:Value}:∀ j,j < n→(spr (n+r) n f z).get (0+j)=some (f j):=fun j hj=>by
  rw [Nat.zero_add,spr,tabF_in (by omega),if_pos hj]
def four (a b c d:UInt8):Nat→UInt8
  | 0=>a
  | 1=>b
  | 2=>c
  | _=>d
def famSS (a b:BytS) (z:Blk):Prop:=famS a z∨famS b z
theorem ss_el {a b:BytS} {i j:Nat} (hi:i < a.wn) (hj:j < b.wn):∀ z,famBB (a.wf i) (b.wf j) z→famSS a b z:=fun z hz=>hz.elim (fun h=>.inl (.inr ⟨i,hi,h⟩)) (fun h=>.inr (.inr ⟨j,hj,h⟩))
def elS (a b:BytS) (i:Nat):Bool:=sameS (a.wf i).wf (a.wf i).wn (b.wf i).wf (b.wf i).wn
def listsB (a b:BytS):Bool:=decide (a.wn=b.wn∧∀ i,i < a.wn→elS a b i=true)
theorem lists_len {a b:BytS} (h:a.wn≠b.wn):false=listsB a b:=(decide_eq_false fun e=>h e.1).symm
theorem lists_not {a b:BytS} {i:Nat} (hi:i < a.wn) (h:(!elS a b i)=true):false=listsB a b:=(decide_eq_false fun e=>by have:=e.2 i hi; rw [this] at h; cases h).symm
theorem lists_yes {a b:BytS} {i:Nat} (hn:a.wn=b.wn) (hi:i=a.wn) (h:∀ k,k < i→elS a b k=true):true=listsB a b:=(decide_eq_true ⟨hn,fun k hk=>h k (by omega)⟩).symm
theorem lists_next {a b:BytS} {i:Nat} (h:∀ k,k < i→elS a b k=true) (he:(!elS a b i)=false):∀ k,k < i+1→elS a b k=true:=fun k hk=>by
  by_cases hki:k < i
  · exact h k hki
  · have:k=i:=by omega
    subst this; simpa using he
section
variable {q:BytL} {a k:Nat}
end
end Go.Eng
end
section
namespace Go.Eng
open Go.WideShapes Go.ChangeShapes Go.ChangeAt
section
variable {P:Program} {mt kt et:TypeId} {β:Type} {ev:β→Value} {z:β}
def strK (s u:ByteArray):Bool:=s.data == u.data
theorem strK_iff {s u:ByteArray}:strK s u=true ↔ s=u:=by
  unfold strK
  rw [beq_iff_eq]
  exact⟨fun h=>by cases s; cases u; simpa using h,fun h=>by rw [h]⟩
theorem strK_eq {s u:ByteArray} (h:strK s u=true):s=u:=strK_iff.1 h
theorem strK_refl (s:ByteArray):strK s s=true:=strK_iff.2 rfl
theorem str_keys (hm:P.underlying mt=some (.map kt et)) (hk:P.underlying kt=some .string) (hz:∀ w,(zeroValue et).run P w = .ok (ev z) w):MapT P mt kt et Value.string ev z strK :=
  mapT_now hm hk (fun _ _=>rfl) (fun em k w=>by unfold Instr.checkKey; simp [run_underlying hk]) (fun k h w=>by
    have:pureRun P (Op.equal kt (.string k) (.string h))=some (strK k h):=by
      show pureRun P (Op.equalIn (9999+1) kt (.string k) (.string h))=_
      unfold Op.equalIn; rw [pureRun_bind',pureRun_underlying hk]; rfl
    exact pureRun_run this w) (fun k h e=>by rw [strK_eq e]; show strK h h=true; exact strK_refl h) hz
end
section
variable {α β:Type} {P:Program} {mt kt et:TypeId} {kv:α→Value} {ev:β→Value} {z:β} {eqb:α→α→Bool}
theorem srun_lookN (M:MapT P mt kt et kv ev z eqb) (k:α):SRuns P (lookSem mt (.map none) (kv k) true) [] 0 (fun _=>.tuple #[ev z,.bool false]) (fun _=>[]):=by
  intro w hall ha
  refine⟨[],w,rfl,.inl (run_value ?_),⟨fun p b h=>?_,fun p q b c _ h=>?_,Adv.refl _ _⟩⟩
  · unfold Instr.lookup
    have h:=M.fnd k [] 0 w
    simp only [entsL] at h
    simp only [Sem.run_bind,run_underlying M.hm,Result.andThen_ok,Sem.run_pure,M.chk]
    have h':(Instr.findKey kt (kv k) (#[]:Array MapEntry).toList).run P w = .ok none w:=h
    rw [h']
    simp [M.zer]
  · simp [lM] at h
  · simp [lM] at h
end
def stC (l:List (ByteArray × Unit)):Cont:=mapC Value.string ev0 l
def hasP (l:List (ByteArray × Unit)) (k:ByteArray):Bool:=(findE strK k l).isSome
structure MpR where
  z:Bool
  m:Nat
  l:List (ByteArray × Unit)
def MpR.ok (Y:MpR):Prop:=Y.z=true→Y.l=[]
def mpV (Y:MpR):Value:=match Y.z with
  | true=>.map none
  | false=>.map (some Y.m)
def mpO (Y:MpR):Option Blk:=match Y.z with
  | true=>none
  | false=>some ⟨Y.m,true,0,stC Y.l⟩
theorem mpV_nil {Y:MpR} (h:Y.z=true):mpV Y = .map none:=by unfold mpV; rw [h]
theorem mpV_own {Y:MpR} (h:Y.z=false):mpV Y = .map (some Y.m):=by unfold mpV; rw [h]
theorem mpO_nil {Y:MpR} (h:Y.z=true):mpO Y=none:=by unfold mpO; rw [h]
theorem mpO_own {Y:MpR} (h:Y.z=false):mpO Y=some ⟨Y.m,true,0,stC Y.l⟩:=by unfold mpO; rw [h]
end Go.Eng
end
section
namespace Go.Eng
def anyK (p:Nat→Bool) (n:Nat):Bool:=(List.range n).any p
def idxF (p:Nat→Bool) (n:Nat):Int:=match (List.range n).find? p with
  | some k=>(k:Int)
  | none=>-1
theorem anyK_iff {p:Nat→Bool} {n:Nat}:anyK p n=true ↔ ∃ k,k < n∧p k=true:=by
  unfold anyK; rw [List.any_eq_true]
  exact⟨fun⟨k,h1,h2⟩=>⟨k,List.mem_range.1 h1,h2⟩,fun⟨k,h1,h2⟩=>⟨k,List.mem_range.2 h1,h2⟩⟩
theorem anyK_false {p:Nat→Bool} {n:Nat} (h:∀ k,k < n→p k=false):anyK p n=false:=by
  cases e:anyK p n with
  | false=>rfl
  | true=>obtain⟨k,h1,h2⟩:=anyK_iff.1 e; rw [h k h1] at h2; cases h2
theorem anyK_not {p:Nat→Bool} {n:Nat} (h:anyK p n=false):∀ k,k < n→p k=false:=fun k hk=>by
  cases e:p k with
  | false=>rfl
  | true=>rw [anyK_iff.2 ⟨k,hk,e⟩] at h; cases h
theorem anyK_congr {p q:Nat→Bool} {n:Nat} (h:∀ k,k < n→p k=q k):anyK p n=anyK q n:=by
  rw [Bool.eq_iff_iff,anyK_iff,anyK_iff]
  exact⟨fun⟨k,h1,h2⟩=>⟨k,h1,by rw [← h k h1]; exact h2⟩,fun⟨k,h1,h2⟩=>⟨k,h1,by rw [h k h1]; exact h2⟩⟩
theorem find_first {p:Nat→Bool} {n k:Nat} (hk:k < n) (h:p k=true) (hj:∀ j,j < k→p j=false):(List.range n).find? p=some k:=by
  rw [List.find?_eq_some_iff_append]
  refine⟨h,List.range k,(List.range' (k+1) (n - (k+1))),?_,fun a ha=>by rw [hj a (List.mem_range.1 ha)]; rfl⟩
  rw [List.range_eq_range',List.range_eq_range',show k :: List.range' (k+1) (n - (k+1))=List.range' k (n - k) from by rw [show n - k=(n - (k+1))+1 by omega,List.range'_succ]]
  have h2:=List.range'_append (s:=0) (m:=k) (n:=n - k) (step:=1)
  simp only [Nat.zero_add,Nat.one_mul] at h2
  rw [h2,show k+(n - k)=n by omega]
theorem idxF_some {p:Nat→Bool} {n k:Nat} (hk:k < n) (h:p k=true) (hj:∀ j,j < k→p j=false):idxF p n=(k:Int):=by
  unfold idxF; rw [find_first hk h hj]
theorem idxF_none {p:Nat→Bool} {n:Nat} (h:∀ k,k < n→p k=false):idxF p n = -1:=by
  unfold idxF
  rw [List.find?_eq_none.2 fun k hk=>by rw [h k (List.mem_range.1 hk)]; simp]
theorem first_or (p:Nat→Bool) (n:Nat):(∀ k,k < n→p k=false)∨∃ k,k < n∧p k=true∧∀ j,j < k→p j=false:=by
  cases e:(List.range n).find? p with
  | none=>exact .inl fun k hk=>by simpa using List.find?_eq_none.1 e k (List.mem_range.2 hk)
  | some k =>
    by_cases h:∃ k,k < n∧p k=true
    · right
      obtain⟨k,hk,hp⟩:=h
      induction k using Nat.strongRecOn with
      | _ k ih =>
        by_cases h2:∃ j,j < k∧p j=true
        · obtain⟨j,hj,hpj⟩:=h2; exact ih j hj (by omega) hpj
        · exact ⟨k, hk, hp, fun j hj => by cases e : p j with
            | false=>rfl
            | true=>exact absurd ⟨j,hj,e⟩ h2⟩
    · exact .inl fun k hk => by cases e : p k with
        | false=>rfl
        | true=>exact absurd ⟨k,hk,e⟩ h
theorem idxF_ge (p:Nat→Bool) (n:Nat):decide (idxF p n ≥ 0)=anyK p n:=by
  rcases first_or p n with h | ⟨k,h1,h2,h3⟩
  · rw [idxF_none h,anyK_false h]; rfl
  · rw [idxF_some h1 h2 h3,anyK_iff.2 ⟨k,h1,h2⟩]; exact decide_eq_true (by omega)
def elE (e:Nat→BytL) (x:BytL) (k:Nat):Bool:=sameS (e k).wf (e k).wn x.wf x.wn
def inB (e:Nat→BytL) (n:Nat) (x:BytL):Bool:=anyK (elE e x) n
def twB (e:Nat→BytL) (n:Nat):Bool:=anyK (fun i=>inB e i (e i)) n
def szB (n:Nat):Bool:=decide (1≤n) && decide (n≤1000)
def famSB (l:BytS) (y:BytL) (z:Blk):Prop:=famS l z∨famB y z
theorem sb_el {l:BytS} {y:BytL} {i:Nat} (hi:i < l.wn):∀ z,famBB (l.wf i) y z→famSB l y z:=fun z hz=>hz.elim (fun h=>.inl (.inr ⟨i,hi,h⟩)) .inr
theorem s_el {l:BytS} {i:Nat} (hi:i < l.wn):∀ z,famB (l.wf i) z→famS l z:=fun z hz=>.inr ⟨i,hi,hz⟩
theorem okb_some {x:BytL} (hx:OkB x) (h:1≤x.wn):x.wa.isNone=false:=by rw [hx.ad (by omega)]; rfl
theorem idx_ret {p:Nat→Bool} {n k:Nat} (hk:k < n) (h:p k=true) (hj:∀ j,j < k→p j=false):nat k=int (idxF p n):=by rw [idxF_some hk h hj]; rfl
theorem idx_end {p:Nat→Bool} {n k:Nat} (hk:k=n) (hj:∀ j,j < k→p j=false):int (-1)=int (idxF p n):=by subst hk; rw [idxF_none hj]
theorem any_next {p:Nat→Bool} {i:Nat} (h:∀ k,k < i→p k=false) (he:p i=false):∀ k,k < i+1→p k=false:=fun k hk=>by
  by_cases e:k=i
  · rw [e]; exact he
  · exact h k (by omega)
theorem any_yes {p:Nat→Bool} {n k:Nat} (hk:k < n) (h:p k=true):true=anyK p n:=(anyK_iff.2 ⟨k,hk,h⟩).symm
theorem any_no {p:Nat→Bool} {n k:Nat} (hk:k=n) (hj:∀ j,j < k→p j=false):false=anyK p n:=by subst hk; exact(anyK_false hj).symm
section
variable {α:Type}
def kpC (p:Nat→Bool):Nat→Nat
  | 0=>0
  | k+1=>kpC p k+if p k=true then 0 else 1
def kpF (f:Nat→α) (p:Nat→Bool):Nat→Nat→α
  | 0=>f
  | k+1=>if p k=true then kpF f p k else upd (kpF f p k) (kpC p k) (f k)
theorem kpC_le (p:Nat→Bool):∀ k,kpC p k≤k
  | 0=>Nat.le_refl 0
  | k+1=>by have:=kpC_le p k; unfold kpC; split <;> omega
theorem kpF_out (f:Nat→α) (p:Nat→Bool):∀ k j,k≤j→kpF f p k j=f j
  | 0,_,_=>rfl
  | k+1,j,h=>by
    have:=kpC_le p k
    unfold kpF; split
    · exact kpF_out f p k j (by omega)
    · unfold upd; rw [if_neg (by omega)]; exact kpF_out f p k j (by omega)
theorem kpC_all {p:Nat→Bool}:∀ {k:Nat},(∀ j,j < k→p j=false)→kpC p k=k
  | 0,_=>rfl
  | k+1,h=>by unfold kpC; rw [kpC_all fun j hj=>h j (by omega),h k (by omega)]; rfl
theorem kpF_all {f:Nat→α} {p:Nat→Bool}:∀ {k:Nat},(∀ j,j < k→p j=false)→kpF f p k=f
  | 0,_=>rfl
  | k+1,h=>by
    unfold kpF
    rw [h k (by omega),kpF_all fun j hj=>h j (by omega),kpC_all fun j hj=>h j (by omega)]
    funext j; simp only [Bool.false_eq_true,if_false,upd]; split
    · rename_i e; rw [e]
    · rfl
theorem kp_first {f:Nat→α} {p:Nat→Bool} {k:Nat} (h2:p k=true) (h3:∀ j,j < k→p j=false):k=kpC p (k+1)∧f=kpF f p (k+1):=by
  constructor
  · rw [kpC,kpC_all h3,h2]; rfl
  · rw [kpF,h2,kpF_all h3]; rfl
theorem kp_keep {f F:Nat→α} {p:Nat→Bool} {i k:Nat} (hi:i=kpC p k) (hF:F=kpF f p k) (h:p k=false):i+1=kpC p (k+1)∧upd F i (F k)=kpF f p (k+1):=by
  have e:F k=f k:=by rw [hF]; exact kpF_out f p k k (Nat.le_refl k)
  rw [e,kpC,kpF,h,← hi,← hF]
  exact⟨rfl,rfl⟩
theorem kp_drop {f F:Nat→α} {p:Nat→Bool} {i k:Nat} (hi:i=kpC p k) (hF:F=kpF f p k) (h:p k=true):i=kpC p (k+1)∧F=kpF f p (k+1):=by
  rw [kpC,kpF,h,← hi,← hF]
  exact⟨rfl,rfl⟩
theorem kp_mem (f:Nat→α) (p:Nat→Bool):∀ k j,j < kpC p k→∃ i,i < k∧p i=false∧kpF f p k j=f i
  | 0,j,h=>absurd h (Nat.not_lt_zero j)
  | k+1,j,h=>by
    have hc:=kpC_le p k
    cases e:p k with
    | true =>
      rw [kpC,e] at h
      obtain⟨i,h1,h2,h3⟩:=kp_mem f p k j (by simpa using h)
      exact⟨i,by omega,h2,by rw [kpF,e]; exact h3⟩
    | false =>
      rw [kpC,e] at h
      rw [kpF,e]
      simp only [Bool.false_eq_true,if_false,upd] at h ⊢
      by_cases hj:j=kpC p k
      · exact⟨k,by omega,e,by rw [if_pos hj]⟩
      · obtain⟨i,h1,h2,h3⟩:=kp_mem f p k j (by omega)
        exact⟨i,by omega,h2,by rw [if_neg hj]; exact h3⟩
end
end Go.Eng
end
section
namespace Go.Proofs.YtnailbicmhkmbaaDoor
open Go Go.Eng
theorem equal_fam (x y:BytL) (hx:OkB x) (hy:OkB y):RunsF (famBB x y) Tryd.prog 51 [(Value.slice x.wa x.wn x.wc),(Value.slice y.wa y.wn y.wc)] [] 0 (fun _=>Value.bool (sameS x.wf x.wn y.wf y.wn)) (fun _=>[]) :=
  runsF_of_ev (F:=(famBB x y)) mix Tryd.func51 rfl rfl 400 (.reg (rg [.g]) (.reg (rg [.g,(.othF [] 0 0 (fun _=>(Value.string (strOf x.wf x.wn))) (fun _=>[])),.g,(.othF [] 0 0 (fun _=>(Value.string (strOf y.wf y.wn))) (fun _=>[])),(.as (Value.bool (strE (strOf x.wf x.wn) (strOf y.wf y.wn)))),.g]) .done)) [] [] rfl
    (Eq.mp (by kernel_rfl) (aI kV1 (aI (sk (aI (aT (SRunsF.mono (fun z hz=>(Or.inl hz:famBB x y z)) (srunF_toStr (P:=Tryd.prog) (src:=24) (dst:=9) (e:=5) (by kernel_rfl) (by kernel_rfl) (by kernel_rfl) x hx))) (sk (aI (aT (SRunsF.mono (fun z hz=>(Or.inr hz:famBB x y z)) (srunF_toStr (P:=Tryd.prog) (src:=24) (dst:=9) (e:=5) (by kernel_rfl) (by kernel_rfl) (by kernel_rfl) y hy))) (aI (aT (@is_eqlStr Tryd.prog 9 9 (.tmp 6) (.tmp 8) (strOf x.wf x.wn) (strOf y.wf y.wn))) kV1))))) (aT (eX (fun(ns:List Nat)=>ns.length=0∧((Value.bool (strE (strOf x.wf x.wn) (strOf y.wf y.wn))):Value)=(fun _=>Value.bool (sameS x.wf x.wn y.wf y.wn)) ns∧([]:List (Option Blk))=(fun _=>[]) ns) [] (aI (@rfl Nat 0) (aI ((show(Value.bool (strE (strOf x.wf x.wn) (strOf y.wf y.wn)))=Value.bool (sameS x.wf x.wn y.wf y.wn) from congrArg Value.bool (strE_of _ _ _ _))) (@rfl (List (Option Blk)) []))))))))
def lists_fam_S1 (x:BytS) (y:BytS) (x1:Nat):St:=⟨[(0,.v (Value.slice x.wa x.wn x.wc)),(1,.v (Value.slice y.wa y.wn y.wc)),(5,.v (nat x1))],[],0⟩
def lists_fam_R1 (x:BytS) (y:BytS) (x1:Nat):Prop:=(x1≤x.wn)∧(∀ k,k < x1→elS x y k=true)
def lists_fam_mu1 (x:BytS) (y:BytS) (x1:Nat):Nat:=x.wn - x1
theorem lists_fam (x y:BytS) (hx:OkS x) (hy:OkS y):RunsF (famSS x y) Tryd.prog 12 [(Value.slice x.wa x.wn x.wc),(Value.slice y.wa y.wn y.wc)] [] 0 (fun _=>Value.bool (listsB x y)) (fun _=>[]) :=
  runsF_of_ev (F:=(famSS x y)) mix Tryd.func12 rfl rfl 400 (.reg (rg [.g]) (.reg (rg [.g,(.as (nat x.wn)),.g,(.as (nat y.wn)),(.as (Value.bool (!(decide (x.wn=y.wn)))))]) (.br (.reg (rg [.g]) .done) (.reg (rg [.g]) (.inv [0,1,5] [] 0 (lists_fam_R1 x y) (lists_fam_S1 x y) (lists_fam_mu1 x y) (0:Nat) (fun(x1:Nat)=>(.reg (rg [.g,.g,(.as (nat x.wn)),(.as (Value.bool (decide (x1 < x.wn))))]) (.br (.openr (bysB x) (.openr (bysB y) (.reg (rg [.g,.g,(.as (ptr x.wb (x.wo+x1*1))),(.ld 0 (.tab x1 0)),.g,.g,(.as (ptr y.wb (y.wo+x1*1))),(.ld 1 (.tab x1 0)),(.callF [] 0 0 (fun _=>(Value.bool (elS x y x1))) (fun _=>[])),.g]) (.br (.reg (rg [.g]) .done) (.reg (rg [.g,(.as (nat (x1+1))),.g]) .done))))) (.reg (rg [.g]) .done))))))))) [] [] rfl
    (have f0:=hx.len; have f1:=hy.len; Eq.mp (by kernel_rfl) (aI kV1 (aI (sk (aI (aT (@is_len Tryd.prog 23 24 (.tmp 6) (by kernel_rfl) x.wa x.wn x.wc)) (sk (aI (aT (@is_len Tryd.prog 23 24 (.tmp 8) (by kernel_rfl) y.wa y.wn y.wc)) (aI (aT (@is_neqn Tryd.prog 3 3 (.tmp 7) (.tmp 9)  x.wn y.wn)) tV))))) (aT (aI (fun(h1:(!(decide (x.wn=y.wn)))=true)=>have f2:¬ (x.wn=y.wn):=(oF (bnot_t h1)); aI kV1 (aT (eX (fun(ns:List Nat)=>ns.length=0∧((Value.bool false):Value)=(fun _=>Value.bool (listsB x y)) ns∧([]:List (Option Blk))=(fun _=>[]) ns) [] (aI (@rfl Nat 0) (aI ((show(Value.bool false)=Value.bool (listsB x y) from congrArg Value.bool (by first | exact lists_len (by omega) | exact lists_not (by omega) (by assumption)))) (@rfl (List (Option Blk)) [])))))) (fun(h1:(!(decide (x.wn=y.wn)))=false)=>have f2:(x.wn=y.wn):=(oT (bnot_f h1)); aI kV1 (aI (show(lists_fam_R1 x y) (0:Nat) from(show(0≤x.wn)∧(∀ k,k < 0→elS x y k=true) from by exact⟨by omega,fun k hk=>absurd hk (by omega)⟩)) (aI (@rfl St ((lists_fam_S1 x y) (0:Nat))) (fun(x1:Nat) (hx1:(lists_fam_R1 x y) x1)=>have B0:x1≤x.wn:=hx1.1; have B1:∀ k,k < x1→elS x y k=true:=hx1.2; aI (sK2 (aI (aT (@is_len Tryd.prog 23 24 (.tmp 12) (by kernel_rfl) x.wa x.wn x.wc)) (aI (aT (@is_lssn Tryd.prog 3 3 (.tmp 11) (.tmp 13)  x1 x.wn)) tV))) (aT (aI (fun(h2:(decide (x1 < x.wn))=true)=>have f5:=(oT h2); aI (Or.inl (Or.inl ⟨(show 0 < x.wn from by omega),rfl⟩):famSS x y (bysB x)) (aI (Or.inr (Or.inl ⟨(show 0 < y.wn from by omega),rfl⟩):famSS x y (bysB y)) (aI (sK2 (aI (aT (@is_ixSq Tryd.prog 23 24 (.tmp 17) (.tmp 18) 1 (by kernel_rfl) (by kernel_rfl) x.wb x.wo x.wn x.wc x1 x.wa (hx.ad (show 0 < x.wn from by omega)) (show x1 < x.wn from by omega))) (aI (aT (aI (show x1 < x.wn from by omega) (@rfl Value (ptr x.wb (x.wo+x1*1))))) (sK2 (aI (aT (@is_ixSq Tryd.prog 23 24 (.tmp 21) (.tmp 22) 1 (by kernel_rfl) (by kernel_rfl) y.wb y.wo y.wn y.wc x1 y.wa (hy.ad (show 0 < y.wn from by omega)) (show x1 < y.wn from by omega))) (aI (aT (aI (show x1 < y.wn from by omega) (@rfl Value (ptr y.wb (y.wo+x1*1))))) (aI (aT (RunsF.mono (ss_el (show x1 < x.wn from by omega) (show x1 < y.wn from by omega)) (same_fam (x.wf x1) (y.wf x1) (hx.el _ (show x1 < x.wn from by omega)) (hy.el _ (show x1 < y.wn from by omega))))) kV1))))))) (aT (aI (fun(h3:(!(elS x y x1))=true)=>have f6:(elS x y x1)=false:=(bnot_t h3); aI kV1 (aT (eX (fun(ns:List Nat)=>ns.length=0∧((Value.bool false):Value)=(fun _=>Value.bool (listsB x y)) ns∧([]:List (Option Blk))=(fun _=>[]) ns) [] (aI (@rfl Nat 0) (aI ((show(Value.bool false)=Value.bool (listsB x y) from congrArg Value.bool (by first | exact lists_len (by omega) | exact lists_not (by omega) (by assumption)))) (@rfl (List (Option Blk)) [])))))) (fun(h3:(!(elS x y x1))=false)=>have f6:(elS x y x1)=true:=(bnot_f h3); aI (sk (aI (aT (@is_addn Tryd.prog 3 3 (.tmp 15) (.const (.int .i64 1))  x1 1 (show x1+1≤9223372036854775807 from by omega))) kV1)) ((rnd (lists_fam_R1 x y) (lists_fam_S1 x y) (lists_fam_mu1 x y) x1 (x1+1:Nat) (show(lists_fam_R1 x y) (x1+1:Nat)∧(lists_fam_mu1 x y) (x1+1:Nat) < (lists_fam_mu1 x y) x1 from(show(((x1+1)≤x.wn)∧(∀ k,k < (x1+1)→elS x y k=true))∧(x.wn - (x1+1)) < (x.wn - x1) from by exact⟨⟨by omega,lists_next B1 (by assumption)⟩,by omega⟩)))))))))) (fun(h2:(decide (x1 < x.wn))=false)=>have f5:=(oF h2); aI kV1 (aT (eX (fun(ns:List Nat)=>ns.length=0∧((Value.bool true):Value)=(fun _=>Value.bool (listsB x y)) ns∧([]:List (Option Blk))=(fun _=>[]) ns) [] (aI (@rfl Nat 0) (aI ((show(Value.bool true)=Value.bool (listsB x y) from congrArg Value.bool (by exact lists_yes (by omega) (by omega) B1))) (@rfl (List (Option Blk)) [])))))))))))))))))
theorem has1_fam (b:Nat) (x y:BytL) (hx:OkB x) (hy:OkB y):RunsF (famBB x y) Tryd.prog 50 [(Value.slice x.wa x.wn x.wc),(ptr b 0)] [⟨b,false,0,(.lit [(Value.slice y.wa y.wn y.wc)])⟩] 0 (fun _=>Value.bool (sameS x.wf x.wn y.wf y.wn)) (fun _=>[some ⟨b,false,0,(.lit [(Value.slice y.wa y.wn y.wc)])⟩]) :=
  runsF_of_ev (F:=(famBB x y)) mix Tryd.func50 rfl rfl 400 (.reg (rg [.g]) (.reg (rg [.g,(.ld 0 (.lit 0)),(.callF [] 0 0 (fun _=>(Value.bool (sameS x.wf x.wn y.wf y.wn))) (fun _=>[])),.g]) .done)) [] [] rfl
    (have f0:=hx.len; have f1:=hy.len; Eq.mp (by kernel_rfl) (aI kV1 (aI (sk (aI (aT (ad b 0)) (aI (aT (RunsF.lendP (F':=(famBB x y)) (sh_or (sh_sub (fun z hz=>(Or.inl hz:famBB x y z))) (sh_sub (fun z hz=>(Or.inr hz:famBB x y z)))) (nm_or (nm_sub (fun z hz=>(Or.inl hz:famBB x y z))) (nm_sub (fun z hz=>(Or.inr hz:famBB x y z)))) (equal_fam x y hx hy))) kV1))) (aT (eX (fun(ns:List Nat)=>ns.length=0∧((Value.bool (sameS x.wf x.wn y.wf y.wn)):Value)=(fun _=>Value.bool (sameS x.wf x.wn y.wf y.wn)) ns∧([some ⟨b,false,0,(.lit [(Value.slice y.wa y.wn y.wc)])⟩]:List (Option Blk))=(fun _=>[some ⟨b,false,0,(.lit [(Value.slice y.wa y.wn y.wc)])⟩]) ns) [] (aI (@rfl Nat 0) (aI (@rfl Value (Value.bool (sameS x.wf x.wn y.wf y.wn))) (@rfl (List (Option Blk)) [some ⟨b,false,0,(.lit [(Value.slice y.wa y.wn y.wc)])⟩]))))))))
def rin_fam_S1 (l:BytS) (y:BytL) (x1:Nat):St:=⟨[(0,.v (Value.slice l.wa l.wn l.wc)),(1,.v (Value.slice y.wa y.wn y.wc)),(5,.v (nat x1))],[],0⟩
def rin_fam_R1 (l:BytS) (y:BytL) (x1:Nat):Prop:=(x1≤l.wn)∧(∀ k,k < x1→elE l.wf y k=false)
def rin_fam_mu1 (l:BytS) (y:BytL) (x1:Nat):Nat:=l.wn - x1
theorem rin_fam (l:BytS) (y:BytL) (hl:OkS l) (hy:OkB y):RunsF (famSB l y) Tryd.prog 44 [(Value.slice l.wa l.wn l.wc),(Value.slice y.wa y.wn y.wc)] [] 0 (fun _=>Value.bool (inB l.wf l.wn y)) (fun _=>[]) :=
  runsF_of_ev (F:=(famSB l y)) mix Tryd.func44 rfl rfl 400 (.reg (rg [.g]) (.reg (rg [.g]) (.inv [0,1,5] [] 0 (rin_fam_R1 l y) (rin_fam_S1 l y) (rin_fam_mu1 l y) (0:Nat) (fun(x1:Nat)=>(.reg (rg [.g,.g,(.as (nat l.wn)),(.as (Value.bool (decide (x1 < l.wn))))]) (.br (.openr (bysB l) (.reg (rg [.g,.g,(.as (ptr l.wb (l.wo+x1*1))),(.ld 0 (.tab x1 0)),.g,(.callF [] 0 0 (fun _=>(Value.bool (elE l.wf y x1))) (fun _=>[]))]) (.br (.reg (rg [.g]) .done) (.reg (rg [.g,(.as (nat (x1+1))),.g]) .done)))) (.reg (rg [.g]) .done))))))) [] [] rfl
    (have f0:=hl.len; have f1:=hy.len; Eq.mp (by kernel_rfl) (aI kV1 (aI kV1 (aI (show(rin_fam_R1 l y) (0:Nat) from(show(0≤l.wn)∧(∀ k,k < 0→elE l.wf y k=false) from by exact⟨by omega,fun k hk=>absurd hk (by omega)⟩)) (aI (@rfl St ((rin_fam_S1 l y) (0:Nat))) (fun(x1:Nat) (hx1:(rin_fam_R1 l y) x1)=>have B0:x1≤l.wn:=hx1.1; have B1:∀ k,k < x1→elE l.wf y k=false:=hx1.2; aI (sK2 (aI (aT (@is_len Tryd.prog 23 24 (.tmp 7) (by kernel_rfl) l.wa l.wn l.wc)) (aI (aT (@is_lssn Tryd.prog 3 3 (.tmp 6) (.tmp 8)  x1 l.wn)) tV))) (aT (aI (fun(h1:(decide (x1 < l.wn))=true)=>have f4:=(oT h1); aI (Or.inl (Or.inl ⟨(show 0 < l.wn from by omega),rfl⟩):famSB l y (bysB l)) (aI (sK2 (aI (aT (@is_ixSq Tryd.prog 23 24 (.tmp 12) (.tmp 13) 1 (by kernel_rfl) (by kernel_rfl) l.wb l.wo l.wn l.wc x1 l.wa (hl.ad (show 0 < l.wn from by omega)) (show x1 < l.wn from by omega))) (aI (aT (aI (show x1 < l.wn from by omega) (@rfl Value (ptr l.wb (l.wo+x1*1))))) (sk (aI (aT (RunsF.mono (sb_el (show x1 < l.wn from by omega)) (same_fam (l.wf x1) y (hl.el _ (show x1 < l.wn from by omega)) hy))) tV))))) (aT (aI (fun(h2:(elE l.wf y x1)=true)=>aI kV1 (aT (eX (fun(ns:List Nat)=>ns.length=0∧((Value.bool true):Value)=(fun _=>Value.bool (inB l.wf l.wn y)) ns∧([]:List (Option Blk))=(fun _=>[]) ns) [] (aI (@rfl Nat 0) (aI ((show(Value.bool true)=Value.bool (inB l.wf l.wn y) from congrArg Value.bool (by first | exact any_yes (by omega) (by assumption) | exact any_no (by omega) B1))) (@rfl (List (Option Blk)) [])))))) (fun(h2:(elE l.wf y x1)=false)=>aI (sk (aI (aT (@is_addn Tryd.prog 3 3 (.tmp 10) (.const (.int .i64 1))  x1 1 (show x1+1≤9223372036854775807 from by omega))) kV1)) ((rnd (rin_fam_R1 l y) (rin_fam_S1 l y) (rin_fam_mu1 l y) x1 (x1+1:Nat) (show(rin_fam_R1 l y) (x1+1:Nat)∧(rin_fam_mu1 l y) (x1+1:Nat) < (rin_fam_mu1 l y) x1 from(show(((x1+1)≤l.wn)∧(∀ k,k < (x1+1)→elE l.wf y k=false))∧(l.wn - (x1+1)) < (l.wn - x1) from by exact⟨⟨by omega,any_next B1 (by assumption)⟩,by omega⟩))))))))) (fun(h1:(decide (x1 < l.wn))=false)=>have f4:=(oF h1); aI kV1 (aT (eX (fun(ns:List Nat)=>ns.length=0∧((Value.bool false):Value)=(fun _=>Value.bool (inB l.wf l.wn y)) ns∧([]:List (Option Blk))=(fun _=>[]) ns) [] (aI (@rfl Nat 0) (aI ((show(Value.bool false)=Value.bool (inB l.wf l.wn y) from congrArg Value.bool (by first | exact any_yes (by omega) (by assumption) | exact any_no (by omega) B1))) (@rfl (List (Option Blk)) []))))))))))))))
def ixh_fam_S1 (b:Nat) (l:BytS) (y:BytL) (x1:Nat):St:=⟨[(0,.v (Value.slice l.wa l.wn l.wc)),(1,.v (Value.func (.func 50) #[] #[(ptr b 0)])),(7,.v (nat l.wn)),(8,.v (nat x1))],[(0,some ⟨b,false,0,(.lit [(Value.slice y.wa y.wn y.wc)])⟩)],1⟩
def ixh_fam_R1 (b:Nat) (l:BytS) (y:BytL) (x1:Nat):Prop:=(x1≤l.wn)∧(∀ k,k < x1→elE l.wf y k=false)
def ixh_fam_mu1 (b:Nat) (l:BytS) (y:BytL) (x1:Nat):Nat:=l.wn - x1
theorem ixh_fam (b:Nat) (l:BytS) (y:BytL) (hl:OkS l) (hy:OkB y):RunsF (famSB l y) Tryd.prog 40 [(Value.slice l.wa l.wn l.wc),(Value.func (.func 50) #[] #[(ptr b 0)])] [⟨b,false,0,(.lit [(Value.slice y.wa y.wn y.wc)])⟩] 0 (fun _=>int (idxF (elE l.wf y) l.wn)) (fun _=>[some ⟨b,false,0,(.lit [(Value.slice y.wa y.wn y.wc)])⟩]) :=
  runsF_of_ev (F:=(famSB l y)) mix Tryd.func40 rfl rfl 400 (.reg (rg [.g]) (.reg (rg [.g,(.as (nat l.wn)),.g]) (.inv [0,1,7,8] [0] 1 (ixh_fam_R1 b l y) (ixh_fam_S1 b l y) (ixh_fam_mu1 b l y) (0:Nat) (fun(x1:Nat)=>(.reg (rg [(.as (Value.bool (decide (x1 < l.wn))))]) (.br (.reg (rg [.g,.g]) (.openr (bysB l) (.reg (rg [.g,.g,.g,(.as (ptr l.wb (l.wo+x1*1))),(.ld 1 (.tab x1 0)),(.callF [(0,true)] 0 0 (fun _=>(Value.bool (elE l.wf y x1))) (fun _=>[none]))]) (.br (.reg (rg [.g,.g]) .done) (.reg (rg [(.as (nat (x1+1))),.g]) .done))))) (.reg (rg [.g]) .done))))))) [] [] rfl
    (have f0:=hl.len; have f1:=hy.len; Eq.mp (by kernel_rfl) (aI kV1 (aI (sk (aI (aT (@is_len Tryd.prog 23 24 (.tmp 6) (by kernel_rfl) l.wa l.wn l.wc)) kV1)) (aI (show(ixh_fam_R1 b l y) (0:Nat) from(show(0≤l.wn)∧(∀ k,k < 0→elE l.wf y k=false) from by exact⟨by omega,fun k hk=>absurd hk (by omega)⟩)) (aI (@rfl St ((ixh_fam_S1 b l y) (0:Nat))) (fun(x1:Nat) (hx1:(ixh_fam_R1 b l y) x1)=>have B0:x1≤l.wn:=hx1.1; have B1:∀ k,k < x1→elE l.wf y k=false:=hx1.2; aI (aI (aT (@is_lssn Tryd.prog 3 3 (.tmp 8) (.tmp 7)  x1 l.wn)) tV) (aT (aI (fun(h1:(decide (x1 < l.wn))=true)=>have f4:=(oT h1); aI kV2 (aI (Or.inl (Or.inl ⟨(show 0 < l.wn from by omega),rfl⟩):famSB l y (bysB l)) (aI (sK3 (aI (aT (@is_ixSq Tryd.prog 23 24 (.tmp 12) (.tmp 13) 1 (by kernel_rfl) (by kernel_rfl) l.wb l.wo l.wn l.wc x1 l.wa (hl.ad (show 0 < l.wn from by omega)) (show x1 < l.wn from by omega))) (aI (aT (aI (show x1 < l.wn from by omega) (@rfl Value (ptr l.wb (l.wo+x1*1))))) (aI (aT (RunsF.mono (sb_el (show x1 < l.wn from by omega)) (RunsF.darkF [true] (has1_fam b (l.wf x1) y (hl.el _ (show x1 < l.wn from by omega)) hy)))) tV)))) (aT (aI (fun(h2:(elE l.wf y x1)=true)=>aI kV2 (aT (eX (fun(ns:List Nat)=>ns.length=0∧((nat x1):Value)=(fun _=>int (idxF (elE l.wf y) l.wn)) ns∧([some ⟨b,false,0,(.lit [(Value.slice y.wa y.wn y.wc)])⟩]:List (Option Blk))=(fun _=>[some ⟨b,false,0,(.lit [(Value.slice y.wa y.wn y.wc)])⟩]) ns) [] (aI (@rfl Nat 0) (aI ((show(nat x1)=int (idxF (elE l.wf y) l.wn) from by first | exact idx_ret (by omega) (by assumption) B1 | exact idx_end (by omega) B1)) (@rfl (List (Option Blk)) [some ⟨b,false,0,(.lit [(Value.slice y.wa y.wn y.wc)])⟩])))))) (fun(h2:(elE l.wf y x1)=false)=>aI (aI (aT (@is_addn Tryd.prog 3 3 (.tmp 8) (.const (.int .i64 1))  x1 1 (show x1+1≤9223372036854775807 from by omega))) kV1) ((rnd (ixh_fam_R1 b l y) (ixh_fam_S1 b l y) (ixh_fam_mu1 b l y) x1 (x1+1:Nat) (show(ixh_fam_R1 b l y) (x1+1:Nat)∧(ixh_fam_mu1 b l y) (x1+1:Nat) < (ixh_fam_mu1 b l y) x1 from(show(((x1+1)≤l.wn)∧(∀ k,k < (x1+1)→elE l.wf y k=false))∧(l.wn - (x1+1)) < (l.wn - x1) from by exact⟨⟨by omega,any_next B1 (by assumption)⟩,by omega⟩)))))))))) (fun(h1:(decide (x1 < l.wn))=false)=>have f4:=(oF h1); aI kV1 (aT (eX (fun(ns:List Nat)=>ns.length=0∧((int (-1)):Value)=(fun _=>int (idxF (elE l.wf y) l.wn)) ns∧([some ⟨b,false,0,(.lit [(Value.slice y.wa y.wn y.wc)])⟩]:List (Option Blk))=(fun _=>[some ⟨b,false,0,(.lit [(Value.slice y.wa y.wn y.wc)])⟩]) ns) [] (aI (@rfl Nat 0) (aI ((show(int (-1))=int (idxF (elE l.wf y) l.wn) from by first | exact idx_ret (by omega) (by assumption) B1 | exact idx_end (by omega) B1)) (@rfl (List (Option Blk)) [some ⟨b,false,0,(.lit [(Value.slice y.wa y.wn y.wc)])⟩]))))))))))))))
theorem cnh_fam (b:Nat) (l:BytS) (y:BytL) (hl:OkS l) (hy:OkB y):RunsF (famSB l y) Tryd.prog 17 [(Value.slice l.wa l.wn l.wc),(Value.func (.func 50) #[] #[(ptr b 0)])] [⟨b,false,0,(.lit [(Value.slice y.wa y.wn y.wc)])⟩] 0 (fun _=>Value.bool (inB l.wf l.wn y)) (fun _=>[some ⟨b,false,0,(.lit [(Value.slice y.wa y.wn y.wc)])⟩]) :=
  runsF_of_ev (F:=(famSB l y)) mix Tryd.func17 rfl rfl 400 (.reg (rg [.g]) (.reg (rg [.g,.g,(.callF [(0,true)] 0 0 (fun _=>(int (idxF (elE l.wf y) l.wn))) (fun _=>[none])),.g,.g]) .done)) [] [] rfl
    (have f0:=hl.len; have f1:=hy.len; Eq.mp (by kernel_rfl) (aI kV1 (aI (sK2 (aI (aT (RunsF.darkF [true] (ixh_fam b l y hl hy))) kV2)) (aT (eX (fun(ns:List Nat)=>ns.length=0∧((Value.bool (decide (((idxF (elE l.wf y) l.wn):Int) ≥ 0))):Value)=(fun _=>Value.bool (inB l.wf l.wn y)) ns∧([some ⟨b,false,0,(.lit [(Value.slice y.wa y.wn y.wc)])⟩]:List (Option Blk))=(fun _=>[some ⟨b,false,0,(.lit [(Value.slice y.wa y.wn y.wc)])⟩]) ns) [] (aI (@rfl Nat 0) (aI ((show(Value.bool (decide (((idxF (elE l.wf y) l.wn):Int) ≥ 0)))=Value.bool (inB l.wf l.wn y) from congrArg Value.bool (idxF_ge _ _))) (@rfl (List (Option Blk)) [some ⟨b,false,0,(.lit [(Value.slice y.wa y.wn y.wc)])⟩]))))))))
theorem has_fam (l:BytS) (y:BytL) (hl:OkS l) (hy:OkB y):RunsF (famSB l y) Tryd.prog 31 [(Value.slice l.wa l.wn l.wc),(Value.slice y.wa y.wn y.wc)] [] 0 (fun _=>Value.bool (inB l.wf l.wn y)) (fun _=>[]) :=
  runsF_of_ev (F:=(famSB l y)) mix Tryd.func31 rfl rfl 400 (.regn (rg [.new,.g]) (more (fun n1=>fun _=>(.reg (rg [.g,.g,(.callF [(0,true)] 0 0 (fun _=>(Value.bool (inB l.wf l.wn y))) (fun _=>[none])),.g]) .done)))) [] [] rfl
    (have f0:=hl.len; have f1:=hy.len; Eq.mp (by kernel_rfl) (fun(n1:Nat)=>aI kV2 (aI (sK2 (aI (aT (RunsF.darkF [true] (cnh_fam n1 l y hl hy))) kV1)) (aT (eX (fun(ns:List Nat)=>ns.length=0∧((Value.bool (inB l.wf l.wn y)):Value)=(fun _=>Value.bool (inB l.wf l.wn y)) ns∧([]:List (Option Blk))=(fun _=>[]) ns) [] (aI (@rfl Nat 0) (aI (@rfl Value (Value.bool (inB l.wf l.wn y))) (@rfl (List (Option Blk)) []))))))))
end Go.Proofs.YtnailbicmhkmbaaDoor
end
section
namespace Go.Proofs.YtnailbicmhkmbaaDoor
open Go Go.Eng
theorem mTP:MapT Tryd.prog 39 9 65 Value.string ev0 () strK:=str_keys (by kernel_rfl) (by kernel_rfl) fun w=>pureRun_run (show pureRun Tryd.prog (zeroValue 65)=some (ev0 ()) by kernel_rfl) w
theorem was_own (p:Nat) (V:Value) (m:Nat) (l:List (ByteArray × Unit)) (x:BytL) (hx:OkB x):RunsF (famB x) Tryd.prog 37 [(ptr p 0),(Value.slice x.wa x.wn x.wc)] [⟨p,false,0,(.lit [V,(Value.map (some m))])⟩,⟨m,false,0,(stC l)⟩] 0 (fun _=>Value.bool (hasP l (strOf x.wf x.wn))) (fun _=>[some ⟨p,false,0,(.lit [V,(Value.map (some m))])⟩,some ⟨m,false,0,(stC l)⟩]) :=
  runsF_of_ev (F:=(famB x)) mix Tryd.func37 rfl rfl 400 (.reg (rg [.g]) (.regn (rg [.g,.g,.g,(.ld 0 (.lit 1)),.g,(.othF [] 0 0 (fun _=>(Value.string (strOf x.wf x.wn))) (fun _=>[])),(.oth [(1,true)] 0 0 (fun _=>(Value.tuple #[(Value.agg #[]),(Value.bool ((findE strK (strOf x.wf x.wn) l).isSome))])) (fun _=>[none])),.g,.g,.g,.new,(.st 2 (.lit 0)),.g]) (more (fun n1=>fun _=>(.reg (rg [.g,.g]) .done))))) [] [] rfl
    (have f0:=hx.len; Eq.mp (by kernel_rfl) (aI kV1 (fun(n1:Nat)=>aI (sK3 (aI (aT (ad p 1)) (sk (aI (aT (SRunsF.mono (fun z hz=>hz) (srunF_toStr (P:=Tryd.prog) (src:=24) (dst:=9) (e:=5) (by kernel_rfl) (by kernel_rfl) (by kernel_rfl) x hx))) (aI (aT (srun_look (P:=Tryd.prog) mTP m false l (strOf x.wf x.wn))) (sK4 (aI (aT (ad n1 0)) kV1))))))) (aI kV2 (aT (eX (fun(ns:List Nat)=>ns.length=0∧((Value.bool ((findE strK (strOf x.wf x.wn) l).isSome)):Value)=(fun _=>Value.bool (hasP l (strOf x.wf x.wn))) ns∧([some ⟨p,false,0,(.lit [V,(Value.map (some m))])⟩,some ⟨m,false,0,(stC l)⟩]:List (Option Blk))=(fun _=>[some ⟨p,false,0,(.lit [V,(Value.map (some m))])⟩,some ⟨m,false,0,(stC l)⟩]) ns) [] (aI (@rfl Nat 0) (aI (@rfl Value (Value.bool (hasP l (strOf x.wf x.wn)))) (@rfl (List (Option Blk)) [some ⟨p,false,0,(.lit [V,(Value.map (some m))])⟩,some ⟨m,false,0,(stC l)⟩])))))))))
theorem was_nil (p:Nat) (V:Value) (x:BytL) (hx:OkB x):RunsF (famB x) Tryd.prog 37 [(ptr p 0),(Value.slice x.wa x.wn x.wc)] [⟨p,false,0,(.lit [V,(Value.map none)])⟩] 0 (fun _=>Value.bool false) (fun _=>[some ⟨p,false,0,(.lit [V,(Value.map none)])⟩]) :=
  runsF_of_ev (F:=(famB x)) mix Tryd.func37 rfl rfl 400 (.reg (rg [.g]) (.regn (rg [.g,.g,.g,(.ld 0 (.lit 1)),.g,(.othF [] 0 0 (fun _=>(Value.string (strOf x.wf x.wn))) (fun _=>[])),(.oth [] 0 0 (fun _=>(Value.tuple #[(Value.agg #[]),(Value.bool false)])) (fun _=>[])),.g,.g,.g,.new,(.st 1 (.lit 0)),.g]) (more (fun n1=>fun _=>(.reg (rg [.g,.g]) .done))))) [] [] rfl
    (have f0:=hx.len; Eq.mp (by kernel_rfl) (aI kV1 (fun(n1:Nat)=>aI (sK3 (aI (aT (ad p 1)) (sk (aI (aT (SRunsF.mono (fun z hz=>hz) (srunF_toStr (P:=Tryd.prog) (src:=24) (dst:=9) (e:=5) (by kernel_rfl) (by kernel_rfl) (by kernel_rfl) x hx))) (aI (aT (srun_lookN (P:=Tryd.prog) mTP (strOf x.wf x.wn))) (sK4 (aI (aT (ad n1 0)) kV1))))))) (aI kV2 (aT (eX (fun(ns:List Nat)=>ns.length=0∧((Value.bool false):Value)=(fun _=>Value.bool false) ns∧([some ⟨p,false,0,(.lit [V,(Value.map none)])⟩]:List (Option Blk))=(fun _=>[some ⟨p,false,0,(.lit [V,(Value.map none)])⟩]) ns) [] (aI (@rfl Nat 0) (aI (@rfl Value (Value.bool false)) (@rfl (List (Option Blk)) [some ⟨p,false,0,(.lit [V,(Value.map none)])⟩])))))))))
theorem clone_gen (q:BytL) (hq:OkB q) (hl:q.wn≤140737488355328):RunsO (famB q) Tryd.prog 38 [slqV q] [] 2 (fun ns=>gsV (clG q (ns.getD 0 0) (ns.getD 1 0))) (fun ns=>[grO u8 (u8 0) (clG q (ns.getD 0 0) (ns.getD 1 0))]):=by
  rcases Nat.eq_zero_or_pos q.wn with h0 | h0
  · cases ha:q.wa with
    | none =>
      have e:slqV q = .slice none 0 q.wc:=by unfold slqV; rw [ha,h0]
      rw [e]
      refine(clone_nilc q.wc).toF.toO.pad0 [0,0] rfl ?_ ?_
      · show gsV (clG q 0 0)=_
        unfold clG; rw [ha,h0] <;> rfl
      · intro p b hb
        rw [show grO u8 (u8 0) (clG q _ _)=none from by unfold clG; rw [ha] <;> rfl] at hb
        rcases p with _ | p <;> simp [lM] at hb
    | some A =>
      have e:slqV q = .slice (some A) 0 q.wc:=by unfold slqV; rw [ha,h0]
      rw [e]
      refine(clone_zero A q.wc).toF.toO.pad1 (fun a=>?_) (fun a=>?_)
      · show gsV (clG q a 0)=_
        unfold clG; rw [ha,h0] <;> rfl
      · show [grO u8 (u8 0) (clG q a 0)]=_
        unfold clG; rw [ha,h0]
        show [some (⟨a,true,0,spr (0+0) 0 (fun k=>u8 (q.wf k)) (u8 0)⟩:Blk)]=[some ⟨a,true,0,spr (0+0) 0 (fun k=>u8 ((fun _=>0) k)) (u8 0)⟩]
        rw [spr_as (fun k hk=>absurd hk (by omega))]
  · have ha:=hq.ad h0
    have e:slqV q = .slice (some ⟨q.wb,q.wo,none⟩) q.wn q.wc:=by unfold slqV; rw [ha]
    have h:=clone_runs0 q.wb q.wo q.wn q.wc q.wf h0 hl
    simp only [Nat.zero_add,catU_zero] at h
    rw [e]
    have h2:=(h.famN (F:=famB q) ⟨h0,rfl⟩).toO
    have e2:∀ a r,clG q a r=⟨false,a,q.wn,r,q.wf⟩:=fun a r=>by unfold clG; rw [ha] <;> rfl
    simp only [e2]
    exact h2
theorem clone_nn (q:BytL) (hq:OkB q) (ha:q.wa.isNone=false) (hl:q.wn≤140737488355328):RunsF (famB q) Tryd.prog 38 [slqV q] [] 2 (fun ns=>.slice (some ⟨ns.getD 0 0,0,none⟩) q.wn (q.wn+ns.getD 1 0)) (fun ns=>[some ⟨ns.getD 0 0,true,0,spr (q.wn+ns.getD 1 0) q.wn (fun k=>u8 (q.wf k)) (u8 0)⟩]):=by
  have h:=(clone_gen q hq hl).toF (bs:=[])
  have e2:∀ a r,clG q a r=⟨false,a,q.wn,r,q.wf⟩:=fun a r=>by unfold clG; rw [ha] <;> rfl
  simp only [e2] at h
  exact h
end Go.Proofs.YtnailbicmhkmbaaDoor
end
section
namespace Go.Eng
open Go.RowKit Go.WideShapes Go.ChangeShapes Go.ChangeAt Go.Deep
theorem listMem_nones {bs l:List (Option Blk)} {p:Nat} {b:Blk} (h:lM (bs.map (fun _=>(none:Option Blk)) ++ l) p=some b):∃ p',p=bs.length+p'∧lM l p'=some b:=by
  rcases listMem_app h with ⟨h1,h2⟩ | ⟨h1,h2⟩
  · exfalso
    unfold lM at h2
    rw [List.getElem?_map] at h2
    cases h3:bs[p]? <;> rw [h3] at h2 <;> cases h2
  · rw [List.length_map] at h1 h2
    exact⟨p - bs.length,by omega,h2⟩
theorem RunsO.lendL {F G : Blk → Prop} {P : Program} {f : FuncId} {args : List Value} {bs : List (Option Blk)} {k : Nat} {v : List Nat → Value} {out : List Nat → List (Option Blk)} (h : RunsO G P f args [] k v out)
    (hG:∀ w:World,FamH F w→(∀ p b,lM bs p=some b→Holds b w)→FamH G w):RunsO F P f args bs k v (fun ns=>bs.map (fun _=>none) ++ out ns):=by
  intro w hm ha hF
  have hno:∀ k,¬ Owns (lM ([]:List (Option Blk))) k:=fun k ⟨p,b,h1,_⟩=>by simp [lM] at h1
  have hw:=hG w (fun b hb=>⟨(hF b hb).1,(hF b hb).2.1⟩) hm
  refine Calls.mono (h w (fun p b hb=>by simp [lM] at hb) (fun p q b c _ hb=>by simp [lM] at hb) fun b hb=>⟨(hw b hb).1,(hw b hb).2,fun k _=>hno k⟩) ?_
  rintro e w' ⟨ns,hns,he,hp⟩
  refine⟨ns,hns,he,⟨fun p b hpb=>?_,fun p q b c hpq hpb hqc ho=>?_,⟨hp.adv.os,hp.adv.output,hp.adv.tape,hp.adv.size,fun k hk _=>hp.adv.heap k hk (hno k),fun k ⟨p,b,h1,h2,h3⟩=>?_,fun p b hpb ho=>?_⟩⟩⟩
  · obtain⟨p',_,h2⟩:=listMem_nones hpb
    exact hp.holds p' b h2
  · obtain⟨p',h1,h2⟩:=listMem_nones hpb
    obtain⟨q',h3,h4⟩:=listMem_nones hqc
    exact hp.apart p' q' b c (by omega) h2 h4 ho
  · obtain⟨p',_,h4⟩:=listMem_nones h1
    rcases hp.adv.names k ⟨p',b,h4,h2,h3⟩ with h5 | h5
    · exact absurd h5 (hno k)
    · exact .inr h5
  · obtain⟨p',_,h4⟩:=listMem_nones hpb
    have:=hp.adv.ro p' b h4 ho
    simp [lM] at this
section
variable {D:Grw UInt8}
def recD (D:Grw UInt8):BytL:=⟨gsA D,D.n,gsC D,D.nm,0,D.f⟩
theorem recD_ok (h:D.ok) (hl:D.n≤9223372036854775807):OkB (recD D):=⟨gs_le h,fun h0=>gsA_own (h.pos h0),hl⟩
theorem recD_fam (h:D.ok) {F:Blk→Prop} {w:World} (hb:∀ b,roO (gsE u8C [u8 0] 1 D)=some b→Holds b w):FamH (famB (recD D)) w:=fun b hb'=>by
  obtain⟨h0,rfl⟩:=hb'
  have hz:=h.pos h0
  have h1:=hb ⟨D.nm,false,0,spr (D.n+D.r) D.n (fun k=>u8 (D.f k)) (u8 0)⟩ (by rw [gsE_u8,grO_own hz]; rfl)
  exact⟨holds_sprB h1,rfl⟩
end
theorem is_max0 {P:Program} {x y:Operand} {ts:Array TypeId} (a:Int):IsOp P (.call { callee:=.builtin .max,args:=#[x,y],argTypes:=ts }) [int a,int 0] (nat a.toNat):=by
  intro ρ o ho hv
  rw [ho] at hv
  have hv':ρ x=int a∧ρ y=int 0:=by simpa [Op.operands,Call.operands] using hv
  unfold execOp
  rw [ho]
  show pureRun P ((Builtin.max_ ts o.type (#[x,y].map ρ)) >>= fun v=>(pure (Next.value v):Sem Next))=_
  have e1:(#[x,y].map ρ:Array Value) = #[int a,int 0]:=by simp [hv'.1,hv'.2]
  have e2:pureRun P (Builtin.max_ ts o.type #[int a,int 0])=some (nat a.toNat):=by
    show some (Value.int .i64 (if (a < (0:Int)) then (0:Int) else a))=_
    unfold nat
    congr 2
    split <;> omega
  rw [e1,pureRun_bind',e2]
  rfl
end Go.Eng
end
section
namespace Go.Eng
open Go.RowKit Go.WideShapes Go.ChangeShapes Go.ChangeAt Go.Deep
def FrAt (f:Nat→UInt8) (e:Nat) (x:BytL):Prop:=∀ i,i < 8+x.wn→f (e+i)=frF x.wn x.wf i
section
variable {f:Nat→UInt8} {e n:Nat} {x:BytL}
end
def eE (xs:Nat→BytL):Nat→Nat
  | 0=>0
  | k+1=>eE xs k+(8+(xs k).wn)
theorem eE_mono {xs:Nat→BytL} {i k:Nat} (h:i≤k):eE xs i≤eE xs k:=by
  induction k with
  | zero => have : i = 0 := by omega
            subst this; exact Nat.le_refl _
  | succ k ih =>
    by_cases h2:i≤k
    · have:=ih h2; show eE xs i≤eE xs k+(8+(xs k).wn); omega
    · have:i=k+1:=by omega
      subst this; exact Nat.le_refl _
structure FrAll (f:Nat→UInt8) (xs:Nat→BytL) (K:Nat):Prop where
  at_:∀ k,k < K→FrAt f (eE xs k) (xs k)
  le:∀ k,k < K→(xs k).wn≤4000
section
variable {f:Nat→UInt8} {xs:Nat→BytL} {K n:Nat}
theorem FrAll.push (h:FrAll f xs K) {g:Nat→UInt8} (hx:(xs K).wn≤4000) (hg:g=catU f (eE xs K) (frF (xs K).wn (xs K).wf)):FrAll g xs (K+1):=by
  subst hg
  refine⟨fun k hk i hi=>?_,fun k hk=>?_⟩
  · by_cases hkK:k < K
    · have:=eE_mono (xs:=xs) (show k+1≤K by omega)
      have e:eE xs (k+1)=eE xs k+(8+(xs k).wn):=rfl
      unfold catU
      rw [if_pos (by omega)]
      exact h.at_ k hkK i hi
    · have:k=K:=by omega
      subst this
      unfold catU
      rw [if_neg (by omega),show eE xs k+i - eE xs k=i by omega]
  · by_cases hkK:k < K
    · exact h.le k hkK
    · have:k=K:=by omega
      subst this; exact hx
theorem FrAll.congr {g:Nat→UInt8} (h:FrAll f xs K) (hg:∀ i,i < eE xs K→g i=f i):FrAll g xs K :=
  ⟨fun k hk i hi=>by
    have:=eE_mono (xs:=xs) (show k+1≤K by omega)
    have e:eE xs (k+1)=eE xs k+(8+(xs k).wn):=rfl
    rw [hg _ (by omega)]; exact h.at_ k hk i hi,h.le⟩
end
end Go.Eng
end
section
namespace Go.Eng
open Go.RowKit Go.WideShapes Go.ChangeShapes Go.ChangeAt Go.Deep
def recS (A:Grw BytL):BytS:=⟨gsA A,A.n,gsC A,A.nm,0,A.f⟩
theorem recS_ok {A:Grw BytL} (h:A.ok) (hl:A.n≤9223372036854775807) (he:∀ k,k < A.n→OkB (A.f k)):OkS (recS A):=⟨gs_le h,fun h0=>gsA_own (h.pos h0),hl,he⟩
theorem recS_head {A:Grw BytL} (h:A.ok) {w:World} (hb:∀ b,roO (gsE slqC [Value.slice none 0 0] 1 A)=some b→Holds b w) (h0:0 < A.n):Holds (bysB (recS A)) w:=by
  have hz:=h.pos h0
  have h1:=hb ⟨A.nm,false,0,sprE 1 (A.n+A.r) A.n (fun k=>slqC (A.f k)) [Value.slice none 0 0]⟩ (by rw [gsE_own hz]; rfl)
  refine h1.recont (c:=tabF A.n fun k=>slqV (A.f k)) rfl fun o v hv=>?_
  by_cases ho:o < A.n
  · rw [tabF_in ho] at hv
    show(Cont.tab (A.n+A.r) 1 fun k=>if k < A.n then slqC (A.f k) else [Value.slice none 0 0]).get o=some v
    rw [Cont.get_tab (by omega),Nat.div_one,Nat.mod_one,if_pos ho]
    exact hv
  · rw [tabF_out ho] at hv; cases hv
theorem recS_fam {A:Grw BytL} (h:A.ok) {w:World} (hb:∀ b,roO (gsE slqC [Value.slice none 0 0] 1 A)=some b→Holds b w) (he:∀ k,k < A.n→FamH (famB (A.f k)) w):FamH (famS (recS A)) w:=fun b hb'=>by
  rcases hb' with ⟨h0,rfl⟩ | ⟨k,hk,h2⟩
  · exact⟨recS_head h hb h0,rfl⟩
  · exact he k hk b h2
theorem pile_el {n c d:Nat} {L:Nat→Nat} {f:Nat→Nat→UInt8} {w:World} (hb:∀ b,roO (plO n c d L f)=some b→Holds b w):∀ k,k < n→FamH (famB (elF c d L f k)) w:=fun k hk b hb'=>by
  obtain⟨h0,rfl⟩:=hb'
  cases n with
  | zero=>omega
  | succ m =>
    have h1:=(hb _ (by rw [plO_succ]; rfl)).obj
    have h2:PieceOk (decL c k) false (sprP (L k) (decL d k) (f k)) w:=h1 k _ _ hk rfl
    have h3:Holds ⟨decL c k,false,0,spr (L k+decL d k) (L k) (fun j=>u8 (f k j)) (u8 0)⟩ w:=⟨h2.lt,h2.cell,(fun h=>by cases h),trivial⟩
    exact⟨holds_sprB h3,rfl⟩
theorem elF_ok {c d:Nat} {L:Nat→Nat} {f:Nat→Nat→UInt8} {k:Nat} (h:L k≤9223372036854775807):OkB (elF c d L f k):=okb_own (by omega) h
theorem lists_true {a b:BytS} (hn:a.wn=b.wn) (h:∀ k,k < a.wn→(a.wf k).wn=(b.wf k).wn∧∀ i,i < (a.wf k).wn→(a.wf k).wf i=(b.wf k).wf i):listsB a b=true:=decide_eq_true ⟨hn,fun k hk=>decide_eq_true ⟨(h k hk).1,(h k hk).2⟩⟩
theorem RunsO.sub {F G:Blk→Prop} {P:Program} {f:FuncId} {args:List Value} {bs:List (Option Blk)} {k:Nat} {v:List Nat→Value} {out:List Nat→List (Option Blk)} (hG:SubH G F) (hn:NmF G F) (h:RunsO G P f args bs k v out):RunsO F P f args bs k v out :=
  fun w hm ha hF=>h w hm ha fun b hb=>by
    obtain⟨h1,h2⟩:=hG w (fun z hz=>⟨(hF z hz).1,(hF z hz).2.1⟩) b hb
    obtain⟨y,hy,hj⟩:=hn b hb
    exact⟨h1,h2,fun k hk=>(hF y hy).2.2 k (hj k hk)⟩
theorem lit_fam {nm n c:Nat} {l:List Value} {f:Nat→BytL} {w:World} (hl:l=(List.range n).map fun k=>slqV (f k)) (hb:Holds ⟨nm,false,0,.lit l⟩ w) (he:∀ k,k < n→FamH (famB (f k)) w):FamH (famS (bysO nm n c f)) w:=fun x hx=>by
  rcases hx with ⟨h0,rfl⟩ | ⟨k,hk,hx⟩
  · subst hl
    refine⟨hb.recont rfl fun j v hj=>?_,rfl⟩
    have hj':(tabF n fun k=>slqV (f k)).get j=some v:=hj
    show((List.range n).map fun k=>slqV (f k))[j]? = some v
    by_cases hl:j < n
    · rw [tabF_in hl] at hj'
      rw [map_get slqV f n j hl]; exact hj'
    · rw [tabF_out hl] at hj'; cases hj'
  · exact he k hk x hx
theorem brow2 {P:Nat→BytL→Prop} {a b:BytL} (h0:P 0 a) (h1:P 1 b):∀ k,k < 2→P k (brow [a,b] k):=fun k hk=>by
  rcases k with _ | _ | k
  · exact h0
  · exact h1
  · omega
end Go.Eng
end
section
namespace Go.Eng
open Go.RowKit
theorem RunsO.vtrue {F:Blk→Prop} {P:Program} {f:FuncId} {args:List Value} {bs:List (Option Blk)} {b:Bool} {out:List Nat→List (Option Blk)} (hb:b=true) (h:RunsO F P f args bs 0 (fun _=>Value.bool b) out):RunsO F P f args bs 0 (fun _=>Value.bool true) out:=hb ▸ h
end Go.Eng
end
section
namespace Go.Eng
open Go.RowKit
def bysT (x:BytS) (k:Nat):BytS:=⟨x.wa,k,x.wc,x.wb,x.wo,x.wf⟩
theorem oks_to {x:BytS} {k:Nat} (h:OkS x) (hk:k≤x.wn):OkS (bysT x k):=⟨Nat.le_trans hk h.cap,fun h0=>h.ad (Nat.lt_of_lt_of_le h0 hk),Nat.le_trans hk h.len,fun j hj=>h.el j (Nat.lt_of_lt_of_le hj hk)⟩
end Go.Eng
end
section
namespace Go.Eng
open Go.RowKit
end Go.Eng
end
section
namespace Go.Eng
def slqS (q:BytS):Value:=.slice q.wa q.wn q.wc
theorem sh_bysT {l:BytS} {k:Nat} (hk:k≤l.wn):SubH (famS (bysT l k)) (famS l):=fun w hF z hz=>by
  rcases hz with ⟨h0,rfl⟩ | ⟨i,hi,h⟩
  · have h1:0 < k:=h0
    obtain⟨h2,_⟩:=hF (bysB l) (.inl ⟨by omega,rfl⟩)
    refine⟨h2.recont (c:=tabF k fun k=>slqV (l.wf k)) rfl fun o v hv=>?_,rfl⟩
    by_cases ho:o < k
    · rw [tabF_in ho] at hv
      show(tabF l.wn fun k=>slqV (l.wf k)).get o=some v
      rw [tabF_in (by omega)]; exact hv
    · rw [tabF_out (by omega)] at hv; cases hv
  · exact hF z (.inr ⟨i,Nat.lt_of_lt_of_le hi hk,h⟩)
theorem nm_bysT {l:BytS} {k:Nat} (hk:k≤l.wn):NmF (famS (bysT l k)) (famS l):=fun z hz=>by
  rcases hz with ⟨h0,rfl⟩ | ⟨i,hi,h⟩
  · have h1:0 < k:=h0
    exact⟨bysB l,.inl ⟨by omega,rfl⟩,fun j hj=>hj⟩
  · exact⟨z,.inr ⟨i,Nat.lt_of_lt_of_le hi hk,h⟩,fun j hj=>hj⟩
theorem sh_tw {l:BytS} {i:Nat} (hi:i < l.wn):SubH (famSB (bysT l i) (l.wf i)) (famS l):=sh_or (sh_bysT (by omega)) (sh_sub (s_el hi))
theorem nm_tw {l:BytS} {i:Nat} (hi:i < l.wn):NmF (famSB (bysT l i) (l.wf i)) (famS l):=nm_or (nm_bysT (by omega)) (nm_sub (s_el hi))
structure PoR where
  A:Grw BytL
  K:Nat
  c:Nat
  d:Nat
  L:Nat→Nat
  f:Nat→Nat→UInt8
  Y:MpR
def poH (X:PoR):Option Blk:=gsE slqC [Value.slice none 0 0] 1 X.A
def poP (X:PoR):Option Blk:=plO X.K X.c X.d X.L X.f
structure POk (X:PoR):Prop where
  ok:X.A.ok
  yok:X.Y.ok
  el:∀ k,k < X.A.n→∃ j,j < X.K∧X.A.f k=elF X.c X.d X.L X.f j
  sz:∀ k,k < X.A.n→1≤(X.A.f k).wn∧(X.A.f k).wn≤1000
  len:X.A.n≤30
section
variable {X:PoR}
theorem POk.okb (h:POk X) {k:Nat} (hk:k < X.A.n):OkB (X.A.f k):=by
  obtain⟨j,_,e⟩:=h.el k hk
  have h2:=(h.sz k hk).2
  rw [e] at h2 ⊢
  exact elF_ok (Nat.le_trans (show X.L j≤1000 from h2) (by decide))
theorem POk.oks (h:POk X):OkS (recS X.A):=recS_ok h.ok (Nat.le_trans h.len (by decide)) fun k hk=>h.okb hk
theorem POk.fam (h:POk X) {w:World} (h1:∀ b,roO (poH X)=some b→Holds b w) (h2:∀ b,roO (poP X)=some b→Holds b w):FamH (famS (recS X.A)) w :=
  recS_fam h.ok h1 fun k hk=>by
    obtain⟨j,hj,e⟩:=h.el k hk
    rw [e]; exact pile_el h2 j hj
theorem POk.names (h:POk X) {z:Blk} (hz:famS (recS X.A) z):∀ j,z.has j→∃ c,(some c=roO (poH X)∨some c=roO (poP X))∧c.has j:=fun j hj=>by
  rcases hz with ⟨h0,rfl⟩ | ⟨k,hk,hz⟩
  · have hA:=h.ok.pos h0
    refine⟨⟨X.A.nm,false,0,sprE 1 (X.A.n+X.A.r) X.A.n (fun k=>slqC (X.A.f k)) [Value.slice none 0 0]⟩,.inl ?_,hj⟩
    unfold poH; rw [gsE_own hA]; rfl
  · obtain⟨i,hi,e⟩:=h.el k hk
    have hz':famB (X.A.f k) z:=hz
    rw [e] at hz'
    obtain⟨h0,rfl⟩:=hz'
    cases hK:X.K with
    | zero=>omega
    | succ m =>
      refine⟨⟨decL X.c m,false,0,.pile (m+1) (plG X.c X.d X.L X.f)⟩,.inr ?_,?_⟩
      · unfold poP; rw [hK,plO_succ]; rfl
      · exact⟨i,_,by omega,show some (decL X.c i,_)=some (j,_) from by rw [show j=decL X.c i from hj.symm]⟩
def poC (X:PoR):List (Option Blk):=[roO (poH X),roO (poP X)]
theorem POk.fam' (h:POk X) {w:World} (hb:∀ b,some b ∈ poC X→Holds b w):FamH (famS (recS X.A)) w :=
  h.fam (fun b hb'=>hb b (hb' ▸ List.Mem.head _)) (fun b hb'=>hb b (hb' ▸ List.Mem.tail _ (List.Mem.head _)))
theorem POk.names' (h:POk X) {z:Blk} (hz:famS (recS X.A) z) (j:Nat) (hj:z.has j):∃ c,some c ∈ poC X∧c.has j:=by
  obtain⟨c,h1 | h1,h2⟩:=h.names hz j hj
  · exact⟨c,h1 ▸ List.Mem.head _,h2⟩
  · exact⟨c,h1 ▸ List.Mem.tail _ (List.Mem.head _),h2⟩
theorem POk.lend {F : Blk → Prop} {P : Program} {f : FuncId} {args : List Value} {bs : List (Option Blk)} {k : Nat} {v : List Nat → Value} {o nw : List Nat → List (Option Blk)} (h : POk X) (hr : RunsO (famS (recS X.A)) P f args bs k v (fun ns => o ns ++ nw ns)) (ho : ∀ ns, (o ns).length = bs.length) :
    RunsO F P f args (bs ++ poC X) k v (fun ns=>o ns ++ ([none,none] ++ nw ns)) :=
  hr.lendQ ho (fun w _ hb=>h.fam' hb) fun z hz j hj=>.inr (h.names' hz j hj)
theorem POk.lendB {P : Program} {f : FuncId} {args : List Value} {y : BytL} {bs : List (Option Blk)} {k : Nat} {v : List Nat → Value} {o nw : List Nat → List (Option Blk)} (h : POk X) (hr : RunsO (famSB (recS X.A) y) P f args bs k v (fun ns => o ns ++ nw ns)) (ho : ∀ ns, (o ns).length = bs.length) :
    RunsO (famB y) P f args (bs ++ poC X) k v (fun ns=>o ns ++ ([none,none] ++ nw ns)) :=
  hr.lendQ ho (fun w h1 hb=>hold_or (h.fam' hb) h1) fun z hz j hj=>hz.elim (fun h1=>.inr (h.names' h1 j hj)) fun h1=>.inl ⟨z,h1,hj⟩
end
end Go.Eng
end
section
namespace Go.Proofs.YtnailbicmhkmbaaDoor
open Go Go.Eng
theorem one24:OneC Tryd.prog 24 (.slice none 0 0) 24:=oneC_of (by kernel_rfl) rfl
theorem agg24:AggC Tryd.prog 24 [Value.slice none 0 0] 1 24:=aggC_of (z:=.slice none 0 0) (by kernel_rfl) rfl rfl (by decide)
def first_run_S1 (p:Nat) (q:BytS) (V:Value) (n:Int) (x1:Nat × Nat × Nat × Nat × Nat):St:=⟨[(5,.v (gsV (gsOf x1.1 (elF x1.2.1 x1.2.2.1 (fun k=>(q.wf k).wn) (fun k=>(q.wf k).wf)) x1.2.2.2.1 x1.2.2.2.2))),(20,.v (Value.slice q.wa (min n.toNat q.wn) q.wc)),(21,.v (nat (min n.toNat q.wn))),(22,.v (nat x1.1))],[(0,some ⟨p,false,0,(.lit [(Value.slice q.wa q.wn q.wc),V])⟩),(1,(gsE slqC [Value.slice none 0 0] 1 (gsOf x1.1 (elF x1.2.1 x1.2.2.1 (fun k=>(q.wf k).wn) (fun k=>(q.wf k).wf)) x1.2.2.2.1 x1.2.2.2.2))),(2,(plO x1.1 x1.2.1 x1.2.2.1 (fun k=>(q.wf k).wn) (fun k=>(q.wf k).wf)))],3⟩
def first_run_R1 (p:Nat) (q:BytS) (V:Value) (n:Int) (x1:Nat × Nat × Nat × Nat × Nat):Prop:=(x1.1≤min n.toNat q.wn)
def first_run_mu1 (p:Nat) (q:BytS) (V:Value) (n:Int) (x1:Nat × Nat × Nat × Nat × Nat):Nat:=min n.toNat q.wn - x1.1
theorem first_run (p:Nat) (q:BytS) (V:Value) (n:Int) (hq:OkS q) (hn:q.wn≤1000000) (hE:∀ k,k < q.wn→1≤(q.wf k).wn∧(q.wf k).wn≤1000):RunsO (famS q) Tryd.prog 15 [(ptr p 0),(int n)] [some ⟨p,false,0,(.lit [(Value.slice q.wa q.wn q.wc),V])⟩] 4 (fun(ns:List Nat)=>(gsV (gsOf (min n.toNat q.wn) (elF (ns.getD 0 0) (ns.getD 1 0) (fun k=>(q.wf k).wn) (fun k=>(q.wf k).wf)) (ns.getD 2 0) (ns.getD 3 0)))) (fun(ns:List Nat)=>[some ⟨p,false,0,(.lit [(Value.slice q.wa q.wn q.wc),V])⟩,(gsE slqC [Value.slice none 0 0] 1 (gsOf (min n.toNat q.wn) (elF (ns.getD 0 0) (ns.getD 1 0) (fun k=>(q.wf k).wn) (fun k=>(q.wf k).wf)) (ns.getD 2 0) (ns.getD 3 0))),(plO (min n.toNat q.wn) (ns.getD 0 0) (ns.getD 1 0) (fun k=>(q.wf k).wn) (fun k=>(q.wf k).wf))]) :=
  runsO_of_ev mix Tryd.func15 rfl rfl 400 (.reg (rg [.g]) (.reg (rg [.g]) (.keep [0,1,4,5] [0] 3 (.reg (rg [.g,.g,.g,(.ld 0 (.lit 0)),.g,(.as (nat n.toNat)),.g,.g,.g,(.ld 0 (.lit 0)),(.as (nat q.wn)),(.as (nat (min n.toNat q.wn))),(.as (Value.slice q.wa (min n.toNat q.wn) q.wc)),(.as (nat (min n.toNat q.wn))),.g]) (.inv [5,20,21,22] [0,1,2] 3 (first_run_R1 p q V n) (first_run_S1 p q V n) (first_run_mu1 p q V n) ((0,0,0,0,0):Nat × Nat × Nat × Nat × Nat) (fun(x1:Nat × Nat × Nat × Nat × Nat)=>(.reg (rg [(.as (Value.bool (decide (x1.1 < (min n.toNat q.wn)))))]) (.br (.openr (bysB q) (.reg (rg [(.as (ptr q.wb (q.wo+x1.1*1))),(.ld 3 (.tab x1.1 0)),.g]) (.regn (rg [.g,.g,(.callF [] 2 1 (fun ns=>Value.slice (some ⟨ns.getD 0 0,0,none⟩) (q.wf x1.1).wn ((q.wf x1.1).wn+ns.getD 1 0)) (fun ns=>[some ⟨(ns.getD 0 0),true,0,(spr ((q.wf x1.1).wn+(ns.getD 1 0)) ((q.wf x1.1).wn) (fun k=>u8 ((q.wf x1.1).wf k)) (u8 0))⟩])),.bsl,(.othOB [(1,false),(5,true)] 2 0 (fun ns=>gsV (Grw.mk false (ns.getD 0 0) (x1.1+1) (ns.getD 1 0) (catU ((gsOf x1.1 (elF x1.2.1 x1.2.2.1 (fun k=>(q.wf k).wn) (fun k=>(q.wf k).wf)) x1.2.2.2.1 x1.2.2.2.2).f) x1.1 ((gsOf x1.1 (elF x1.2.1 x1.2.2.1 (fun k=>(q.wf k).wn) (fun k=>(q.wf k).wf)) x1.2.2.2.1 x1.2.2.2.2).f)))) (fun bs ns=>[(gsE slqC [Value.slice none 0 0] 1 (Grw.mk false (ns.getD 0 0) (x1.1+1) (ns.getD 1 0) (catU ((gsOf x1.1 (elF x1.2.1 x1.2.2.1 (fun k=>(q.wf k).wn) (fun k=>(q.wf k).wf)) x1.2.2.2.1 x1.2.2.2.2).f) x1.1 (fun _=>qOf (cellO bs 1))))),none])),.g]) (more (fun n1=>more (fun n2=>more (fun n3=>more (fun n4=>more (fun n5=>fun _=>(.pack 4 2 (x1.1+1) (plG (pcod x1.2.1 x1.1 n1) (pcod x1.2.2.1 x1.1 n2) (fun k=>(q.wf k).wn) (fun k=>(q.wf k).wf)) (.keep [5,20,21,22] [0,1,2] 3 (.told ⟨[(5,.v (gsV (gsOf (x1.1+1) (elF (pcod x1.2.1 x1.1 n1) (pcod x1.2.2.1 x1.1 n2) (fun k=>(q.wf k).wn) (fun k=>(q.wf k).wf)) n4 n5))),(20,.v (Value.slice q.wa (min n.toNat q.wn) q.wc)),(21,.v (nat (min n.toNat q.wn))),(22,.v (nat x1.1))],[(0,some ⟨p,false,0,(.lit [(Value.slice q.wa q.wn q.wc),V])⟩),(1,(gsE slqC [Value.slice none 0 0] 1 (gsOf (x1.1+1) (elF (pcod x1.2.1 x1.1 n1) (pcod x1.2.2.1 x1.1 n2) (fun k=>(q.wf k).wn) (fun k=>(q.wf k).wf)) n4 n5))),(2,(plO (x1.1+1) (pcod x1.2.1 x1.1 n1) (pcod x1.2.2.1 x1.1 n2) (fun k=>(q.wf k).wn) (fun k=>(q.wf k).wf)))],3⟩ (.reg (rg [(.as (nat (x1.1+1))),.g]) .done))))))))))))) (.keep [5] [0,1,2] 3 (.told ⟨[(5,.v (gsV (gsOf (min n.toNat q.wn) (elF x1.2.1 x1.2.2.1 (fun k=>(q.wf k).wn) (fun k=>(q.wf k).wf)) x1.2.2.2.1 x1.2.2.2.2)))],[(0,some ⟨p,false,0,(.lit [(Value.slice q.wa q.wn q.wc),V])⟩),(1,(gsE slqC [Value.slice none 0 0] 1 (gsOf (min n.toNat q.wn) (elF x1.2.1 x1.2.2.1 (fun k=>(q.wf k).wn) (fun k=>(q.wf k).wf)) x1.2.2.2.1 x1.2.2.2.2))),(2,(plO (min n.toNat q.wn) x1.2.1 x1.2.2.1 (fun k=>(q.wf k).wn) (fun k=>(q.wf k).wf)))],3⟩ (.reg (rg [.g,.g]) .done))))))))))) [] [1,2] rfl
    (have f0:q.wn≤q.wc∧q.wn≤1000000:=⟨hq.cap,hn⟩; Eq.mp (by kernel_rfl) (aI kV1 (aI kV1 ((aI (sK3 (aI (aT (ad p 0)) (sk (aI (aT (@is_max0 Tryd.prog (.tmp 12) (.const (.int .i64 0)) #[3,3] n)) (sK3 (aI (aT (ad p 0)) (aI (aT (@is_len Tryd.prog 23 24 (.tmp 17) (by kernel_rfl) q.wa q.wn q.wc)) (aI (aT (@is_minN Tryd.prog (.tmp 13) (.tmp 18) #[3,3] n.toNat q.wn)) (aI (aT (@is_slqTo Tryd.prog 23 24 (.tmp 11) (.tmp 19) (by kernel_rfl) 1 (by kernel_rfl) q.wa q.wn q.wc (min n.toNat q.wn) (show min n.toNat q.wn≤q.wc from by omega))) (aI (aT (@is_len Tryd.prog 23 24 (.tmp 20) (by kernel_rfl) q.wa (min n.toNat q.wn) q.wc)) kV1)))))))))) (aI (show(first_run_R1 p q V n) ((0,0,0,0,0):Nat × Nat × Nat × Nat × Nat) from(show(0≤min n.toNat q.wn) from by exact Nat.zero_le _)) (aI (@rfl St ((first_run_S1 p q V n) ((0,0,0,0,0):Nat × Nat × Nat × Nat × Nat))) (fun(x1:Nat × Nat × Nat × Nat × Nat) (hx1:(first_run_R1 p q V n) x1)=>have B0:x1.1≤min n.toNat q.wn:=hx1; aI (aI (aT (@is_lssn Tryd.prog 3 3 (.tmp 22) (.tmp 21)  x1.1 (min n.toNat q.wn))) tV) (aT (aI (fun(h1:(decide (x1.1 < (min n.toNat q.wn)))=true)=>have f2:=(oT h1); aI (Or.inl ⟨(show 0 < q.wn from by omega),rfl⟩:famS q (bysB q)) (aI (aI (aT (@is_ixSq Tryd.prog 23 24 (.tmp 20) (.tmp 22) 1 (by kernel_rfl) (by kernel_rfl) q.wb q.wo (min n.toNat q.wn) q.wc x1.1 q.wa (hq.ad (show 0 < q.wn from by omega)) (show x1.1 < min n.toNat q.wn from by omega))) (aI (aT (aI (show x1.1 < q.wn from by omega) (@rfl Value (ptr q.wb (q.wo+x1.1*1))))) kV1)) (fun(n1 n2 n3 n4 n5:Nat)=>aI (sK2 (aI (aT (RunsF.mono (s_el (show x1.1 < q.wn from by omega)) (clone_nn (q.wf x1.1) (hq.el _ (show x1.1 < q.wn from by omega)) (okb_some (hq.el _ (show x1.1 < q.wn from by omega)) (hE _ (show x1.1 < q.wn from by omega)).1) (Nat.le_trans (hE _ (show x1.1 < q.wn from by omega)).2 (by decide))))) (aI (aT (mk_build (P:=Tryd.prog) (t:=23) (e:=24) one24 1 #[(0,(Value.slice (some ⟨n1,0,none⟩) ((q.wf x1.1).wn) ((q.wf x1.1).wn+n2)))] #[(Value.slice (some ⟨n1,0,none⟩) ((q.wf x1.1).wn) ((q.wf x1.1).wn+n2))] (by kernel_rfl) (by decide) (by kernel_rfl))) (aI (aT (mkG_catE (P:=Tryd.prog) (t:=23) (ty:=23) (e:=24) (by kernel_rfl) agg24 (gsOf x1.1 (elF x1.2.1 x1.2.2.1 (fun k=>(q.wf k).wn) (fun k=>(q.wf k).wf)) x1.2.2.2.1 x1.2.2.2.2) (gsOf_ok _ _ _ _) slqC_ok (fun _=>(qOf (Value.slice (some ⟨n1,0,none⟩) ((q.wf x1.1).wn) ((q.wf x1.1).wn+n2)))) 1 (some ⟨n3,0,none⟩) 1 (some ⟨n3,false,0,(.lit [(Value.slice (some ⟨n1,0,none⟩) ((q.wf x1.1).wn) ((q.wf x1.1).wn+n2))])⟩) (fun _=>⟨_,_,_,_,rfl,rfl,(lit_src (sz:=1) (l:=slqC (qOf (Value.slice (some ⟨n1,0,none⟩) ((q.wf x1.1).wn) ((q.wf x1.1).wn+n2)))) rfl)⟩) (show(x1.1+1)*24≤140737488355328∧x1.1+1≤9223372036854775807 from by omega))) kV1)))) (aI (pack_push (L:=(fun k=>(q.wf k).wn)) (f:=(fun k=>(q.wf k).wf)) (x:=(q.wf x1.1)) (k:=x1.1) (c:=x1.2.1) (d:=x1.2.2.1) (n1:=n1) (n2:=n2) rfl rfl) (aI (show(⟨[(5,.v (gsV (Grw.mk false n4 (x1.1+1) n5 (catU ((gsOf x1.1 (elF x1.2.1 x1.2.2.1 (fun k=>(q.wf k).wn) (fun k=>(q.wf k).wf)) x1.2.2.2.1 x1.2.2.2.2).f) x1.1 (fun _=>(qOf (Value.slice (some ⟨n1,0,none⟩) ((q.wf x1.1).wn) ((q.wf x1.1).wn+n2)))))))),(20,.v (Value.slice q.wa (min n.toNat q.wn) q.wc)),(21,.v (nat (min n.toNat q.wn))),(22,.v (nat x1.1))],[(0,some ⟨p,false,0,(.lit [(Value.slice q.wa q.wn q.wc),V])⟩),(1,(gsE slqC [Value.slice none 0 0] 1 (Grw.mk false n4 (x1.1+1) n5 (catU ((gsOf x1.1 (elF x1.2.1 x1.2.2.1 (fun k=>(q.wf k).wn) (fun k=>(q.wf k).wf)) x1.2.2.2.1 x1.2.2.2.2).f) x1.1 (fun _=>(qOf (Value.slice (some ⟨n1,0,none⟩) ((q.wf x1.1).wn) ((q.wf x1.1).wn+n2)))))))),(2,some ⟨n1,true,0,.pile (x1.1+1) (plG (pcod x1.2.1 x1.1 n1) (pcod x1.2.2.1 x1.1 n2) (fun k=>(q.wf k).wn) (fun k=>(q.wf k).wf))⟩)],3⟩:St)=⟨[(5,.v (gsV (gsOf (x1.1+1) (elF (pcod x1.2.1 x1.1 n1) (pcod x1.2.2.1 x1.1 n2) (fun k=>(q.wf k).wn) (fun k=>(q.wf k).wf)) n4 n5))),(20,.v (Value.slice q.wa (min n.toNat q.wn) q.wc)),(21,.v (nat (min n.toNat q.wn))),(22,.v (nat x1.1))],[(0,some ⟨p,false,0,(.lit [(Value.slice q.wa q.wn q.wc),V])⟩),(1,(gsE slqC [Value.slice none 0 0] 1 (gsOf (x1.1+1) (elF (pcod x1.2.1 x1.1 n1) (pcod x1.2.2.1 x1.1 n2) (fun k=>(q.wf k).wn) (fun k=>(q.wf k).wf)) n4 n5))),(2,(plO (x1.1+1) (pcod x1.2.1 x1.1 n1) (pcod x1.2.2.1 x1.1 n2) (fun k=>(q.wf k).wn) (fun k=>(q.wf k).wf)))],3⟩ from by rw [plO_succ,pcod_new,(list_push (L:=(fun k=>(q.wf k).wn)) (f:=(fun k=>(q.wf k).wf)) (x:=(q.wf x1.1)) (k:=x1.1) (c:=x1.2.1) (d:=x1.2.2.1) (n1:=n1) (n2:=n2) rfl rfl (A:=Grw.mk false n4 (x1.1+1) n5 (catU ((gsOf x1.1 (elF x1.2.1 x1.2.2.1 (fun k=>(q.wf k).wn) (fun k=>(q.wf k).wf)) x1.2.2.2.1 x1.2.2.2.2).f) x1.1 (fun _=>(qOf (Value.slice (some ⟨n1,0,none⟩) ((q.wf x1.1).wn) ((q.wf x1.1).wn+n2)))))) rfl rfl rfl).1,(list_push (L:=(fun k=>(q.wf k).wn)) (f:=(fun k=>(q.wf k).wf)) (x:=(q.wf x1.1)) (k:=x1.1) (c:=x1.2.1) (d:=x1.2.2.1) (n1:=n1) (n2:=n2) rfl rfl (A:=Grw.mk false n4 (x1.1+1) n5 (catU ((gsOf x1.1 (elF x1.2.1 x1.2.2.1 (fun k=>(q.wf k).wn) (fun k=>(q.wf k).wf)) x1.2.2.2.1 x1.2.2.2.2).f) x1.1 (fun _=>(qOf (Value.slice (some ⟨n1,0,none⟩) ((q.wf x1.1).wn) ((q.wf x1.1).wn+n2)))))) rfl rfl rfl).2]) (aI (aI (aT (@is_addn Tryd.prog 3 3 (.tmp 22) (.const (.int .i64 1))  x1.1 1 (show x1.1+1≤9223372036854775807 from by omega))) kV1) ((rnd (first_run_R1 p q V n) (first_run_S1 p q V n) (first_run_mu1 p q V n) x1 ((x1.1+1,(pcod x1.2.1 x1.1 n1),(pcod x1.2.2.1 x1.1 n2),n4,n5):Nat × Nat × Nat × Nat × Nat) (show(first_run_R1 p q V n) ((x1.1+1,(pcod x1.2.1 x1.1 n1),(pcod x1.2.2.1 x1.1 n2),n4,n5):Nat × Nat × Nat × Nat × Nat)∧(first_run_mu1 p q V n) ((x1.1+1,(pcod x1.2.1 x1.1 n1),(pcod x1.2.2.1 x1.1 n2),n4,n5):Nat × Nat × Nat × Nat × Nat) < (first_run_mu1 p q V n) x1 from(show(((x1.1+1)≤min n.toNat q.wn))∧(min n.toNat q.wn - (x1.1+1)) < (min n.toNat q.wn - x1.1) from by exact⟨by omega,by omega⟩)))))))))) (fun(h1:(decide (x1.1 < (min n.toNat q.wn)))=false)=>have f2:=(oF h1); aI (show(⟨[(5,.v (gsV (gsOf x1.1 (elF x1.2.1 x1.2.2.1 (fun k=>(q.wf k).wn) (fun k=>(q.wf k).wf)) x1.2.2.2.1 x1.2.2.2.2)))],[(0,some ⟨p,false,0,(.lit [(Value.slice q.wa q.wn q.wc),V])⟩),(1,(gsE slqC [Value.slice none 0 0] 1 (gsOf x1.1 (elF x1.2.1 x1.2.2.1 (fun k=>(q.wf k).wn) (fun k=>(q.wf k).wf)) x1.2.2.2.1 x1.2.2.2.2))),(2,(plO x1.1 x1.2.1 x1.2.2.1 (fun k=>(q.wf k).wn) (fun k=>(q.wf k).wf)))],3⟩:St)=⟨[(5,.v (gsV (gsOf (min n.toNat q.wn) (elF x1.2.1 x1.2.2.1 (fun k=>(q.wf k).wn) (fun k=>(q.wf k).wf)) x1.2.2.2.1 x1.2.2.2.2)))],[(0,some ⟨p,false,0,(.lit [(Value.slice q.wa q.wn q.wc),V])⟩),(1,(gsE slqC [Value.slice none 0 0] 1 (gsOf (min n.toNat q.wn) (elF x1.2.1 x1.2.2.1 (fun k=>(q.wf k).wn) (fun k=>(q.wf k).wf)) x1.2.2.2.1 x1.2.2.2.2))),(2,(plO (min n.toNat q.wn) x1.2.1 x1.2.2.1 (fun k=>(q.wf k).wn) (fun k=>(q.wf k).wf)))],3⟩ from by have e:x1.1=min n.toNat q.wn:=(by omega); rw [e]) (aI kV2 (aT (eX (fun(ns:List Nat)=>ns.length=4∧((gsV (gsOf (min n.toNat q.wn) (elF x1.2.1 x1.2.2.1 (fun k=>(q.wf k).wn) (fun k=>(q.wf k).wf)) x1.2.2.2.1 x1.2.2.2.2)):Value)=(fun(ns:List Nat)=>(gsV (gsOf (min n.toNat q.wn) (elF (ns.getD 0 0) (ns.getD 1 0) (fun k=>(q.wf k).wn) (fun k=>(q.wf k).wf)) (ns.getD 2 0) (ns.getD 3 0)))) ns∧([some ⟨p,false,0,(.lit [(Value.slice q.wa q.wn q.wc),V])⟩,(gsE slqC [Value.slice none 0 0] 1 (gsOf (min n.toNat q.wn) (elF x1.2.1 x1.2.2.1 (fun k=>(q.wf k).wn) (fun k=>(q.wf k).wf)) x1.2.2.2.1 x1.2.2.2.2)),(plO (min n.toNat q.wn) x1.2.1 x1.2.2.1 (fun k=>(q.wf k).wn) (fun k=>(q.wf k).wf))]:List (Option Blk))=(fun(ns:List Nat)=>[some ⟨p,false,0,(.lit [(Value.slice q.wa q.wn q.wc),V])⟩,(gsE slqC [Value.slice none 0 0] 1 (gsOf (min n.toNat q.wn) (elF (ns.getD 0 0) (ns.getD 1 0) (fun k=>(q.wf k).wn) (fun k=>(q.wf k).wf)) (ns.getD 2 0) (ns.getD 3 0))),(plO (min n.toNat q.wn) (ns.getD 0 0) (ns.getD 1 0) (fun k=>(q.wf k).wn) (fun k=>(q.wf k).wf))]) ns) [x1.2.1,x1.2.2.1,x1.2.2.2.1,x1.2.2.2.2] (aI (@rfl Nat 4) (aI (@rfl Value (gsV (gsOf (min n.toNat q.wn) (elF x1.2.1 x1.2.2.1 (fun k=>(q.wf k).wn) (fun k=>(q.wf k).wf)) x1.2.2.2.1 x1.2.2.2.2))) (@rfl (List (Option Blk)) [some ⟨p,false,0,(.lit [(Value.slice q.wa q.wn q.wc),V])⟩,(gsE slqC [Value.slice none 0 0] 1 (gsOf (min n.toNat q.wn) (elF x1.2.1 x1.2.2.1 (fun k=>(q.wf k).wn) (fun k=>(q.wf k).wf)) x1.2.2.2.1 x1.2.2.2.2)),(plO (min n.toNat q.wn) x1.2.1 x1.2.2.1 (fun k=>(q.wf k).wn) (fun k=>(q.wf k).wf))])))))))))))))))))
theorem has_X {X:PoR} (h:POk X) (y:BytL) (hy:OkB y):RunsO (famB y) Tryd.prog 31 [gsV X.A,slqV y] [roO (poH X),roO (poP X)] 0 (fun _=>.bool (inB X.A.f X.A.n y)) (fun _=>[none,none]) :=
  h.lendB (bs:=[]) (o:=fun _=>[]) (nw:=fun _=>[]) (has_fam (recS X.A) y h.oks hy).toO (fun _=>rfl)
theorem first_X {F:Blk→Prop} {X:PoR} (h:POk X) (p:Nat) (V:Value) (n:Int):RunsO F Tryd.prog 15 [ptr p 0,int n] [some ⟨p,false,0,.lit [gsV X.A,V]⟩,roO (poH X),roO (poP X)] 4 (fun ns=>gsV (gsOf (min n.toNat X.A.n) (elF (ns.getD 0 0) (ns.getD 1 0) (fun k=>(X.A.f k).wn) (fun k=>(X.A.f k).wf)) (ns.getD 2 0) (ns.getD 3 0))) (fun ns=>[some ⟨p,false,0,.lit [gsV X.A,V]⟩,none,none,gsE slqC [Value.slice none 0 0] 1 (gsOf (min n.toNat X.A.n) (elF (ns.getD 0 0) (ns.getD 1 0) (fun k=>(X.A.f k).wn) (fun k=>(X.A.f k).wf)) (ns.getD 2 0) (ns.getD 3 0)),(plO (min n.toNat X.A.n) (ns.getD 0 0) (ns.getD 1 0) (fun k=>(X.A.f k).wn) (fun k=>(X.A.f k).wf))]) :=
  h.lend (bs:=[some ⟨p,false,0,.lit [gsV X.A,V]⟩]) (o:=fun _=>[some ⟨p,false,0,.lit [gsV X.A,V]⟩]) (nw:=fun ns=>[gsE slqC [Value.slice none 0 0] 1 (gsOf (min n.toNat X.A.n) (elF (ns.getD 0 0) (ns.getD 1 0) (fun k=>(X.A.f k).wn) (fun k=>(X.A.f k).wf)) (ns.getD 2 0) (ns.getD 3 0)),(plO (min n.toNat X.A.n) (ns.getD 0 0) (ns.getD 1 0) (fun k=>(X.A.f k).wn) (fun k=>(X.A.f k).wf))]) (first_run p (recS X.A) V n h.oks (Nat.le_trans h.len (by decide)) h.sz) (fun _=>rfl)
theorem was_run (p:Nat) (V:Value) (Y:MpR) (hY:Y.ok) (x:BytL) (hx:OkB x):RunsO (famB x) Tryd.prog 37 [ptr p 0,slqV x] [some ⟨p,false,0,.lit [V,mpV Y]⟩,roO (mpO Y)] 0 (fun _=>.bool (hasP Y.l (strOf x.wf x.wn))) (fun _=>[none,none]):=by
  cases hz:Y.z with
  | false =>
    have h1:=(was_own p V Y.m Y.l x hx).toO
    rw [mpV_own hz,mpO_own hz]
    exact h1.as (.refl _) id fun ns hns=>⟨hns,rfl,.dr _ (.dr _ (.refl _)),tV⟩
  | true =>
    have h1:=(was_nil p V x hx).toO
    rw [mpV_nil hz,mpO_nil hz,hY hz]
    exact h1.as (.cons _ (.zz _)) id fun ns hns=>⟨hns,rfl,.dr _ (.dn (.zz _)),tV⟩
end Go.Proofs.YtnailbicmhkmbaaDoor
end
section
namespace Go.Eng
def addX (X:PoR) (y:BytL) (n1 n2 nm r:Nat):PoR :=
  ⟨⟨false,nm,X.A.n+1,r,catU X.A.f X.A.n fun _=>bytO n1 y.wn (y.wn+n2) y.wf⟩,X.K+1,pcod X.c X.K n1,pcod X.d X.K n2,catU X.L X.K fun _=>y.wn,catU X.f X.K fun _=>y.wf,X.Y⟩
def addE (X:PoR) (y:BytL):Int :=
  if szB y.wn=false then 2 else if (selB (inB X.A.f X.A.n y) true (hasP X.Y.l (strOf y.wf y.wn)))=true then 13 else if X.A.n=30 then 52 else 0
def adX (X:PoR) (y:BytL) (n1 n2 nm r:Nat):PoR:=if addE X y=0 then addX X y n1 n2 nm r else X
theorem szB_iff {n:Nat}:szB n=true ↔ 1≤n∧n≤1000:=by unfold szB; rw [Bool.and_eq_true,decide_eq_true_iff,decide_eq_true_iff]
theorem szB_sel {n:Nat}:selB (decide (1≤n)) (decide (n≤1000)) false=szB n:=by unfold szB; rw [selB_and]
section
variable {X:PoR} {y:BytL} {n1 n2 nm r:Nat}
theorem pack_X:PackOk (poP X) ⟨n1,true,0,spr (y.wn+n2) y.wn (fun j=>u8 (y.wf j)) (u8 0)⟩ (X.K+1) (plG (pcod X.c X.K n1) (pcod X.d X.K n2) (catU X.L X.K fun _=>y.wn) (catU X.f X.K fun _=>y.wf)):=by
  intro i j pc hi hg
  injection hg with hg
  injection hg with h1 h2
  by_cases hik:i < X.K
  · left
    rw [pcod_old hik] at h1 h2
    rw [show catU X.L X.K (fun _=>y.wn) i=X.L i from if_pos hik,show catU X.f X.K (fun _=>y.wf) i=X.f i from if_pos hik] at h2
    unfold poP
    cases hK:X.K with
    | zero=>omega
    | succ m =>
      refine⟨_,_,_,i,plO_succ m X.c X.d,rfl,rfl,by omega,?_⟩
      rw [← h1,← h2]; rfl
  · right
    have:i=X.K:=by omega
    subst this
    rw [pcod_new,show catU X.L X.K (fun _=>y.wn) X.K=y.wn from if_neg (by omega),show catU X.f X.K (fun _=>y.wf) X.K=y.wf from if_neg (by omega)] at h2
    refine⟨by rw [← h1,pcod_new],.inl ?_⟩
    rw [← h2]
    rfl
theorem list_X:gsE slqC [Value.slice none 0 0] 1 (Grw.mk false nm (X.A.n+1) r (catU X.A.f X.A.n fun _=>qOf (.slice (some ⟨n1,0,none⟩) y.wn (y.wn+n2))))=poH (addX X y n1 n2 nm r):=by
  have e:∀ k,slqC (catU X.A.f X.A.n (fun _=>qOf (.slice (some ⟨n1,0,none⟩) y.wn (y.wn+n2))) k)=slqC ((addX X y n1 n2 nm r).A.f k):=fun k=>by
    show _=slqC (catU X.A.f X.A.n (fun _=>bytO n1 y.wn (y.wn+n2) y.wf) k)
    unfold catU
    by_cases h:k < X.A.n
    · rw [if_pos h,if_pos h]
    · rw [if_neg h,if_neg h]; rfl
  unfold poH
  show some (⟨nm,true,0,sprE 1 (X.A.n+1+r) (X.A.n+1) _ _⟩:Blk)=some ⟨nm,true,0,sprE 1 (X.A.n+1+r) (X.A.n+1) _ _⟩
  rw [show(fun k=>slqC (catU X.A.f X.A.n (fun _=>qOf (.slice (some ⟨n1,0,none⟩) y.wn (y.wn+n2))) k))=fun k=>slqC ((addX X y n1 n2 nm r).A.f k) from funext e]
theorem pile_X:poP (addX X y n1 n2 nm r)=some ⟨n1,true,0,.pile (X.K+1) (plG (pcod X.c X.K n1) (pcod X.d X.K n2) (catU X.L X.K fun _=>y.wn) (catU X.f X.K fun _=>y.wf))⟩:=by
  show plO (X.K+1) _ _ _ _=_
  rw [plO_succ]
  show some (⟨decL (pcod X.c X.K n1) X.K,true,0,_⟩:Blk)=_
  rw [pcod_new]; rfl
theorem addX_ok (h:POk X) (hs:1≤y.wn∧y.wn≤1000) (hn:X.A.n < 30):POk (addX X y n1 n2 nm r) where
  ok:=fun h=>by cases h
  yok:=h.yok
  el k hk:=by
    have hk':k < X.A.n+1:=hk
    by_cases hkn:k < X.A.n
    · obtain⟨j,hj,e⟩:=h.el k hkn
      refine⟨j,Nat.lt_succ_of_lt hj,?_⟩
      show catU X.A.f X.A.n (fun _=>bytO n1 y.wn (y.wn+n2) y.wf) k=elF (pcod X.c X.K n1) (pcod X.d X.K n2) (catU X.L X.K fun _=>y.wn) (catU X.f X.K fun _=>y.wf) j
      rw [show catU X.A.f X.A.n (fun _=>bytO n1 y.wn (y.wn+n2) y.wf) k=X.A.f k from if_pos hkn,e]
      unfold elF
      rw [pcod_old hj,pcod_old hj,show catU X.L X.K (fun _=>y.wn) j=X.L j from if_pos hj,show catU X.f X.K (fun _=>y.wf) j=X.f j from if_pos hj]
    · refine⟨X.K,Nat.lt_succ_self _,?_⟩
      show catU X.A.f X.A.n (fun _=>bytO n1 y.wn (y.wn+n2) y.wf) k=elF (pcod X.c X.K n1) (pcod X.d X.K n2) (catU X.L X.K fun _=>y.wn) (catU X.f X.K fun _=>y.wf) X.K
      unfold elF
      rw [show catU X.A.f X.A.n (fun _=>bytO n1 y.wn (y.wn+n2) y.wf) k=bytO n1 y.wn (y.wn+n2) y.wf from if_neg hkn,pcod_new,pcod_new,show catU X.L X.K (fun _=>y.wn) X.K=y.wn from if_neg (by omega),show catU X.f X.K (fun _=>y.wf) X.K=y.wf from if_neg (by omega)]
  sz k hk:=by
    have hk':k < X.A.n+1:=hk
    show 1≤(catU X.A.f X.A.n (fun _=>bytO n1 y.wn (y.wn+n2) y.wf) k).wn∧(catU X.A.f X.A.n (fun _=>bytO n1 y.wn (y.wn+n2) y.wf) k).wn≤1000
    unfold catU
    by_cases hkn:k < X.A.n
    · rw [if_pos hkn]; exact h.sz k hkn
    · rw [if_neg hkn]; exact hs
  len:=by show X.A.n+1≤30; omega
theorem add_0 (h:addE X y=0):szB y.wn=true∧(selB (inB X.A.f X.A.n y) true (hasP X.Y.l (strOf y.wf y.wn)))=false∧X.A.n≠30:=by
  unfold addE at h
  split at h
  · cases h
  · rename_i h1
    split at h
    · cases h
    · rename_i h2
      split at h
      · cases h
      · rename_i h3
        exact⟨by simpa using h1,by simpa using h2,h3⟩
theorem adX_ok (h:POk X):POk (adX X y n1 n2 nm r):=by
  unfold adX
  split
  · rename_i h0
    obtain⟨h1,_,h3⟩:=add_0 h0
    exact addX_ok h (szB_iff.1 h1) (by have:=h.len; omega)
  · exact h
end
def poS (p:Nat) (X:PoR):List (Option Blk):=[some ⟨p,true,0,.lit [gsV X.A,mpV X.Y]⟩,poH X,poP X,mpO X.Y]
theorem plO_ownL {n c d:Nat} {L:Nat→Nat} {f:Nat→Nat→UInt8} {r:List (Option Blk)} (h:ownL r):ownL (plO n c d L f :: r):=by
  cases n with
  | zero=>exact h
  | succ m=>exact⟨rfl,h⟩
theorem mpO_ownL {Y:MpR} {r:List (Option Blk)} (h:ownL r):ownL (mpO Y :: r):=by
  unfold mpO
  cases Y.z with
  | true=>exact h
  | false=>exact⟨rfl,h⟩
theorem poS_own (p:Nat) (X:PoR):ownL (poS p X):=⟨rfl,gsE_ownL (plO_ownL (mpO_ownL trivial))⟩
theorem RunsO.padS {F:Blk→Prop} {P:Program} {f:FuncId} {args:List Value} {bs l:List (Option Blk)} {v:Value} (h:RunsO F P f args bs 0 (fun _=>v) (fun _=>l)) (hl:ownL l):RunsO F P f args bs 4 (fun _=>v) (fun _=>l) :=
  h.as (.refl _) (fun _=>[0,0,0,0]) fun ns _=>⟨rfl,rfl,.refl _,hl⟩
section
variable {X:PoR} {y:BytL}
theorem adX_no (h:addE X y≠0) (a b c d:Nat):adX X y a b c d=X:=by unfold adX; rw [if_neg h]
theorem adX_yes (h:addE X y=0) (a b c d:Nat):adX X y a b c d=addX X y a b c d:=by unfold adX; rw [if_pos h]
theorem addE_1 (h1:szB y.wn=false):addE X y=2:=by unfold addE; rw [if_pos h1]
theorem addE_2 (h1:szB y.wn=true) (h2:(selB (inB X.A.f X.A.n y) true (hasP X.Y.l (strOf y.wf y.wn)))=true):addE X y=13:=by unfold addE; rw [if_neg (by rw [h1]; simp),if_pos h2]
theorem addE_3 (h1:szB y.wn=true) (h2:(selB (inB X.A.f X.A.n y) true (hasP X.Y.l (strOf y.wf y.wn)))=false) (h3:X.A.n=30):addE X y=52:=by unfold addE; rw [if_neg (by rw [h1]; simp),if_neg (by rw [h2]; simp),if_pos h3]
theorem addE_4 (h1:szB y.wn=true) (h2:(selB (inB X.A.f X.A.n y) true (hasP X.Y.l (strOf y.wf y.wn)))=false) (h3:X.A.n≠30):addE X y=0:=by unfold addE; rw [if_neg (by rw [h1]; simp),if_neg (by rw [h2]; simp),if_neg h3]
end
end Go.Eng
end
section
namespace Go.Proofs.YtnailbicmhkmbaaDoor
open Go Go.Eng
theorem sized_fam (y:BytL) (hy:OkB y):RunsF (famB y) Tryd.prog 19 [(Value.slice y.wa y.wn y.wc)] [] 0 (fun _=>Value.bool (szB y.wn)) (fun _=>[]) :=
  runsF_of_ev (F:=(famB y)) mix Tryd.func19 rfl rfl 400 (.reg (rg [.g]) (.reg (rg [.g,(.as (nat y.wn)),(.as (Value.bool (decide (1≤y.wn)))),.g,(.opt .g),(.opt (.as (nat y.wn))),(.opt (.as (Value.bool (decide (y.wn≤1000))))),.pk,.g]) .done)) [] [] rfl
    (have f0:=hy.len; Eq.mp (by kernel_rfl) (aI kV1 (aI (sk (aI (aT (@is_len Tryd.prog 24 5 (.tmp 3) (by kernel_rfl) y.wa y.wn y.wc)) (aI (aT (@is_geqn Tryd.prog 3 3 (.tmp 4) (.const (.int .i64 1))  y.wn 1)) (sk (aI (fun(hg:(sB (decide (1≤y.wn)) true)=true)=>t2) (aI (fun(hg:(sB (decide (1≤y.wn)) true)=true)=>have f1:(1≤y.wn):=(oT (sameB_t hg)); (aI (aI hg tV) (@is_len Tryd.prog 24 5 (.tmp 7) (by kernel_rfl) y.wa y.wn y.wc))) (aI (fun(hg:(sB (decide (1≤y.wn)) true)=true)=>(aI (aI hg tV) (@is_leqn Tryd.prog 3 3 (.tmp 8) (.const (.int .i64 1000))  y.wn 1000))) (aI (aT (aI (fun(hp:(decide (1≤y.wn))=true)=>(sameB_mk hp)) (fun(_:(decide (1≤y.wn))=false)=>tV))) kV1)))))))) (aT (eX (fun(ns:List Nat)=>ns.length=0∧((Value.bool (selB (decide (1≤y.wn)) (decide (y.wn≤1000)) false)):Value)=(fun _=>Value.bool (szB y.wn)) ns∧([]:List (Option Blk))=(fun _=>[]) ns) [] (aI (@rfl Nat 0) (aI ((show(Value.bool (selB (decide (1≤y.wn)) (decide (y.wn≤1000)) false))=Value.bool (szB y.wn) from congrArg Value.bool szB_sel)) (@rfl (List (Option Blk)) []))))))))
theorem add_1 (p:Nat) (X:PoR) (y:BytL) (hX:POk X) (hy:OkB y) (h1:szB y.wn=false):RunsO (famB y) Tryd.prog 14 [(ptr p 0),(Value.slice y.wa y.wn y.wc)] [some ⟨p,true,0,(.lit [(gsV X.A),(mpV X.Y)])⟩,(poH X),(poP X),(mpO X.Y)] 0 (fun _=>int 2) (fun _=>[some ⟨p,true,0,(.lit [(gsV X.A),(mpV X.Y)])⟩,(poH X),(poP X),(mpO X.Y)]) :=
  runsO_of_ev mix Tryd.func14 rfl rfl 400 (.reg (rg [.g]) (.reg (rg [.g,(.callF [] 0 0 (fun _=>(Value.bool (szB y.wn))) (fun _=>[])),.g,.g]) (.yes (.reg (rg [.g]) .done)))) [] [] rfl
    (have f0:=hy.len; have f1:=hX.len; Eq.mp (by kernel_rfl) (aI kV1 (aI (sk (aI (aT (sized_fam y hy)) kV2)) ((fun(hp1:(!(szB y.wn))=true)=>have f2:(szB y.wn)=false:=(bnot_t hp1); aT (aI hp1 (aI kV1 (aT (eX (fun(ns:List Nat)=>ns.length=0∧((int 2):Value)=(fun _=>int 2) ns∧([some ⟨p,true,0,(.lit [(gsV X.A),(mpV X.Y)])⟩,(poH X),(poP X),(mpO X.Y)]:List (Option Blk))=(fun _=>[some ⟨p,true,0,(.lit [(gsV X.A),(mpV X.Y)])⟩,(poH X),(poP X),(mpO X.Y)]) ns) [] (aI (@rfl Nat 0) (aI (@rfl Value (int 2)) (@rfl (List (Option Blk)) [some ⟨p,true,0,(.lit [(gsV X.A),(mpV X.Y)])⟩,(poH X),(poP X),(mpO X.Y)])))))))) (show(!(szB y.wn))=true from by rw [h1] <;> rfl)))))
theorem add_2 (p:Nat) (X:PoR) (y:BytL) (hX:POk X) (hy:OkB y) (h1:szB y.wn=true) (h2:(selB (inB X.A.f X.A.n y) true (hasP X.Y.l (strOf y.wf y.wn)))=true):RunsO (famB y) Tryd.prog 14 [(ptr p 0),(Value.slice y.wa y.wn y.wc)] [some ⟨p,true,0,(.lit [(gsV X.A),(mpV X.Y)])⟩,(poH X),(poP X),(mpO X.Y)] 0 (fun _=>int 13) (fun _=>[some ⟨p,true,0,(.lit [(gsV X.A),(mpV X.Y)])⟩,(poH X),(poP X),(mpO X.Y)]) :=
  runsO_of_ev mix Tryd.func14 rfl rfl 400 (.reg (rg [.g]) (.reg (rg [.g,(.callF [] 0 0 (fun _=>(Value.bool (szB y.wn))) (fun _=>[])),.g,.g]) (.no (.reg (rg [.g,.g,.g,(.ld 0 (.lit 0)),.g,(.callO [(1,true),(2,true)] 0 0 (fun _=>Value.bool (inB X.A.f X.A.n y)) (fun _=>[none,none])),.g,(.opt .g),(.opt .g),(.opt (.callO [(0,true),(3,true)] 0 0 (fun _=>Value.bool (hasP X.Y.l (strOf y.wf y.wn))) (fun _=>[none,none]))),.pk,.g]) (.yes (.reg (rg [.g]) .done)))))) [] [] rfl
    (have f0:=hy.len; have f1:=hX.len; Eq.mp (by kernel_rfl) (aI kV1 (aI (sk (aI (aT (sized_fam y hy)) kV2)) ((fun(hp1:(!(szB y.wn))=false)=>have f2:(szB y.wn)=true:=(bnot_f hp1); aT (aI hp1 (aI (sK3 (aI (aT (ad p 0)) (sk (aI (aT (has_X hX y hy)) (sk (aI (fun(hg:(sB (inB X.A.f X.A.n y) false)=true)=>t2) (aI (fun(hg:(sB (inB X.A.f X.A.n y) false)=true)=>t2) (aI (fun(hg:(sB (inB X.A.f X.A.n y) false)=true)=>(aI (aI hg (aI hg tV)) (was_run p (gsV X.A) X.Y hX.yok y hy))) (aI (aT (aI (fun(_:(inB X.A.f X.A.n y)=true)=>tV) (fun(hp:(inB X.A.f X.A.n y)=false)=>(sameB_mkf hp)))) kV1))))))))) ((fun(hp2:(selB (inB X.A.f X.A.n y) true (hasP X.Y.l (strOf y.wf y.wn)))=true)=>have f3:((inB X.A.f X.A.n y)=true)∨((hasP X.Y.l (strOf y.wf y.wn))=true):=(Or.imp (fun h=>h) (fun h=>h) (sbor_t hp2)); aT (aI hp2 (aI kV1 (aT (eX (fun(ns:List Nat)=>ns.length=0∧((int 13):Value)=(fun _=>int 13) ns∧([some ⟨p,true,0,(.lit [(gsV X.A),(mpV X.Y)])⟩,(poH X),(poP X),(mpO X.Y)]:List (Option Blk))=(fun _=>[some ⟨p,true,0,(.lit [(gsV X.A),(mpV X.Y)])⟩,(poH X),(poP X),(mpO X.Y)]) ns) [] (aI (@rfl Nat 0) (aI (@rfl Value (int 13)) (@rfl (List (Option Blk)) [some ⟨p,true,0,(.lit [(gsV X.A),(mpV X.Y)])⟩,(poH X),(poP X),(mpO X.Y)])))))))) (show(selB (inB X.A.f X.A.n y) true (hasP X.Y.l (strOf y.wf y.wn)))=true from by exact h2))))) (show(!(szB y.wn))=false from by rw [h1] <;> rfl)))))
theorem add_3 (p:Nat) (X:PoR) (y:BytL) (hX:POk X) (hy:OkB y) (h1:szB y.wn=true) (h2:(selB (inB X.A.f X.A.n y) true (hasP X.Y.l (strOf y.wf y.wn)))=false) (h3:X.A.n=30):RunsO (famB y) Tryd.prog 14 [(ptr p 0),(Value.slice y.wa y.wn y.wc)] [some ⟨p,true,0,(.lit [(gsV X.A),(mpV X.Y)])⟩,(poH X),(poP X),(mpO X.Y)] 0 (fun _=>int 52) (fun _=>[some ⟨p,true,0,(.lit [(gsV X.A),(mpV X.Y)])⟩,(poH X),(poP X),(mpO X.Y)]) :=
  runsO_of_ev mix Tryd.func14 rfl rfl 400 (.reg (rg [.g]) (.reg (rg [.g,(.callF [] 0 0 (fun _=>(Value.bool (szB y.wn))) (fun _=>[])),.g,.g]) (.no (.reg (rg [.g,.g,.g,(.ld 0 (.lit 0)),.g,(.callO [(1,true),(2,true)] 0 0 (fun _=>Value.bool (inB X.A.f X.A.n y)) (fun _=>[none,none])),.g,(.opt .g),(.opt .g),(.opt (.callO [(0,true),(3,true)] 0 0 (fun _=>Value.bool (hasP X.Y.l (strOf y.wf y.wn))) (fun _=>[none,none]))),.pk,.g]) (.no (.reg (rg [.g,.g,.g,(.ld 0 (.lit 0)),(.as (nat X.A.n)),(.as (Value.bool (decide (X.A.n=30)))),.g]) (.yes (.reg (rg [.g]) .done)))))))) [] [] rfl
    (have f0:=hy.len; have f1:=hX.len; Eq.mp (by kernel_rfl) (aI kV1 (aI (sk (aI (aT (sized_fam y hy)) kV2)) ((fun(hp1:(!(szB y.wn))=false)=>have f2:(szB y.wn)=true:=(bnot_f hp1); aT (aI hp1 (aI (sK3 (aI (aT (ad p 0)) (sk (aI (aT (has_X hX y hy)) (sk (aI (fun(hg:(sB (inB X.A.f X.A.n y) false)=true)=>t2) (aI (fun(hg:(sB (inB X.A.f X.A.n y) false)=true)=>t2) (aI (fun(hg:(sB (inB X.A.f X.A.n y) false)=true)=>(aI (aI hg (aI hg tV)) (was_run p (gsV X.A) X.Y hX.yok y hy))) (aI (aT (aI (fun(_:(inB X.A.f X.A.n y)=true)=>tV) (fun(hp:(inB X.A.f X.A.n y)=false)=>(sameB_mkf hp)))) kV1))))))))) ((fun(hp2:(selB (inB X.A.f X.A.n y) true (hasP X.Y.l (strOf y.wf y.wn)))=false)=>have f3:(inB X.A.f X.A.n y)=false:=(sbor_l hp2); have f4:(hasP X.Y.l (strOf y.wf y.wn))=false:=(sbor_r hp2); aT (aI hp2 (aI (sK3 (aI (aT (ad p 0)) (aI (aT (@is_len Tryd.prog 23 24 (.tmp 25) (by kernel_rfl) (gsA X.A) X.A.n (gsC X.A))) (aI (aT (@is_eqln Tryd.prog 3 3 (.tmp 26) (.const (.int .i64 30))  X.A.n 30)) kV1)))) ((fun(hp3:(decide (X.A.n=30))=true)=>have f5:=(oT hp3); aT (aI hp3 (aI kV1 (aT (eX (fun(ns:List Nat)=>ns.length=0∧((int 52):Value)=(fun _=>int 52) ns∧([some ⟨p,true,0,(.lit [(gsV X.A),(mpV X.Y)])⟩,(poH X),(poP X),(mpO X.Y)]:List (Option Blk))=(fun _=>[some ⟨p,true,0,(.lit [(gsV X.A),(mpV X.Y)])⟩,(poH X),(poP X),(mpO X.Y)]) ns) [] (aI (@rfl Nat 0) (aI (@rfl Value (int 52)) (@rfl (List (Option Blk)) [some ⟨p,true,0,(.lit [(gsV X.A),(mpV X.Y)])⟩,(poH X),(poP X),(mpO X.Y)])))))))) (show(decide (X.A.n=30))=true from by simp [h3]))))) (show(selB (inB X.A.f X.A.n y) true (hasP X.Y.l (strOf y.wf y.wn)))=false from by exact h2))))) (show(!(szB y.wn))=false from by rw [h1] <;> rfl)))))
theorem add_4 (p:Nat) (X:PoR) (y:BytL) (hX:POk X) (hy:OkB y) (h1:szB y.wn=true) (h2:(selB (inB X.A.f X.A.n y) true (hasP X.Y.l (strOf y.wf y.wn)))=false) (h3:X.A.n≠30):RunsO (famB y) Tryd.prog 14 [(ptr p 0),(Value.slice y.wa y.wn y.wc)] [some ⟨p,true,0,(.lit [(gsV X.A),(mpV X.Y)])⟩,(poH X),(poP X),(mpO X.Y)] 4 (fun(ns:List Nat)=>(int 0)) (fun(ns:List Nat)=>[some ⟨p,true,0,(.lit [(gsV ((addX X y (ns.getD 0 0) (ns.getD 1 0) (ns.getD 2 0) (ns.getD 3 0)).A)),(mpV X.Y)])⟩,(poH (addX X y (ns.getD 0 0) (ns.getD 1 0) (ns.getD 2 0) (ns.getD 3 0))),(poP (addX X y (ns.getD 0 0) (ns.getD 1 0) (ns.getD 2 0) (ns.getD 3 0))),(mpO X.Y)]) :=
  runsO_of_ev mix Tryd.func14 rfl rfl 400 (.reg (rg [.g]) (.reg (rg [.g,(.callF [] 0 0 (fun _=>(Value.bool (szB y.wn))) (fun _=>[])),.g,.g]) (.no (.reg (rg [.g,.g,.g,(.ld 0 (.lit 0)),.g,(.callO [(1,true),(2,true)] 0 0 (fun _=>Value.bool (inB X.A.f X.A.n y)) (fun _=>[none,none])),.g,(.opt .g),(.opt .g),(.opt (.callO [(0,true),(3,true)] 0 0 (fun _=>Value.bool (hasP X.Y.l (strOf y.wf y.wn))) (fun _=>[none,none]))),.pk,.g]) (.no (.reg (rg [.g,.g,.g,(.ld 0 (.lit 0)),(.as (nat X.A.n)),(.as (Value.bool (decide (X.A.n=30)))),.g]) (.no (.regn (rg [.g,.g,.g,.g,(.ld 0 (.lit 0)),.g,(.callF [] 2 1 (fun ns=>Value.slice (some ⟨ns.getD 0 0,0,none⟩) y.wn (y.wn+ns.getD 1 0)) (fun ns=>[some ⟨(ns.getD 0 0),true,0,(spr (y.wn+(ns.getD 1 0)) y.wn (fun k=>u8 (y.wf k)) (u8 0))⟩])),.bsl,(.othOB [(1,false),(5,true)] 2 0 (fun ns=>gsV (Grw.mk false (ns.getD 0 0) (X.A.n+1) (ns.getD 1 0) (catU X.A.f X.A.n X.A.f))) (fun bs ns=>[(gsE slqC [Value.slice none 0 0] 1 (Grw.mk false (ns.getD 0 0) (X.A.n+1) (ns.getD 1 0) (catU X.A.f X.A.n (fun _=>qOf (cellO bs 1))))),none])),.g,.g,(.st 0 (.lit 0))]) (more (fun n1=>more (fun n2=>more (fun n3=>more (fun n4=>more (fun n5=>fun _=>(.pack 4 2 (X.K+1) (plG (pcod X.c X.K n1) (pcod X.d X.K n2) (catU X.L X.K fun _=>y.wn) (catU X.f X.K fun _=>y.wf)) (.keep [] [0,1,2,3] 4 (.told ⟨[],[(0,some ⟨p,true,0,(.lit [(gsV ((addX X y n1 n2 n4 n5).A)),(mpV X.Y)])⟩),(1,(poH (addX X y n1 n2 n4 n5))),(2,(poP (addX X y n1 n2 n4 n5))),(3,(mpO X.Y))],4⟩ (.reg (rg [.g]) .done)))))))))))))))))) [] [] rfl
    (have f0:=hy.len; have f1:=hX.len; Eq.mp (by kernel_rfl) (aI kV1 (aI (sk (aI (aT (sized_fam y hy)) kV2)) ((fun(hp1:(!(szB y.wn))=false)=>have f2:(szB y.wn)=true:=(bnot_f hp1); aT (aI hp1 (aI (sK3 (aI (aT (ad p 0)) (sk (aI (aT (has_X hX y hy)) (sk (aI (fun(hg:(sB (inB X.A.f X.A.n y) false)=true)=>t2) (aI (fun(hg:(sB (inB X.A.f X.A.n y) false)=true)=>t2) (aI (fun(hg:(sB (inB X.A.f X.A.n y) false)=true)=>(aI (aI hg (aI hg tV)) (was_run p (gsV X.A) X.Y hX.yok y hy))) (aI (aT (aI (fun(_:(inB X.A.f X.A.n y)=true)=>tV) (fun(hp:(inB X.A.f X.A.n y)=false)=>(sameB_mkf hp)))) kV1))))))))) ((fun(hp2:(selB (inB X.A.f X.A.n y) true (hasP X.Y.l (strOf y.wf y.wn)))=false)=>have f3:(inB X.A.f X.A.n y)=false:=(sbor_l hp2); have f4:(hasP X.Y.l (strOf y.wf y.wn))=false:=(sbor_r hp2); aT (aI hp2 (aI (sK3 (aI (aT (ad p 0)) (aI (aT (@is_len Tryd.prog 23 24 (.tmp 25) (by kernel_rfl) (gsA X.A) X.A.n (gsC X.A))) (aI (aT (@is_eqln Tryd.prog 3 3 (.tmp 26) (.const (.int .i64 30))  X.A.n 30)) kV1)))) ((fun(hp3:(decide (X.A.n=30))=false)=>have f5:=(oF hp3); aT (aI hp3 (fun(n1 n2 n3 n4 n5:Nat)=>aI (sK4 (aI (aT (ad p 0)) (sk (aI (aT (clone_nn y hy (okb_some hy (szB_iff.1 h1).1) (Nat.le_trans (szB_iff.1 h1).2 (by decide)))) (aI (aT (mk_build (P:=Tryd.prog) (t:=23) (e:=24) one24 1 #[(0,(Value.slice (some ⟨n1,0,none⟩) y.wn (y.wn+n2)))] #[(Value.slice (some ⟨n1,0,none⟩) y.wn (y.wn+n2))] (by kernel_rfl) (by decide) (by kernel_rfl))) (aI (aT (mkG_catE (P:=Tryd.prog) (t:=23) (ty:=23) (e:=24) (by kernel_rfl) agg24 X.A hX.ok slqC_ok (fun _=>(qOf (Value.slice (some ⟨n1,0,none⟩) y.wn (y.wn+n2)))) 1 (some ⟨n3,0,none⟩) 1 (some ⟨n3,false,0,(.lit [(Value.slice (some ⟨n1,0,none⟩) y.wn (y.wn+n2))])⟩) (fun _=>⟨_,_,_,_,rfl,rfl,(lit_src (sz:=1) (l:=slqC (qOf (Value.slice (some ⟨n1,0,none⟩) y.wn (y.wn+n2)))) rfl)⟩) (show(X.A.n+1)*24≤140737488355328∧X.A.n+1≤9223372036854775807 from by omega))) (sK2 (aI (aT (ad p 0)) tV)))))))) (aI (pack_X (X:=X) (y:=y) (n1:=n1) (n2:=n2)) (aI (show(⟨[],[(0,some ⟨p,true,0,(.lit [(gsV (Grw.mk false n4 (X.A.n+1) n5 (catU X.A.f X.A.n (fun _=>(qOf (Value.slice (some ⟨n1,0,none⟩) y.wn (y.wn+n2))))))),(mpV X.Y)])⟩),(1,(gsE slqC [Value.slice none 0 0] 1 (Grw.mk false n4 (X.A.n+1) n5 (catU X.A.f X.A.n (fun _=>(qOf (Value.slice (some ⟨n1,0,none⟩) y.wn (y.wn+n2)))))))),(2,some ⟨n1,true,0,.pile (X.K+1) (plG (pcod X.c X.K n1) (pcod X.d X.K n2) (catU X.L X.K fun _=>y.wn) (catU X.f X.K fun _=>y.wf))⟩),(3,(mpO X.Y))],4⟩:St)=⟨[],[(0,some ⟨p,true,0,(.lit [(gsV ((addX X y n1 n2 n4 n5).A)),(mpV X.Y)])⟩),(1,(poH (addX X y n1 n2 n4 n5))),(2,(poP (addX X y n1 n2 n4 n5))),(3,(mpO X.Y))],4⟩ from by rw [pile_X,list_X (n1:=n1) (n2:=n2)] <;> rfl) (aI kV1 (aT (eX (fun(ns:List Nat)=>ns.length=4∧((int 0):Value)=(fun(ns:List Nat)=>(int 0)) ns∧([some ⟨p,true,0,(.lit [(gsV ((addX X y n1 n2 n4 n5).A)),(mpV X.Y)])⟩,(poH (addX X y n1 n2 n4 n5)),(poP (addX X y n1 n2 n4 n5)),(mpO X.Y)]:List (Option Blk))=(fun(ns:List Nat)=>[some ⟨p,true,0,(.lit [(gsV ((addX X y (ns.getD 0 0) (ns.getD 1 0) (ns.getD 2 0) (ns.getD 3 0)).A)),(mpV X.Y)])⟩,(poH (addX X y (ns.getD 0 0) (ns.getD 1 0) (ns.getD 2 0) (ns.getD 3 0))),(poP (addX X y (ns.getD 0 0) (ns.getD 1 0) (ns.getD 2 0) (ns.getD 3 0))),(mpO X.Y)]) ns) [n1,n2,n4,n5] (aI (@rfl Nat 4) (aI (@rfl Value (int 0)) (@rfl (List (Option Blk)) [some ⟨p,true,0,(.lit [(gsV ((addX X y n1 n2 n4 n5).A)),(mpV X.Y)])⟩,(poH (addX X y n1 n2 n4 n5)),(poP (addX X y n1 n2 n4 n5)),(mpO X.Y)]))))))))))) (show(decide (X.A.n=30))=false from by simp [h3]))))) (show(selB (inB X.A.f X.A.n y) true (hasP X.Y.l (strOf y.wf y.wn)))=false from by exact h2))))) (show(!(szB y.wn))=false from by rw [h1] <;> rfl)))))
theorem add_X (p:Nat) (X:PoR) (y:BytL) (hX:POk X) (hy:OkB y):RunsO (famB y) Tryd.prog 14 [ptr p 0,slqV y] (poS p X) 4 (fun _=>int (addE X y)) (fun ns=>poS p (adX X y (ns.getD 0 0) (ns.getD 1 0) (ns.getD 2 0) (ns.getD 3 0))):=by
  by_cases h1:szB y.wn=true
  · by_cases h2:(selB (inB X.A.f X.A.n y) true (hasP X.Y.l (strOf y.wf y.wn)))=true
    · have e:=addE_2 h1 h2
      simp only [e,adX_no (show addE X y≠0 by rw [e]; decide)]
      exact(add_2 p X y hX hy h1 h2).padS (poS_own p X)
    · have h2':(selB (inB X.A.f X.A.n y) true (hasP X.Y.l (strOf y.wf y.wn)))=false:=by simpa using h2
      by_cases h3:X.A.n=30
      · have e:=addE_3 h1 h2' h3
        simp only [e,adX_no (show addE X y≠0 by rw [e]; decide)]
        exact(add_3 p X y hX hy h1 h2' h3).padS (poS_own p X)
      · have e:=addE_4 h1 h2' h3
        simp only [e,adX_yes e]
        exact add_4 p X y hX hy h1 h2' h3
  · have h1':szB y.wn=false:=by simpa using h1
    have e:=addE_1 (X:=X) h1'
    simp only [e,adX_no (show addE X y≠0 by rw [e]; decide)]
    exact(add_1 p X y hX hy h1').padS (poS_own p X)
end Go.Proofs.YtnailbicmhkmbaaDoor
end
section
namespace Go.Eng
def wasP (Y:MpR) (e:Nat→BytL) (k:Nat):Bool:=hasP Y.l (strOf (e k).wf (e k).wn)
def wasL (l:List (ByteArray × Unit)) (e:Nat→BytL) (k:Nat):Bool:=hasP l (strOf (e k).wf (e k).wn)
def tabS (n:Nat) (f:Nat→BytL):Cont:=.tab n 1 fun k=>slqC (f k)
def padS (A:Grw BytL):Nat→BytL:=fun k=>if k < A.n then A.f k else bytZ none 0
theorem padS_in {A:Grw BytL} {k:Nat} (h:k < A.n):padS A k=A.f k:=if_pos h
theorem pad_row (A:Grw BytL):(fun k=>if k < A.n then slqC (A.f k) else [Value.slice none 0 0])=fun k=>slqC (padS A k):=funext fun k=>by
  unfold padS; by_cases h:k < A.n
  · rw [if_pos h,if_pos h]
  · rw [if_neg h,if_neg h]; rfl
theorem poH_row {X:PoR} (h:X.A.z=false):poH X=some ⟨X.A.nm,true,0,tabS (X.A.n+X.A.r) (padS X.A)⟩:=by
  unfold poH; rw [gsE_own h]
  show some (⟨X.A.nm,true,0,.tab (X.A.n+X.A.r) 1 fun k=>if k < X.A.n then slqC (X.A.f k) else [Value.slice none 0 0]⟩:Blk)=_
  rw [pad_row]; rfl
theorem kpF_congr {α:Type} {f g:Nat→α} {p:Nat→Bool} {n:Nat} (h:∀ k,k < n→f k=g k):∀ k,k≤n→∀ j,j < n→kpF f p k j=kpF g p k j
  | 0,_,j,hj=>h j hj
  | k+1,hk,j,hj=>by
    have ih:=kpF_congr (p:=p) h k (by omega)
    unfold kpF
    split
    · exact ih j hj
    · unfold upd; split
      · exact h k (by omega)
      · exact ih j hj
theorem POk.namesE {X:PoR} (h:POk X) {k:Nat} (hk:k < X.A.n) {z:Blk} (hz:famB (X.A.f k) z) (j:Nat) (hj:z.has j):∃ c,some c=roO (poP X)∧c.has j:=by
  obtain⟨i,hi,e⟩:=h.el k hk
  rw [e] at hz
  obtain⟨h0,rfl⟩:=hz
  cases hK:X.K with
  | zero=>omega
  | succ m =>
    refine⟨⟨decL X.c m,false,0,.pile (m+1) (plG X.c X.d X.L X.f)⟩,?_,?_⟩
    · unfold poP; rw [hK,plO_succ]; rfl
    · exact⟨i,_,by omega,show some (decL X.c i,_)=some (j,_) from by rw [show j=decL X.c i from hj.symm]⟩
def delX (X:PoR):PoR :=
  ⟨⟨X.A.z,X.A.nm,kpC (wasP X.Y X.A.f) X.A.n,X.A.r+(X.A.n - kpC (wasP X.Y X.A.f) X.A.n),kpF X.A.f (wasP X.Y X.A.f) X.A.n⟩,X.K,X.c,X.d,X.L,X.f,X.Y⟩
section
variable {X:PoR}
theorem delX_none (h:∀ k,k < X.A.n→wasP X.Y X.A.f k=false):delX X=X:=by
  obtain⟨⟨z,nm,n,r,f⟩,K,c,d,L,g,Y⟩:=X
  unfold delX
  simp only at h ⊢
  rw [kpC_all h,kpF_all h,Nat.sub_self,Nat.add_zero]
theorem delX_row (h:X.A.z=false):poH (delX X)=some ⟨X.A.nm,true,0,tabS (X.A.n+X.A.r) (clrF (kpF (padS X.A) (wasP X.Y X.A.f) X.A.n) (kpC (wasP X.Y X.A.f) X.A.n) (X.A.n - kpC (wasP X.Y X.A.f) X.A.n) (bytZ none 0))⟩:=by
  rw [poH_row (X:=delX X) h]
  have hc:=kpC_le (wasP X.Y X.A.f) X.A.n
  show some (⟨X.A.nm,true,0,tabS (kpC (wasP X.Y X.A.f) X.A.n+(X.A.r+(X.A.n - kpC (wasP X.Y X.A.f) X.A.n))) (padS (delX X).A)⟩:Blk)=_
  rw [show kpC (wasP X.Y X.A.f) X.A.n+(X.A.r+(X.A.n - kpC (wasP X.Y X.A.f) X.A.n))=X.A.n+X.A.r by omega]
  congr 3
  funext k
  unfold padS clrF
  by_cases hk:k < kpC (wasP X.Y X.A.f) X.A.n
  · rw [if_pos (show k < (delX X).A.n from hk),if_neg (by omega)]
    exact(kpF_congr (fun j hj=>padS_in hj) X.A.n (Nat.le_refl _) k (by omega)).symm
  · rw [if_neg (show ¬ k < (delX X).A.n from hk)]
    by_cases hn:k < X.A.n
    · rw [if_pos (by omega)]
    · rw [if_neg (by omega),kpF_out _ _ _ _ (by omega),if_neg hn]
theorem delX_V (h:X.A.z=false):gsV (delX X).A = .slice (some ⟨X.A.nm,0,none⟩) (kpC (wasP X.Y X.A.f) X.A.n) (X.A.n+X.A.r):=by
  have hc:=kpC_le (wasP X.Y X.A.f) X.A.n
  rw [gsV_own (A:=(delX X).A) h]
  show Value.slice (some ⟨X.A.nm,0,none⟩) (kpC (wasP X.Y X.A.f) X.A.n) (kpC (wasP X.Y X.A.f) X.A.n+(X.A.r+(X.A.n - kpC (wasP X.Y X.A.f) X.A.n)))=_
  rw [show kpC (wasP X.Y X.A.f) X.A.n+(X.A.r+(X.A.n - kpC (wasP X.Y X.A.f) X.A.n))=X.A.n+X.A.r by omega]
theorem delX_ok (h:POk X):POk (delX X) where
  ok:=fun hz=>by
    have h0:X.A.n=0:=h.ok hz
    have hc:=kpC_le (wasP X.Y X.A.f) X.A.n
    show kpC (wasP X.Y X.A.f) X.A.n=0
    omega
  yok:=h.yok
  el k hk:=by
    obtain⟨i,hi,_,e⟩:=kp_mem X.A.f (wasP X.Y X.A.f) X.A.n k hk
    obtain⟨j,hj,e2⟩:=h.el i hi
    exact⟨j,hj,e.trans e2⟩
  sz k hk:=by
    obtain⟨i,hi,_,e⟩:=kp_mem X.A.f (wasP X.Y X.A.f) X.A.n k hk
    show 1≤(kpF X.A.f (wasP X.Y X.A.f) X.A.n k).wn∧(kpF X.A.f (wasP X.Y X.A.f) X.A.n k).wn≤1000
    rw [e]; exact h.sz i hi
  len:=Nat.le_trans (kpC_le _ _) h.len
theorem kp_keepN {α:Type} {f F:Nat→α} {p:Nat→Bool} {i k:Nat} (hi:i=kpC p k) (hF:F=kpF f p k) (h:(!p k)=true):i+1=kpC p (k+1)∧upd F i (F k)=kpF f p (k+1):=kp_keep hi hF (by simpa using h)
theorem kp_dropN {α:Type} {f F:Nat→α} {p:Nat→Bool} {i k:Nat} (hi:i=kpC p k) (hF:F=kpF f p k) (h:(!p k)=false):i=kpC p (k+1)∧F=kpF f p (k+1):=kp_drop hi hF (by simpa using h)
theorem kp_at {F:Nat→BytL} {A:Grw BytL} {p:Nat→Bool} {k:Nat} (hF:F=kpF (padS A) p k) (hk:k < A.n):F k=A.f k:=by rw [hF,kpF_out _ _ _ _ (Nat.le_refl _),padS_in hk]
def putN (l:List (ByteArray × Unit)) (e:Nat→BytL):Nat→List (ByteArray × Unit)
  | 0=>l
  | k+1=>putE strK (strOf (e k).wf (e k).wn) () (putN l e k)
end
end Go.Eng
end
section
namespace Go.Eng
def setY (X:PoR) (Y:MpR):PoR:=⟨X.A,X.K,X.c,X.d,X.L,X.f,Y⟩
def donY (Y:MpR) (q:BytS) (m:Nat):MpR:=⟨false,if Y.z=true then m else Y.m,putN Y.l q.wf q.wn⟩
def donX (X:PoR) (q:BytS) (m:Nat):PoR:=delX (setY X (donY X.Y q m))
theorem setY_ok {X:PoR} {Y:MpR} (h:POk X) (hY:Y.ok):POk (setY X Y):=⟨h.ok,hY,h.el,h.sz,h.len⟩
theorem own_ok {m:Nat} {l:List (ByteArray × Unit)}:(MpR.mk false m l).ok:=fun h=>by cases h
theorem del_le {X:PoR}:(delX X).A.n≤X.A.n:=kpC_le _ _
theorem donX_ok {X:PoR} {q:BytS} {m:Nat} (h:POk X):POk (donX X q m):=delX_ok (setY_ok h own_ok)
theorem put_next {l S:List (ByteArray × Unit)} {e:Nat→BytL} {k:Nat} (h:S=putN l e k):putE strK (strOf (e k).wf (e k).wn) () S=putN l e (k+1):=by rw [h]; rfl
theorem eq_mapN {P:Program} {t k e:TypeId} (ht:P.underlying t=some (.map k e)) (o:Option Nat):pureRun P (Op.equal t (.map o) (.map none))=some (o.isNone):=by
  show pureRun P (Op.equalIn (9999+1) t (.map o) (.map none))=_
  unfold Op.equalIn; rw [pureRun_bind',pureRun_underlying ht]
  cases o <;> rfl
theorem is_eqlMap {P:Program} {t t' k e:TypeId} {x y:Operand} (ht:P.underlying t=some (.map k e)) (o:Option Nat):IsOp P (.binOp .eql t x y t') [.map o,.map none] (.bool o.isNone):=isOp_bin (by cases o <;> rfl) (by
  show pureRun P (do pure (Value.bool (← Op.equal t (.map o) (.map none))))=_
  rw [pureRun_bind',eq_mapN ht]; rfl)
end Go.Eng
end
section
namespace Go.Eng
def unB (e:Nat→BytL) (k:Nat):Bool:=!szB (e k).wn
def pkA (h:UInt64) (a r:Nat):Grw UInt8:=gsOf (smN h) (smB h) a r
def pkL (h:UInt64) (n:Nat) (e:Nat→BytL):Nat→Nat
  | 0=>smN h+smN (UInt64.ofNat n)
  | k+1=>pkL h n e k+byN (e k).wn
def pkF (h:UInt64) (n:Nat) (e:Nat→BytL):Nat→Nat→UInt8
  | 0=>catU (smB h) (smN h) (smB (UInt64.ofNat n))
  | k+1=>catU (pkF h n e k) (pkL h n e k) (byB (e k).wf (e k).wn)
def pkG (h:UInt64) (n:Nat) (e:Nat→BytL) (k a r:Nat):Grw UInt8:=gsOf (pkL h n e k) (pkF h n e k) a r
section
variable {h:UInt64} {n:Nat} {e:Nat→BytL} {k a r a' r':Nat}
theorem pkL_pos:2≤pkL h n e k:=by
  induction k with
  | zero=>have h1:=smN_rng h; have h2:=smN_rng (UInt64.ofNat n); show 2≤smN h+smN _; omega
  | succ k ih=>show 2≤pkL h n e k+_; omega
theorem pkL_le (hs:∀ i,i < k→(e i).wn≤1000):pkL h n e k≤18+1009*k:=by
  induction k with
  | zero=>have h1:=smN_rng h; have h2:=smN_rng (UInt64.ofNat n); show smN h+smN _≤_; omega
  | succ k ih =>
    have h1:=ih fun i hi=>hs i (by omega)
    have h2:=byN_rng (e k).wn
    have h3:=hs k (by omega)
    show pkL h n e k+byN (e k).wn≤_
    omega
theorem cat_gs {A:Grw UInt8} {m:Nat} {g:Nat→UInt8} (hm:0 < m):A.cat m g a r=gsOf (A.n+m) (catU A.f A.n g) a r:=by
  unfold Grw.cat gsOf
  rw [decide_eq_false (show ¬ m=0 by omega),decide_eq_false (show ¬ A.n+m=0 by omega)]
  rfl
theorem pk_nil:(Grw.mk true 0 0 0 (fun _=>0)).cat (smN h) (smB h) a r=pkA h a r:=by
  have h1:=smN_rng h
  rw [cat_gs (by omega)]
  show gsOf (0+smN h) (catU (fun _=>0) 0 (smB h)) a r=_
  rw [Nat.zero_add,catU_zero]; rfl
theorem pk_two:(pkA h a r).cat (smN (UInt64.ofNat n)) (smB (UInt64.ofNat n)) a' r'=pkG h n e 0 a' r':=by
  have h1:=smN_rng (UInt64.ofNat n)
  rw [cat_gs (by omega)]; rfl
theorem pk_cat:(pkG h n e k a r).cat (byN (e k).wn) (byB (e k).wf (e k).wn) a' r'=pkG h n e (k+1) a' r':=by
  have h1:=byN_rng (e k).wn
  rw [cat_gs (by omega)]; rfl
end
theorem pack_few {l:BytS} (h:(selB (decide (10 < l.wn)) true (anyK (unB l.wf) l.wn))=false):l.wn≤10∧∀ i,i < l.wn→1≤(l.wf i).wn∧(l.wf i).wn≤1000:=by
  rw [selB_or,Bool.or_eq_false_iff,decide_eq_false_iff_not] at h
  refine⟨by omega,fun i hi=>?_⟩
  have h2:=anyK_not h.2 i hi
  unfold unB at h2
  exact szB_iff.1 (by simpa using h2)
def pakE (l:BytS):Int:=if (selB (decide (10 < l.wn)) true (anyK (unB l.wf) l.wn))=true then 2 else if twB l.wf l.wn=true then 13 else 0
def pakG (h:UInt64) (l:BytS) (a r:Nat):Grw UInt8:=if pakE l=0 then pkG h l.wn l.wf l.wn a r else ⟨true,0,0,0,fun _=>0⟩
theorem pak_1 {l:BytS} (h:(selB (decide (10 < l.wn)) true (anyK (unB l.wf) l.wn))=true):pakE l=2:=by unfold pakE; rw [if_pos h]
theorem pak_2 {l:BytS} (h:(selB (decide (10 < l.wn)) true (anyK (unB l.wf) l.wn))=false) (h2:twB l.wf l.wn=true):pakE l=13:=by unfold pakE; rw [if_neg (by rw [h]; simp),if_pos h2]
theorem pak_0 {l:BytS} (h:(selB (decide (10 < l.wn)) true (anyK (unB l.wf) l.wn))=false) (h2:twB l.wf l.wn=false):pakE l=0:=by unfold pakE; rw [if_neg (by rw [h]; simp),if_neg (by rw [h2]; simp)]
theorem pakG_no {l:BytS} (h:pakE l≠0) (x:UInt64) (a r:Nat):pakG x l a r=⟨true,0,0,0,fun _=>0⟩:=by unfold pakG; rw [if_neg h]
theorem pakG_yes {l:BytS} (h:pakE l=0) (x:UInt64) (a r:Nat):pakG x l a r=pkG x l.wn l.wf l.wn a r:=by unfold pakG; rw [if_pos h]
end Go.Eng
end
section
namespace Go.Proofs.YtnailbicmhkmbaaDoor
open Go Go.Eng
def twice_fam_S1 (l:BytS) (x1:Nat):St:=⟨[(0,.v (Value.slice l.wa l.wn l.wc)),(5,.v (Value.slice l.wa l.wn l.wc)),(6,.v (nat l.wn)),(7,.v (nat x1))],[],0⟩
def twice_fam_R1 (l:BytS) (x1:Nat):Prop:=(x1≤l.wn)∧(∀ k,k < x1→(fun i=>inB l.wf i (l.wf i)) k=false)
def twice_fam_mu1 (l:BytS) (x1:Nat):Nat:=l.wn - x1
theorem twice_fam (l:BytS) (hl:OkS l):RunsF (famS l) Tryd.prog 20 [(Value.slice l.wa l.wn l.wc)] [] 0 (fun _=>Value.bool (twB l.wf l.wn)) (fun _=>[]) :=
  runsF_of_ev (F:=(famS l)) mix Tryd.func20 rfl rfl 400 (.reg (rg [.g]) (.reg (rg [.g,(.as (nat l.wn)),.g]) (.inv [0,5,6,7] [] 0 (twice_fam_R1 l) (twice_fam_S1 l) (twice_fam_mu1 l) (0:Nat) (fun(x1:Nat)=>(.reg (rg [(.as (Value.bool (decide (x1 < l.wn))))]) (.br (.openr (bysB l) (.reg (rg [.g,(.as (ptr l.wb (l.wo+x1*1))),(.ld 0 (.tab x1 0)),.g,.g]) (.reg (rg [.g,.g,(.as (Value.slice l.wa x1 l.wc)),.g,(.callF [] 0 0 (fun _=>(Value.bool (inB l.wf x1 (l.wf x1)))) (fun _=>[]))]) (.br (.reg (rg [.g]) .done) (.reg (rg [(.as (nat (x1+1))),.g]) .done))))) (.reg (rg [.g]) .done))))))) [] [] rfl
    (have f0:l.wn≤l.wc∧l.wn≤9223372036854775807:=⟨hl.cap,hl.len⟩; Eq.mp (by kernel_rfl) (aI kV1 (aI (sk (aI (aT (@is_len Tryd.prog 23 24 (.tmp 5) (by kernel_rfl) l.wa l.wn l.wc)) kV1)) (aI (show(twice_fam_R1 l) (0:Nat) from(show(0≤l.wn)∧(∀ k,k < 0→(fun i=>inB l.wf i (l.wf i)) k=false) from by exact⟨by omega,fun k hk=>absurd hk (by omega)⟩)) (aI (@rfl St ((twice_fam_S1 l) (0:Nat))) (fun(x1:Nat) (hx1:(twice_fam_R1 l) x1)=>have B0:x1≤l.wn:=hx1.1; have B1:∀ k,k < x1→(fun i=>inB l.wf i (l.wf i)) k=false:=hx1.2; aI (aI (aT (@is_lssn Tryd.prog 3 3 (.tmp 7) (.tmp 6)  x1 l.wn)) tV) (aT (aI (fun(h1:(decide (x1 < l.wn))=true)=>have f3:=(oT h1); aI (Or.inl ⟨(show 0 < l.wn from by omega),rfl⟩:famS l (bysB l)) (aI (sk (aI (aT (@is_ixSq Tryd.prog 23 24 (.tmp 5) (.tmp 7) 1 (by kernel_rfl) (by kernel_rfl) l.wb l.wo l.wn l.wc x1 l.wa (hl.ad (show 0 < l.wn from by omega)) (show x1 < l.wn from by omega))) (aI (aT (aI (show x1 < l.wn from by omega) (@rfl Value (ptr l.wb (l.wo+x1*1))))) kV2))) (aI (sK2 (aI (aT (@is_slqTo Tryd.prog 23 24 (.tmp 12) (.tmp 13) (by kernel_rfl) 1 (by kernel_rfl) l.wa l.wn l.wc x1 (show x1≤l.wc from by omega))) (sk (aI (aT (RunsF.lendP (F':=famS l) (sh_tw (show x1 < l.wn from by omega)) (nm_tw (show x1 < l.wn from by omega)) (has_fam (bysT l x1) (l.wf x1) (oks_to hl (Nat.le_of_lt (show x1 < l.wn from by omega))) (hl.el _ (show x1 < l.wn from by omega))))) tV)))) (aT (aI (fun(h2:(inB l.wf x1 (l.wf x1))=true)=>aI kV1 (aT (eX (fun(ns:List Nat)=>ns.length=0∧((Value.bool true):Value)=(fun _=>Value.bool (twB l.wf l.wn)) ns∧([]:List (Option Blk))=(fun _=>[]) ns) [] (aI (@rfl Nat 0) (aI ((show(Value.bool true)=Value.bool (twB l.wf l.wn) from congrArg Value.bool (by first | exact any_yes (by omega) (by assumption) | exact any_no (by omega) B1))) (@rfl (List (Option Blk)) [])))))) (fun(h2:(inB l.wf x1 (l.wf x1))=false)=>aI (aI (aT (@is_addn Tryd.prog 3 3 (.tmp 7) (.const (.int .i64 1))  x1 1 (show x1+1≤9223372036854775807 from by omega))) kV1) ((rnd (twice_fam_R1 l) (twice_fam_S1 l) (twice_fam_mu1 l) x1 (x1+1:Nat) (show(twice_fam_R1 l) (x1+1:Nat)∧(twice_fam_mu1 l) (x1+1:Nat) < (twice_fam_mu1 l) x1 from(show(((x1+1)≤l.wn)∧(∀ k,k < (x1+1)→(fun i=>inB l.wf i (l.wf i)) k=false))∧(l.wn - (x1+1)) < (l.wn - x1) from by exact⟨⟨by omega,any_next (p:=fun i=>inB l.wf i (l.wf i)) B1 (by assumption)⟩,by omega⟩)))))))))) (fun(h1:(decide (x1 < l.wn))=false)=>have f3:=(oF h1); aI kV1 (aT (eX (fun(ns:List Nat)=>ns.length=0∧((Value.bool false):Value)=(fun _=>Value.bool (twB l.wf l.wn)) ns∧([]:List (Option Blk))=(fun _=>[]) ns) [] (aI (@rfl Nat 0) (aI ((show(Value.bool false)=Value.bool (twB l.wf l.wn) from congrArg Value.bool (by first | exact any_yes (by omega) (by assumption) | exact any_no (by omega) B1))) (@rfl (List (Option Blk)) []))))))))))))))
theorem unsized_fam (y:BytL) (hy:OkB y):RunsF (famB y) Tryd.prog 18 [(Value.slice y.wa y.wn y.wc)] [] 0 (fun _=>Value.bool (!szB y.wn)) (fun _=>[]) :=
  runsF_of_ev (F:=(famB y)) mix Tryd.func18 rfl rfl 400 (.reg (rg [.g]) (.reg (rg [.g,(.callF [] 0 0 (fun _=>(Value.bool (szB y.wn))) (fun _=>[])),.g,.g]) .done)) [] [] rfl
    (have f0:=hy.len; Eq.mp (by kernel_rfl) (aI kV1 (aI (sk (aI (aT (sized_fam y hy)) kV2)) (aT (eX (fun(ns:List Nat)=>ns.length=0∧((Value.bool (!(szB y.wn))):Value)=(fun _=>Value.bool (!szB y.wn)) ns∧([]:List (Option Blk))=(fun _=>[]) ns) [] (aI (@rfl Nat 0) (aI (@rfl Value (Value.bool (!szB y.wn))) (@rfl (List (Option Blk)) []))))))))
def ixu_fam_S1 (l:BytS) (x1:Nat):St:=⟨[(0,.v (Value.slice l.wa l.wn l.wc)),(1,.v (Value.func (.func 18) #[] #[])),(7,.v (nat l.wn)),(8,.v (nat x1))],[],0⟩
def ixu_fam_R1 (l:BytS) (x1:Nat):Prop:=(x1≤l.wn)∧(∀ k,k < x1→unB l.wf k=false)
def ixu_fam_mu1 (l:BytS) (x1:Nat):Nat:=l.wn - x1
theorem ixu_fam (l:BytS) (hl:OkS l):RunsF (famS l) Tryd.prog 40 [(Value.slice l.wa l.wn l.wc),(Value.func (.func 18) #[] #[])] [] 0 (fun _=>int (idxF (unB l.wf) l.wn)) (fun _=>[]) :=
  runsF_of_ev (F:=(famS l)) mix Tryd.func40 rfl rfl 400 (.reg (rg [.g]) (.reg (rg [.g,(.as (nat l.wn)),.g]) (.inv [0,1,7,8] [] 0 (ixu_fam_R1 l) (ixu_fam_S1 l) (ixu_fam_mu1 l) (0:Nat) (fun(x1:Nat)=>(.reg (rg [(.as (Value.bool (decide (x1 < l.wn))))]) (.br (.reg (rg [.g,.g]) (.openr (bysB l) (.reg (rg [.g,.g,.g,(.as (ptr l.wb (l.wo+x1*1))),(.ld 0 (.tab x1 0)),(.callF [] 0 0 (fun _=>(Value.bool (unB l.wf x1))) (fun _=>[]))]) (.br (.reg (rg [.g,.g]) .done) (.reg (rg [(.as (nat (x1+1))),.g]) .done))))) (.reg (rg [.g]) .done))))))) [] [] rfl
    (have f0:l.wn≤l.wc∧l.wn≤9223372036854775807:=⟨hl.cap,hl.len⟩; Eq.mp (by kernel_rfl) (aI kV1 (aI (sk (aI (aT (@is_len Tryd.prog 23 24 (.tmp 6) (by kernel_rfl) l.wa l.wn l.wc)) kV1)) (aI (show(ixu_fam_R1 l) (0:Nat) from(show(0≤l.wn)∧(∀ k,k < 0→unB l.wf k=false) from by exact⟨by omega,fun k hk=>absurd hk (by omega)⟩)) (aI (@rfl St ((ixu_fam_S1 l) (0:Nat))) (fun(x1:Nat) (hx1:(ixu_fam_R1 l) x1)=>have B0:x1≤l.wn:=hx1.1; have B1:∀ k,k < x1→unB l.wf k=false:=hx1.2; aI (aI (aT (@is_lssn Tryd.prog 3 3 (.tmp 8) (.tmp 7)  x1 l.wn)) tV) (aT (aI (fun(h1:(decide (x1 < l.wn))=true)=>have f3:=(oT h1); aI kV2 (aI (Or.inl ⟨(show 0 < l.wn from by omega),rfl⟩:famS l (bysB l)) (aI (sK3 (aI (aT (@is_ixSq Tryd.prog 23 24 (.tmp 12) (.tmp 13) 1 (by kernel_rfl) (by kernel_rfl) l.wb l.wo l.wn l.wc x1 l.wa (hl.ad (show 0 < l.wn from by omega)) (show x1 < l.wn from by omega))) (aI (aT (aI (show x1 < l.wn from by omega) (@rfl Value (ptr l.wb (l.wo+x1*1))))) (aI (aT (RunsF.mono (s_el (show x1 < l.wn from by omega)) (unsized_fam (l.wf x1) (hl.el _ (show x1 < l.wn from by omega))))) tV)))) (aT (aI (fun(h2:(unB l.wf x1)=true)=>aI kV2 (aT (eX (fun(ns:List Nat)=>ns.length=0∧((nat x1):Value)=(fun _=>int (idxF (unB l.wf) l.wn)) ns∧([]:List (Option Blk))=(fun _=>[]) ns) [] (aI (@rfl Nat 0) (aI ((show(nat x1)=int (idxF (unB l.wf) l.wn) from by first | exact idx_ret (by omega) (by assumption) B1 | exact idx_end (by omega) B1)) (@rfl (List (Option Blk)) [])))))) (fun(h2:(unB l.wf x1)=false)=>aI (aI (aT (@is_addn Tryd.prog 3 3 (.tmp 8) (.const (.int .i64 1))  x1 1 (show x1+1≤9223372036854775807 from by omega))) kV1) ((rnd (ixu_fam_R1 l) (ixu_fam_S1 l) (ixu_fam_mu1 l) x1 (x1+1:Nat) (show(ixu_fam_R1 l) (x1+1:Nat)∧(ixu_fam_mu1 l) (x1+1:Nat) < (ixu_fam_mu1 l) x1 from(show(((x1+1)≤l.wn)∧(∀ k,k < (x1+1)→unB l.wf k=false))∧(l.wn - (x1+1)) < (l.wn - x1) from by exact⟨⟨by omega,any_next B1 (by assumption)⟩,by omega⟩)))))))))) (fun(h1:(decide (x1 < l.wn))=false)=>have f3:=(oF h1); aI kV1 (aT (eX (fun(ns:List Nat)=>ns.length=0∧((int (-1)):Value)=(fun _=>int (idxF (unB l.wf) l.wn)) ns∧([]:List (Option Blk))=(fun _=>[]) ns) [] (aI (@rfl Nat 0) (aI ((show(int (-1))=int (idxF (unB l.wf) l.wn) from by first | exact idx_ret (by omega) (by assumption) B1 | exact idx_end (by omega) B1)) (@rfl (List (Option Blk)) []))))))))))))))
theorem cnu_fam (l:BytS) (hl:OkS l):RunsF (famS l) Tryd.prog 17 [(Value.slice l.wa l.wn l.wc),(Value.func (.func 18) #[] #[])] [] 0 (fun _=>Value.bool (anyK (unB l.wf) l.wn)) (fun _=>[]) :=
  runsF_of_ev (F:=(famS l)) mix Tryd.func17 rfl rfl 400 (.reg (rg [.g]) (.reg (rg [.g,.g,(.callF [] 0 0 (fun _=>(int (idxF (unB l.wf) l.wn))) (fun _=>[])),.g,.g]) .done)) [] [] rfl
    (have f0:l.wn≤l.wc∧l.wn≤9223372036854775807:=⟨hl.cap,hl.len⟩; Eq.mp (by kernel_rfl) (aI kV1 (aI (sK2 (aI (aT (ixu_fam l hl)) kV2)) (aT (eX (fun(ns:List Nat)=>ns.length=0∧((Value.bool (decide (((idxF (unB l.wf) l.wn):Int) ≥ 0))):Value)=(fun _=>Value.bool (anyK (unB l.wf) l.wn)) ns∧([]:List (Option Blk))=(fun _=>[]) ns) [] (aI (@rfl Nat 0) (aI ((show(Value.bool (decide (((idxF (unB l.wf) l.wn):Int) ≥ 0)))=Value.bool (anyK (unB l.wf) l.wn) from congrArg Value.bool (idxF_ge _ _))) (@rfl (List (Option Blk)) []))))))))
theorem pk_w1 {F:Blk→Prop} (w:Nat) (h:UInt64):RunsO F Tryd.prog 21 [ptr w 0,u64 h] [some ⟨w,true,0,.lit [gsV (Grw.mk true 0 0 0 (fun _=>0):Grw UInt8)]⟩,gsE u8C [u8 0] 1 (Grw.mk true 0 0 0 (fun _=>0):Grw UInt8)] 2 (fun _=>.tuple #[]) (fun ns=>[some ⟨w,true,0,.lit [gsV (pkA h (ns.getD 0 0) (ns.getD 1 0))]⟩,gsE u8C [u8 0] 1 (pkA h (ns.getD 0 0) (ns.getD 1 0))]):=by
  have H:=wsmall_G (F:=F) w (Grw.mk true 0 0 0 (fun _=>0)) (fun _=>rfl) h (Nat.zero_le _)
  simp only [pk_nil] at H; exact H
theorem pk_w2 {F:Blk→Prop} (w:Nat) (h:UInt64) (n:Nat) (e:Nat→BytL) (a r:Nat):RunsO F Tryd.prog 21 [ptr w 0,u64 (UInt64.ofNat n)] [some ⟨w,true,0,.lit [gsV (pkA h a r)]⟩,gsE u8C [u8 0] 1 (pkA h a r)] 2 (fun _=>.tuple #[]) (fun ns=>[some ⟨w,true,0,.lit [gsV (pkG h n e 0 (ns.getD 0 0) (ns.getD 1 0))]⟩,gsE u8C [u8 0] 1 (pkG h n e 0 (ns.getD 0 0) (ns.getD 1 0))]):=by
  have H:=wsmall_G (F:=F) w (pkA h a r) (gsOf_ok _ _ _ _) (UInt64.ofNat n) (show smN h≤60000 by have:=smN_rng h; omega)
  simp only [pk_two (e:=e)] at H; exact H
theorem pk_wb (w:Nat) (h:UInt64) (n:Nat) (e:Nat→BytL) (k a r:Nat) (hk:OkB (e k)) (hs:(e k).wn≤1000) (hl:pkL h n e k≤60000):RunsO (famB (e k)) Tryd.prog 22 [ptr w 0,slqV (e k)] [some ⟨w,true,0,.lit [gsV (pkG h n e k a r)]⟩,gsE u8C [u8 0] 1 (pkG h n e k a r)] 2 (fun _=>.tuple #[]) (fun ns=>[some ⟨w,true,0,.lit [gsV (pkG h n e (k+1) (ns.getD 0 0) (ns.getD 1 0))]⟩,gsE u8C [u8 0] 1 (pkG h n e (k+1) (ns.getD 0 0) (ns.getD 1 0))]):=by
  have H:=wbytes_G (F:=fun _=>False) w (pkG h n e k a r) (gsOf_ok _ _ _ _) (e k) hk (Nat.le_trans hs (by decide)) hl
  simp only [pk_cat] at H; exact H
theorem pack_1 (h:UInt64) (l:BytS) (hl:OkS l) (h1:(selB (decide (10 < l.wn)) true (anyK (unB l.wf) l.wn))=true):RunsF (famS l) Tryd.prog 6 [(u64 h),(Value.slice l.wa l.wn l.wc)] [] 0 (fun _=>Value.tuple #[Value.slice none 0 0,int 2]) (fun _=>[]) :=
  runsF_of_ev (F:=(famS l)) mix Tryd.func6 rfl rfl 400 (.reg (rg [.g,.g]) (.reg (rg [.g,(.as (nat l.wn)),(.as (Value.bool (decide (10 < l.wn)))),.g,(.opt .g),(.opt (.callF [] 0 0 (fun _=>(Value.bool (anyK (unB l.wf) l.wn))) (fun _=>[]))),.pk]) (.yes (.reg (rg [.g,.g]) .done)))) [] [] rfl
    (have f0:l.wn≤l.wc∧l.wn≤9223372036854775807:=⟨hl.cap,hl.len⟩; Eq.mp (by kernel_rfl) (aI kV2 (aI (sk (aI (aT (@is_len Tryd.prog 23 24 (.tmp 9) (by kernel_rfl) l.wa l.wn l.wc)) (aI (aT (@is_gtrn Tryd.prog 3 3 (.tmp 10) (.const (.int .i64 10))  l.wn 10)) (sk (aI (fun(hg:(sB (decide (10 < l.wn)) false)=true)=>t2) (aI (fun(hg:(sB (decide (10 < l.wn)) false)=true)=>(aI (aI hg tV) (cnu_fam l hl))) (aI (aT (aI (fun(_:(decide (10 < l.wn))=true)=>tV) (fun(hp:(decide (10 < l.wn))=false)=>(sameB_mkf hp)))) tV))))))) ((fun(hp1:(selB (decide (10 < l.wn)) true (anyK (unB l.wf) l.wn))=true)=>have f1:((10 < l.wn))∨((anyK (unB l.wf) l.wn)=true):=(Or.imp (fun h=>(oT h)) (fun h=>h) (sbor_t hp1)); aT (aI hp1 (aI kV2 (aT (eX (fun(ns:List Nat)=>ns.length=0∧((Value.tuple #[(Value.slice none 0 0),(int 2)]):Value)=(fun _=>Value.tuple #[Value.slice none 0 0,int 2]) ns∧([]:List (Option Blk))=(fun _=>[]) ns) [] (aI (@rfl Nat 0) (aI (@rfl Value (Value.tuple #[Value.slice none 0 0,int 2])) (@rfl (List (Option Blk)) [])))))))) (show(selB (decide (10 < l.wn)) true (anyK (unB l.wf) l.wn))=true from by exact h1)))))
theorem pack_2 (h:UInt64) (l:BytS) (hl:OkS l) (h1:(selB (decide (10 < l.wn)) true (anyK (unB l.wf) l.wn))=false) (h2:twB l.wf l.wn=true):RunsF (famS l) Tryd.prog 6 [(u64 h),(Value.slice l.wa l.wn l.wc)] [] 0 (fun _=>Value.tuple #[Value.slice none 0 0,int 13]) (fun _=>[]) :=
  runsF_of_ev (F:=(famS l)) mix Tryd.func6 rfl rfl 400 (.reg (rg [.g,.g]) (.reg (rg [.g,(.as (nat l.wn)),(.as (Value.bool (decide (10 < l.wn)))),.g,(.opt .g),(.opt (.callF [] 0 0 (fun _=>(Value.bool (anyK (unB l.wf) l.wn))) (fun _=>[]))),.pk]) (.no (.reg (rg [.g,(.callF [] 0 0 (fun _=>(Value.bool (twB l.wf l.wn))) (fun _=>[]))]) (.yes (.reg (rg [.g,.g]) .done)))))) [] [] rfl
    (have f0:l.wn≤l.wc∧l.wn≤9223372036854775807:=⟨hl.cap,hl.len⟩; Eq.mp (by kernel_rfl) (aI kV2 (aI (sk (aI (aT (@is_len Tryd.prog 23 24 (.tmp 9) (by kernel_rfl) l.wa l.wn l.wc)) (aI (aT (@is_gtrn Tryd.prog 3 3 (.tmp 10) (.const (.int .i64 10))  l.wn 10)) (sk (aI (fun(hg:(sB (decide (10 < l.wn)) false)=true)=>t2) (aI (fun(hg:(sB (decide (10 < l.wn)) false)=true)=>(aI (aI hg tV) (cnu_fam l hl))) (aI (aT (aI (fun(_:(decide (10 < l.wn))=true)=>tV) (fun(hp:(decide (10 < l.wn))=false)=>(sameB_mkf hp)))) tV))))))) ((fun(hp1:(selB (decide (10 < l.wn)) true (anyK (unB l.wf) l.wn))=false)=>have f1:¬ (10 < l.wn):=(oF (sbor_l hp1)); have f2:(anyK (unB l.wf) l.wn)=false:=(sbor_r hp1); aT (aI hp1 (aI (sk (aI (aT (twice_fam l hl)) tV)) ((fun(hp2:(twB l.wf l.wn)=true)=>aT (aI hp2 (aI kV2 (aT (eX (fun(ns:List Nat)=>ns.length=0∧((Value.tuple #[(Value.slice none 0 0),(int 13)]):Value)=(fun _=>Value.tuple #[Value.slice none 0 0,int 13]) ns∧([]:List (Option Blk))=(fun _=>[]) ns) [] (aI (@rfl Nat 0) (aI (@rfl Value (Value.tuple #[Value.slice none 0 0,int 13])) (@rfl (List (Option Blk)) [])))))))) (show(twB l.wf l.wn)=true from by exact h2))))) (show(selB (decide (10 < l.wn)) true (anyK (unB l.wf) l.wn))=false from by exact h1)))))
def pack_0_S1 (h:UInt64) (l:BytS) (n1:Nat) (n2:Nat) (n3:Nat) (n4:Nat) (n5:Nat) (x1:Nat × Nat × Nat):St:=⟨[(6,.v (ptr n1 0)),(24,.v (Value.slice l.wa l.wn l.wc)),(25,.v (nat l.wn)),(26,.v (nat x1.1))],[(0,some ⟨n1,true,0,(.lit [(gsV (pkG h l.wn l.wf x1.1 x1.2.1 x1.2.2))])⟩),(1,(gsE u8C [u8 0] 1 (pkG h l.wn l.wf x1.1 x1.2.1 x1.2.2)))],2⟩
def pack_0_R1 (h:UInt64) (l:BytS) (n1:Nat) (n2:Nat) (n3:Nat) (n4:Nat) (n5:Nat) (x1:Nat × Nat × Nat):Prop:=(x1.1≤l.wn)
def pack_0_mu1 (h:UInt64) (l:BytS) (n1:Nat) (n2:Nat) (n3:Nat) (n4:Nat) (n5:Nat) (x1:Nat × Nat × Nat):Nat:=l.wn - x1.1
theorem pack_0 (h:UInt64) (l:BytS) (hl:OkS l) (h1:(selB (decide (10 < l.wn)) true (anyK (unB l.wf) l.wn))=false) (h2:twB l.wf l.wn=false):RunsO (famS l) Tryd.prog 6 [(u64 h),(Value.slice l.wa l.wn l.wc)] [] 2 (fun(ns:List Nat)=>(Value.tuple #[(gsV (pkG h l.wn l.wf l.wn (ns.getD 0 0) (ns.getD 1 0))),(int 0)])) (fun(ns:List Nat)=>[(gsE u8C [u8 0] 1 (pkG h l.wn l.wf l.wn (ns.getD 0 0) (ns.getD 1 0)))]) :=
  runsO_of_ev mix Tryd.func6 rfl rfl 400 (.reg (rg [.g,.g]) (.reg (rg [.g,(.as (nat l.wn)),(.as (Value.bool (decide (10 < l.wn)))),.g,(.opt .g),(.opt (.callF [] 0 0 (fun _=>(Value.bool (anyK (unB l.wf) l.wn))) (fun _=>[]))),.pk]) (.no (.reg (rg [.g,(.callF [] 0 0 (fun _=>(Value.bool (twB l.wf l.wn))) (fun _=>[]))]) (.no (.regn (rg [.new]) (more (fun n1=>fun _=>(.keep [0,1,6] [0,1] 2 (.told ⟨[(0,.v (u64 h)),(1,.v (Value.slice l.wa l.wn l.wc)),(6,.v (ptr n1 0))],[(0,some ⟨n1,true,0,(.lit [(gsV (Grw.mk true 0 0 0 (fun _=>0)))])⟩),(1,(gsE u8C [u8 0] 1 (Grw.mk true 0 0 0 (fun _=>0))))],2⟩ (.regn (rg [.g,(.callO [(0,false),(1,false)] 2 0 (fun _=>(Value.tuple #[])) (fun ns=>[some ⟨n1,true,0,.lit [gsV (pkA h (ns.getD 0 0) (ns.getD 1 0))]⟩,(gsE u8C [u8 0] 1 (pkA h (ns.getD 0 0) (ns.getD 1 0)))]))]) (more (fun n2=>more (fun n3=>fun _=>(.regn (rg [.g,(.as (nat l.wn)),(.as (u64 (UInt64.ofNat l.wn))),(.callO [(0,false),(1,false)] 2 0 (fun _=>(Value.tuple #[])) (fun ns=>[some ⟨n1,true,0,.lit [gsV (pkG h l.wn l.wf 0 (ns.getD 0 0) (ns.getD 1 0))]⟩,(gsE u8C [u8 0] 1 (pkG h l.wn l.wf 0 (ns.getD 0 0) (ns.getD 1 0)))]))]) (more (fun n4=>more (fun n5=>fun _=>(.reg (rg [.g,(.as (nat l.wn)),.g]) (.inv [6,24,25,26] [0,1] 2 (pack_0_R1 h l n1 n2 n3 n4 n5) (pack_0_S1 h l n1 n2 n3 n4 n5) (pack_0_mu1 h l n1 n2 n3 n4 n5) ((0,n4,n5):Nat × Nat × Nat) (fun(x1:Nat × Nat × Nat)=>(.reg (rg [(.as (Value.bool (decide (x1.1 < l.wn))))]) (.br (.openr (bysB l) (.reg (rg [(.as (ptr l.wb (l.wo+x1.1*1))),(.ld 2 (.tab x1.1 0)),.g]) (.regn (rg [.g,(.callO [(0,false),(1,false)] 2 0 (fun _=>(Value.tuple #[])) (fun ns=>[some ⟨n1,true,0,.lit [gsV (pkG h l.wn l.wf (x1.1+1) (ns.getD 0 0) (ns.getD 1 0))]⟩,(gsE u8C [u8 0] 1 (pkG h l.wn l.wf (x1.1+1) (ns.getD 0 0) (ns.getD 1 0)))]))]) (more (fun n6=>more (fun n7=>fun _=>(.reg (rg [(.as (nat (x1.1+1))),.g]) .done))))))) (.keep [6] [0,1] 2 (.told ⟨[(6,.v (ptr n1 0))],[(0,some ⟨n1,true,0,(.lit [(gsV (pkG h l.wn l.wf l.wn x1.2.1 x1.2.2))])⟩),(1,(gsE u8C [u8 0] 1 (pkG h l.wn l.wf l.wn x1.2.1 x1.2.2)))],2⟩ (.regn (rg [(.callO [(0,true),(1,true)] 2 1 (fun ns=>gsV (pkG h l.wn l.wf l.wn (ns.getD 0 0) (ns.getD 1 0))) (fun ns=>[none,none,(gsE u8C [u8 0] 1 (pkG h l.wn l.wf l.wn (ns.getD 0 0) (ns.getD 1 0)))])),.g,.g]) (more (fun n8=>more (fun n9=>fun _=>.done))))))))))))))))))))))))))))) [] [2] rfl
    (have f0:l.wn≤l.wc∧l.wn≤9223372036854775807:=⟨hl.cap,hl.len⟩; Eq.mp (by kernel_rfl) (aI kV2 (aI (sk (aI (aT (@is_len Tryd.prog 23 24 (.tmp 9) (by kernel_rfl) l.wa l.wn l.wc)) (aI (aT (@is_gtrn Tryd.prog 3 3 (.tmp 10) (.const (.int .i64 10))  l.wn 10)) (sk (aI (fun(hg:(sB (decide (10 < l.wn)) false)=true)=>t2) (aI (fun(hg:(sB (decide (10 < l.wn)) false)=true)=>(aI (aI hg tV) (cnu_fam l hl))) (aI (aT (aI (fun(_:(decide (10 < l.wn))=true)=>tV) (fun(hp:(decide (10 < l.wn))=false)=>(sameB_mkf hp)))) tV))))))) ((fun(hp1:(selB (decide (10 < l.wn)) true (anyK (unB l.wf) l.wn))=false)=>have f1:¬ (10 < l.wn):=(oF (sbor_l hp1)); have f2:(anyK (unB l.wf) l.wn)=false:=(sbor_r hp1); aT (aI hp1 (aI (sk (aI (aT (twice_fam l hl)) tV)) ((fun(hp2:(twB l.wf l.wn)=false)=>aT (aI hp2 (fun(n1:Nat)=>aI kV1 (aI (@rfl St ⟨[(0,.v (u64 h)),(1,.v (Value.slice l.wa l.wn l.wc)),(6,.v (ptr n1 0))],[(0,some ⟨n1,true,0,(.lit [(Value.slice none 0 0)])⟩),(1,none)],2⟩) (fun(n2 n3:Nat)=>aI (sk (aI (aT (pk_w1 (F:=(famS l)) n1 h)) tV)) (fun(n4 n5:Nat)=>aI (sk (aI (aT (@is_len Tryd.prog 23 24 (.tmp 20) (by kernel_rfl) l.wa l.wn l.wc)) (aI (aT (@conv_int_u64 Tryd.prog 3 22 (.tmp 21) (by kernel_rfl) (by kernel_rfl) l.wn)) (aI (aT (pk_w2 (F:=(famS l)) n1 h l.wn l.wf n2 n3)) tV)))) (aI (sk (aI (aT (@is_len Tryd.prog 23 24 (.tmp 24) (by kernel_rfl) l.wa l.wn l.wc)) kV1)) (aI (show(pack_0_R1 h l n1 n2 n3 n4 n5) ((0,n4,n5):Nat × Nat × Nat) from(show(0≤l.wn) from by exact Nat.zero_le _)) (aI (@rfl St ((pack_0_S1 h l n1 n2 n3 n4 n5) ((0,n4,n5):Nat × Nat × Nat))) (fun(x1:Nat × Nat × Nat) (hx1:(pack_0_R1 h l n1 n2 n3 n4 n5) x1)=>have B0:x1.1≤l.wn:=hx1; aI (aI (aT (@is_lssn Tryd.prog 3 3 (.tmp 26) (.tmp 25)  x1.1 l.wn)) tV) (aT (aI (fun(h3:(decide (x1.1 < l.wn))=true)=>have f5:=(oT h3); aI (Or.inl ⟨(show 0 < l.wn from by omega),rfl⟩:famS l (bysB l)) (aI (aI (aT (@is_ixSq Tryd.prog 23 24 (.tmp 24) (.tmp 26) 1 (by kernel_rfl) (by kernel_rfl) l.wb l.wo l.wn l.wc x1.1 l.wa (hl.ad (show 0 < l.wn from by omega)) (show x1.1 < l.wn from by omega))) (aI (aT (aI (show x1.1 < l.wn from by omega) (@rfl Value (ptr l.wb (l.wo+x1.1*1))))) kV1)) (fun(n6 n7:Nat)=>aI (sk (aI (aT (RunsO.mono (s_el (show x1.1 < l.wn from by omega)) (pk_wb n1 h l.wn l.wf x1.1 x1.2.1 x1.2.2 (hl.el _ (show x1.1 < l.wn from by omega)) ((pack_few h1).2 _ (show x1.1 < l.wn from by omega)).2 (Nat.le_trans (pkL_le fun i hi=>((pack_few h1).2 i (Nat.lt_trans hi (show x1.1 < l.wn from by omega))).2) (by have h3:=(pack_few h1).1; have h4:=(show x1.1 < l.wn from by omega); omega))))) tV)) (aI (aI (aT (@is_addn Tryd.prog 3 3 (.tmp 26) (.const (.int .i64 1))  x1.1 1 (show x1.1+1≤9223372036854775807 from by omega))) kV1) ((rnd (pack_0_R1 h l n1 n2 n3 n4 n5) (pack_0_S1 h l n1 n2 n3 n4 n5) (pack_0_mu1 h l n1 n2 n3 n4 n5) x1 ((x1.1+1,n6,n7):Nat × Nat × Nat) (show(pack_0_R1 h l n1 n2 n3 n4 n5) ((x1.1+1,n6,n7):Nat × Nat × Nat)∧(pack_0_mu1 h l n1 n2 n3 n4 n5) ((x1.1+1,n6,n7):Nat × Nat × Nat) < (pack_0_mu1 h l n1 n2 n3 n4 n5) x1 from(show(((x1.1+1)≤l.wn))∧(l.wn - (x1.1+1)) < (l.wn - x1.1) from by exact⟨by omega,by omega⟩)))))))) (fun(h3:(decide (x1.1 < l.wn))=false)=>have f5:=(oF h3); aI (show(⟨[(6,.v (ptr n1 0))],[(0,some ⟨n1,true,0,(.lit [(gsV (pkG h l.wn l.wf x1.1 x1.2.1 x1.2.2))])⟩),(1,(gsE u8C [u8 0] 1 (pkG h l.wn l.wf x1.1 x1.2.1 x1.2.2)))],2⟩:St)=⟨[(6,.v (ptr n1 0))],[(0,some ⟨n1,true,0,(.lit [(gsV (pkG h l.wn l.wf l.wn x1.2.1 x1.2.2))])⟩),(1,(gsE u8C [u8 0] 1 (pkG h l.wn l.wf l.wn x1.2.1 x1.2.2)))],2⟩ from by have e:x1.1=l.wn:=(by omega); rw [e]) (fun(n8 n9:Nat)=>aI (aI (aT (wout_G (F:=(famS l)) n1 (pkG h l.wn l.wf l.wn x1.2.1 x1.2.2) (gsOf_ok _ _ _ _) (fun _=>Nat.lt_of_lt_of_le (by decide) (pkL_pos (h:=h) (n:=l.wn) (e:=l.wf) (k:=l.wn))) (Nat.le_trans (pkL_le (h:=h) (n:=l.wn) (e:=l.wf) (k:=l.wn) fun i hi=>((pack_few h1).2 i hi).2) (by have h3:=(pack_few h1).1; omega)))) kV2) (aT (eX (fun(ns:List Nat)=>ns.length=2∧((Value.tuple #[(gsV (pkG h l.wn l.wf l.wn n8 n9)),(int 0)]):Value)=(fun(ns:List Nat)=>(Value.tuple #[(gsV (pkG h l.wn l.wf l.wn (ns.getD 0 0) (ns.getD 1 0))),(int 0)])) ns∧([(gsE u8C [u8 0] 1 (pkG h l.wn l.wf l.wn n8 n9))]:List (Option Blk))=(fun(ns:List Nat)=>[(gsE u8C [u8 0] 1 (pkG h l.wn l.wf l.wn (ns.getD 0 0) (ns.getD 1 0)))]) ns) [n8,n9] (aI (@rfl Nat 2) (aI (@rfl Value (Value.tuple #[(gsV (pkG h l.wn l.wf l.wn n8 n9)),(int 0)])) (@rfl (List (Option Blk)) [(gsE u8C [u8 0] 1 (pkG h l.wn l.wf l.wn n8 n9))]))))))))))))))))))) (show(twB l.wf l.wn)=false from by exact h2))))) (show(selB (decide (10 < l.wn)) true (anyK (unB l.wf) l.wn))=false from by exact h1)))))
theorem pack_run (h:UInt64) (l:BytS) (hl:OkS l):RunsO (famS l) Tryd.prog 6 [u64 h,slqS l] [] 2 (fun ns=>.tuple #[gsV (pakG h l (ns.getD 0 0) (ns.getD 1 0)),int (pakE l)]) (fun ns=>[gsE u8C [u8 0] 1 (pakG h l (ns.getD 0 0) (ns.getD 1 0))]):=by
  by_cases h1:(selB (decide (10 < l.wn)) true (anyK (unB l.wf) l.wn))=true
  · have e:=pak_1 h1
    simp only [e,pakG_no (show pakE l≠0 by rw [e]; decide)]
    exact(pack_1 h l hl h1).toO.as (.refl _) (fun _=>[0,0]) fun ns _=>⟨rfl,rfl,.dn (.zz _),tV⟩
  · have h1':(selB (decide (10 < l.wn)) true (anyK (unB l.wf) l.wn))=false:=by simpa using h1
    by_cases h2:twB l.wf l.wn=true
    · have e:=pak_2 h1' h2
      simp only [e,pakG_no (show pakE l≠0 by rw [e]; decide)]
      exact(pack_2 h l hl h1' h2).toO.as (.refl _) (fun _=>[0,0]) fun ns _=>⟨rfl,rfl,.dn (.zz _),tV⟩
    · have h2':twB l.wf l.wn=false:=by simpa using h2
      have e:=pak_0 h1' h2'
      simp only [e,pakG_yes e]
      exact pack_0 h l hl h1' h2'
end Go.Proofs.YtnailbicmhkmbaaDoor
end
section
namespace Go.Eng
def usS (Q:BytL) (E:Int):Nat→BytL × Int
  | 0=>(Q,E)
  | k+1=>(rbQ (usS Q E k).1 (usS Q E k).2 1000,rbE (usS Q E k).1 (usS Q E k).2 1000)
def usN (Q:BytL) (E:Int) (k:Nat):Nat:=rbN (usS Q E k).1 (usS Q E k).2 1000
def usW (Q:BytL) (E:Int) (k:Nat):Nat→UInt8:=(ctQ (usS Q E k).1 (usS Q E k).2 1000).wf
def usV (Q:BytL) (E:Int) (c d k:Nat):BytL:=rbV (usS Q E k).1 (usS Q E k).2 1000 (decL c k) (decL d k)
def gU (Q:BytL) (E:Int) (c d k:Nat):Nat→Option (Nat × Piece):=fun i=>if i < k∧0 < usN Q E i then some (decL c i,sprP (usN Q E i) (decL d i) (usW Q E i)) else none
def lastU (Q:BytL) (E:Int):Nat→Option Nat
  | 0=>none
  | k+1=>if 0 < usN Q E k then some k else lastU Q E k
def plU (Q:BytL) (E:Int) (c d k:Nat):Option Blk:=match lastU Q E k with
  | none=>none
  | some m=>some ⟨decL c m,true,0,.pile 10 (gU Q E c d k)⟩
section
variable {Q:BytL} {E:Int} {c d k n1 n2:Nat}
theorem lastU_lt:∀ {k m:Nat},lastU Q E k=some m→m < k∧0 < usN Q E m
  | 0,m,h=>by cases h
  | k+1,m,h=>by
    unfold lastU at h
    split at h
    · rename_i h0
      injection h with h; subst h
      exact⟨Nat.lt_succ_self _,h0⟩
    · obtain⟨h1,h2⟩:=lastU_lt (k:=k) h
      exact⟨by omega,h2⟩
theorem lastU_some:∀ {k i:Nat},i < k→0 < usN Q E i→∃ m,lastU Q E k=some m
  | 0,i,h,_=>absurd h (Nat.not_lt_zero i)
  | k+1,i,h,h0=>by
    unfold lastU
    split
    · exact⟨k,rfl⟩
    · rename_i hk
      by_cases e:i=k
      · subst e; exact absurd h0 hk
      · exact lastU_some (k:=k) (by omega) h0
theorem plU_yes (h0:0 < usN Q E k):plU Q E (pcod c k n1) (pcod d k n2) (k+1)=some ⟨n1,true,0,.pile 10 (gU Q E (pcod c k n1) (pcod d k n2) (k+1))⟩:=by
  unfold plU
  rw [show lastU Q E (k+1)=some k from if_pos h0]
  show some (⟨decL (pcod c k n1) k,true,0,_⟩:Blk)=_
  rw [pcod_new]
theorem gU_old {i:Nat} (hi:i < k):gU Q E (pcod c k n1) (pcod d k n2) (k+1) i=gU Q E c d k i:=by
  unfold gU
  rw [pcod_old hi,pcod_old hi]
  by_cases h:0 < usN Q E i
  · rw [if_pos ⟨by omega,h⟩,if_pos ⟨hi,h⟩]
  · rw [if_neg (fun e=>h e.2),if_neg (fun e=>h e.2)]
theorem plU_no (h0:¬ 0 < usN Q E k):plU Q E (pcod c k n1) (pcod d k n2) (k+1)=plU Q E c d k:=by
  have hg:gU Q E (pcod c k n1) (pcod d k n2) (k+1)=gU Q E c d k:=funext fun i=>by
    by_cases hi:i < k
    · exact gU_old hi
    · unfold gU
      have h1:¬ (i < k+1∧0 < usN Q E i):=fun e=>by
        by_cases hk:i=k
        · subst hk; exact h0 e.2
        · have:=e.1; omega
      rw [if_neg h1,if_neg (fun e=>hi e.1)]
  unfold plU
  rw [show lastU Q E (k+1)=lastU Q E k from if_neg h0,hg]
  cases e:lastU Q E k with
  | none=>rfl
  | some m=>show some (⟨decL (pcod c k n1) m,true,0,_⟩:Blk)=some ⟨decL c m,true,0,_⟩; rw [pcod_old (lastU_lt e).1]
theorem pack_U (h0:0 < usN Q E k):PackOk (plU Q E c d k) ⟨n1,true,0,spr (usN Q E k+n2) (usN Q E k) (fun j=>u8 (usW Q E k j)) (u8 0)⟩ 10 (gU Q E (pcod c k n1) (pcod d k n2) (k+1)):=by
  intro i j pc hi hg
  by_cases hik:i < k
  · left
    rw [gU_old hik] at hg
    have hp:0 < usN Q E i:=by
      unfold gU at hg
      by_cases h:0 < usN Q E i
      · exact h
      · rw [if_neg (fun e=>h e.2)] at hg; cases hg
    obtain⟨m,hm⟩:=lastU_some hik hp
    exact⟨_,_,_,i,by unfold plU; rw [hm],rfl,rfl,hi,hg⟩
  · right
    unfold gU at hg
    split at hg
    · rename_i h
      have:i=k:=by omega
      subst this
      injection hg with hg
      injection hg with h1 h2
      rw [pcod_new] at h1 h2
      refine⟨h1.symm,.inl ?_⟩
      rw [← h2]; rfl
    · cases hg
theorem usV_ok (hl:∀ k,usN Q E k≤9223372036854775807):OkB (usV Q E c d k):=rbV_ok (hl k)
theorem usV_old {i:Nat} (hi:i < k):usV Q E (pcod c k n1) (pcod d k n2) i=usV Q E c d i:=by unfold usV; rw [pcod_old hi,pcod_old hi]
theorem usV_new:usV Q E (pcod c k n1) (pcod d k n2) k=rbV (usS Q E k).1 (usS Q E k).2 1000 n1 n2:=by unfold usV; rw [pcod_new,pcod_new]
theorem list_U {A : Grw BytL} (hz : A.z = false) (hn : A.n = k + 1) (hA : A.f = catU (usV Q E c d) k fun _ => qOf (slqV (rbV (usS Q E k).1 (usS Q E k).2 1000 n1 n2))) :
    gsV A=gsV (gsOf (k+1) (usV Q E (pcod c k n1) (pcod d k n2)) A.nm A.r)∧gsE slqC [Value.slice none 0 0] 1 A=gsE slqC [Value.slice none 0 0] 1 (gsOf (k+1) (usV Q E (pcod c k n1) (pcod d k n2)) A.nm A.r) :=
  gs_tellC hn (by rw [hz,decide_eq_false (by omega)]) fun j hj=>by
    rw [hA]
    unfold catU
    by_cases h:j < k
    · rw [if_pos h,usV_old h]
    · have:j=k:=by omega
      subst this
      rw [if_neg h,usV_new]; rfl
end
end Go.Eng
end
section
namespace Go.Eng
structure RdR (C:Grw UInt8) (Q:BytL):Prop where
  ok:OkB Q
  le:Q.wn≤100000
  hold:∀ w:World,(∀ b,roO (gsE u8C [u8 0] 1 C)=some b→Holds b w)→FamH (famB Q) w
  nm:0 < Q.wn→C.z=false∧Q.wb=C.nm
theorem RdR.small {C:Grw UInt8} {Q:BytL} (h:RdR C Q) (E:Int) (x:UInt64):RdR C (rsQ Q E x) :=
  ⟨okb_rs h.ok E x,Nat.le_trans (rsQ_wn _ _ _) h.le,fun w hw=>holdb_rs (h.hold w hw),fun h0=>by
    have h1:=rsQ_wn Q E x
    rw [rs_wb]; exact h.nm (by omega)⟩
theorem RdR.byts {C:Grw UInt8} {Q:BytL} (h:RdR C Q) (E m:Int):RdR C (rbQ Q E m) :=
  ⟨okb_rb h.ok E m,Nat.le_trans (rb_wn _ _ _) h.le,fun w hw=>holdb_rb (h.hold w hw),fun h0=>by
    have h1:=rb_wn Q E m
    rw [rb_wb]; exact h.nm (by omega)⟩
theorem RdR.us {C:Grw UInt8} {Q:BytL} (h:RdR C Q) (E:Int):∀ k,RdR C (usS Q E k).1
  | 0=>h
  | k+1=>(RdR.us h E k).byts _ _
theorem rd_first {q:BytL} (hq:OkB q) (hl:q.wn≤100000) (a r:Nat):RdR (cpG q a r) (recG (cpG q a r)) :=
  ⟨recG_ok (cpG_ok hq a r) (by show q.wn≤_; omega),hl,fun w hw=>recG_fam (cpG_ok hq a r) hw,fun h0=>⟨(cpG_ok hq a r).pos h0,rfl⟩⟩
theorem RdR.lend {F : Blk → Prop} {P : Program} {fn : FuncId} {args : List Value} {B : Blk} {n : Nat} {v : List Nat → Value} {o : List Nat → Option Blk} {nw : List Nat → List (Option Blk)} {C : Grw UInt8} {Q : BytL} (h : RdR C Q)
    (hr:RunsF (famB Q) P fn args [B] n v (fun ns=>o ns :: nw ns)) (how:∀ ns,ownL (o ns :: none :: nw ns)):RunsO F P fn args [some B,roO (gsE u8C [u8 0] 1 C)] n v (fun ns=>o ns :: none :: nw ns) :=
  rd_lend hr (fun w _ hb=>h.hold w hb) (gs_names h.nm) ro_own how
theorem rbN_100 {C:Grw UInt8} {Q:BytL} (h:RdR C Q) (E:Int) (k:Nat):usN Q E k≤100000 :=
  Nat.le_trans (rbN_le' (usS Q E k).1 (usS Q E k).2) (h.us E k).le
where rbN_le' (q : BytL) (e : Int) : rbN q e 1000 ≤ q.wn := by
        unfold rbN; split
        · unfold ctN; split
          · exact Nat.zero_le _
          · rename_i h1; rw [Nat.div_one] at h1; exact Nat.le_trans (by omega) (ctQ_wn q e 1000)
        · exact Nat.zero_le _
theorem cnt_next {i n:UInt64} {k:Nat} (e:i.toNat=k) (h:decide (i < n)=true):(i+1).toNat=k+1∧k < n.toNat:=by
  have h1:=UInt64.lt_iff_toNat_lt.1 (of_decide_eq_true h)
  have h2:=n.toNat_lt
  refine⟨?_,by omega⟩
  rw [UInt64.toNat_add,show(1:UInt64).toNat=1 from rfl,Nat.mod_eq_of_lt (by omega),e]
theorem cnt_end {i n:UInt64} {k:Nat} (e:i.toNat=k) (hk:k≤n.toNat) (h:decide (i < n)=false):k=n.toNat:=by
  have h1:¬ i.toNat < n.toNat:=fun h2=>of_decide_eq_false h (UInt64.lt_iff_toNat_lt.2 h2)
  omega
end Go.Eng
end
section
namespace Go.Proofs.YtnailbicmhkmbaaDoor
open Go Go.Eng
theorem rbytes_v (r:Nat) (q:BytL) (e m:Int) (hq:OkB q) (hl:q.wn≤100000) (hm:m≤9223372036854775807):RunsF (famB q) Tryd.prog 29 [ptr r 0,int m] [⟨r,true,0,.lit [slqV q,int e]⟩] 2 (fun ns=>slqV (rbV q e m (ns.getD 0 0) (ns.getD 1 0))) (fun ns=>[some ⟨r,true,0,.lit [slqV (rbQ q e m),int (rbE q e m)]⟩,rbK q e m (ns.getD 0 0) (ns.getD 1 0)]):=by
  by_cases h0:0 < rbN q e m
  · simp only [rbV,rbK,if_pos h0]
    exact rbytes_p r q e m hq hl hm h0
  · simp only [rbV,rbK,if_neg h0]
    exact RunsO.toF (bs:=[⟨r,true,0,.lit [slqV q,int e]⟩]) ((rbytes_z r q e m hq hl hm h0).toO.as (.refl _) (fun ns=>[ns.getD 0 0,0]) fun ns hns=>⟨rfl,rfl,.cons _ (.dn (.zz _)),⟨rfl,tV⟩⟩)
theorem new_G (q:BytL) (hq:OkB q) (hl:q.wn≤140737488355328):RunsO (famB q) Tryd.prog 27 [slqV q] [] 3 (fun ns=>ptr (ns.getD 0 0) 0) (fun ns=>[some ⟨ns.getD 0 0,true,0,.lit [gsV (cpG q (ns.getD 1 0) (ns.getD 2 0)),int 0]⟩,gsE u8C [u8 0] 1 (cpG q (ns.getD 1 0) (ns.getD 2 0))]):=by
  rcases Nat.eq_zero_or_pos q.wn with h0 | h0
  · cases hA:q.wa with
    | none =>
      have e1:slqV q = .slice none 0 q.wc:=by unfold slqV; rw [hA,h0]
      have e2:∀ a r,cpG q a r=⟨true,a,0,r,q.wf⟩:=fun a r=>by unfold cpG; rw [hA,h0]; rfl
      rw [e1]
      simp only [e2]
      exact(new_zn q.wc).toF.toO.as (.zz _) (fun ns=>[ns.getD 0 0,0,0]) fun ns hns=>⟨rfl,rfl,.cons _ (.dn (.zz _)),⟨rfl,tV⟩⟩
    | some A =>
      have e1:slqV q = .slice (some A) 0 q.wc:=by unfold slqV; rw [hA,h0]
      have e2:∀ a r,cpG q a r=⟨false,a,0,r,q.wf⟩:=fun a r=>by unfold cpG; rw [hA,h0]; rfl
      rw [e1]
      simp only [e2,gsE_own8]
      refine(new_zs A q.wc).toF.toO.as (.zz _) (fun ns=>[ns.getD 0 0,ns.getD 1 0,0]) fun ns hns=>⟨rfl,rfl,?_,⟨rfl,rfl,tV⟩⟩
      refine .cons _ ?_
      show Sub [some ⟨ns.getD 1 0,true,0,spr (0+0) 0 (fun k=>u8 (q.wf k)) (u8 0)⟩] _
      rw [spr_as (n:=0) (f:=fun k=>u8 (q.wf k)) (g:=fun k=>u8 ((fun _=>0:Nat→UInt8) k)) (fun k hk=>absurd hk (Nat.not_lt_zero k))]
      exact .refl _
  · have e2:∀ a r,cpG q a r=⟨false,a,q.wn,r,q.wf⟩:=fun a r=>by unfold cpG; rw [hq.ad h0]; rfl
    simp only [e2,gsE_own8]
    exact(new_pos q hq h0 hl).toO
theorem rend_as {F:Blk→Prop} (r:Nat) (q:BytL) (e v:Int) (he:endE q.wn e=v):RunsO F Tryd.prog 30 [ptr r 0] [some ⟨r,false,0,.lit [slqV q,int e]⟩] 0 (fun _=>int v) (fun _=>[none]):=by
  subst he
  exact(rend_runs r q e).toF.toO.as (.refl _) id fun ns hns=>⟨hns,rfl,.dr _ (.zz _),tV⟩
end Go.Proofs.YtnailbicmhkmbaaDoor
end
section
namespace Go.Eng
structure SameB (Q R:BytL):Prop where
  n:Q.wn=R.wn
  f:Q.wf=R.wf
  z:Q.wa.isNone=R.wa.isNone
theorem fromA_none (A:Option Addr) (c k:Nat):(fromA A c k 1).isNone=A.isNone:=by
  unfold fromA
  by_cases h:c=k
  · rw [if_pos h]
  · rw [if_neg h]; cases A <;> rfl
section
variable {Q R:BytL}
theorem SameB.from(h:SameB Q R) (k:Nat):SameB (bytF Q k) (bytF R k) :=
  ⟨by show Q.wn - k=R.wn - k; rw [h.n],by show(fun i=>Q.wf (i+k))=fun i=>R.wf (i+k); rw [h.f],by
    show(fromA Q.wa Q.wc k 1).isNone=(fromA R.wa R.wc k 1).isNone
    rw [fromA_none,fromA_none,h.z]⟩
theorem SameB.rsE (h:SameB Q R) (e:Int) (l:UInt64):rsE Q e l=Go.Eng.rsE R e l:=by unfold Go.Eng.rsE; rw [h.n,h.f]
theorem SameB.rsV (h:SameB Q R) (e:Int) (l:UInt64):rsV Q e l=Go.Eng.rsV R e l:=by unfold Go.Eng.rsV; rw [h.rsE,h.f]
theorem SameB.rsQ (h:SameB Q R) (e:Int) (l:UInt64):SameB (rsQ Q e l) (Go.Eng.rsQ R e l):=by
  unfold Go.Eng.rsQ
  rw [h.rsE]
  split
  · rw [h.f]; exact h.from _
  · exact h
theorem SameB.tkE (h:SameB Q R) (e:Int) (n:Nat):tkE Q e n=Go.Eng.tkE R e n:=by unfold Go.Eng.tkE; rw [h.n]
theorem SameB.tkQ (h:SameB Q R) (e:Int) (n:Nat):SameB (tkQ Q e n) (Go.Eng.tkQ R e n):=by
  unfold Go.Eng.tkQ
  rw [h.tkE]
  split
  · exact h.from _
  · exact h
theorem SameB.ctQ (h:SameB Q R) (e m:Int):SameB (ctQ Q e m) (Go.Eng.ctQ R e m):=h.rsQ _ _
theorem SameB.ctV (h:SameB Q R) (e m:Int):ctV Q e m=Go.Eng.ctV R e m:=by unfold Go.Eng.ctV; rw [h.rsV]
theorem SameB.ctE (h:SameB Q R) (e m:Int) (z:Nat):ctE Q e m z=Go.Eng.ctE R e m z:=by unfold Go.Eng.ctE; rw [(h.ctQ e m).n,h.ctV,h.rsE]
theorem SameB.ctN (h:SameB Q R) (e m:Int) (z:Nat):ctN Q e m z=Go.Eng.ctN R e m z:=by unfold Go.Eng.ctN; rw [(h.ctQ e m).n,h.ctV]
theorem SameB.rbE (h:SameB Q R) (e m:Int):rbE Q e m=Go.Eng.rbE R e m:=by unfold Go.Eng.rbE; rw [(h.ctQ e m).tkE,h.ctE,h.ctN]
theorem SameB.rbN (h:SameB Q R) (e m:Int):rbN Q e m=Go.Eng.rbN R e m:=by unfold Go.Eng.rbN; rw [(h.ctQ e m).tkE,h.ctE,h.ctN]
theorem SameB.rbQ (h:SameB Q R) (e m:Int):SameB (rbQ Q e m) (Go.Eng.rbQ R e m):=by unfold Go.Eng.rbQ; rw [h.ctE,h.ctN]; exact(h.ctQ e m).tkQ _ _
theorem SameB.rbZ (h:SameB Q R) (e m:Int):rbZ Q e m=Go.Eng.rbZ R e m:=by unfold Go.Eng.rbZ; rw [h.rbE,(h.ctQ e m).z]
theorem SameB.rbV (h:SameB Q R) (e m:Int) (a r:Nat):rbV Q e m a r=Go.Eng.rbV R e m a r:=by unfold Go.Eng.rbV; rw [h.rbN,(h.ctQ e m).f,h.rbZ]
theorem SameB.us (h:SameB Q R) (E:Int):∀ k,SameB (usS Q E k).1 (usS R E k).1∧(usS Q E k).2=(usS R E k).2
  | 0=>⟨h,rfl⟩
  | k+1=>by
    obtain⟨h1,h2⟩:=SameB.us h E k
    refine⟨?_,?_⟩
    · show SameB (Go.Eng.rbQ (usS Q E k).1 (usS Q E k).2 1000) (Go.Eng.rbQ (usS R E k).1 (usS R E k).2 1000)
      rw [h2]; exact h1.rbQ _ _
    · show Go.Eng.rbE (usS Q E k).1 (usS Q E k).2 1000=Go.Eng.rbE (usS R E k).1 (usS R E k).2 1000
      rw [h2]; exact h1.rbE _ _
theorem SameB.usN (h:SameB Q R) (E:Int):usN Q E=Go.Eng.usN R E:=funext fun k=>by
  obtain⟨h1,h2⟩:=h.us E k
  unfold Go.Eng.usN; rw [h2]; exact h1.rbN _ _
theorem SameB.usW (h:SameB Q R) (E:Int):usW Q E=Go.Eng.usW R E:=funext fun k=>by
  obtain⟨h1,h2⟩:=h.us E k
  unfold Go.Eng.usW; rw [h2]; exact(h1.ctQ _ _).f
theorem SameB.usV (h:SameB Q R) (E:Int) (c d:Nat):usV Q E c d=Go.Eng.usV R E c d:=funext fun k=>by
  obtain⟨h1,h2⟩:=h.us E k
  unfold Go.Eng.usV; rw [h2]; exact h1.rbV _ _ _ _
theorem SameB.gU (h:SameB Q R) (E:Int) (c d k:Nat):gU Q E c d k=Go.Eng.gU R E c d k:=by unfold Go.Eng.gU; rw [h.usN,h.usW]
theorem SameB.lastU (h:SameB Q R) (E:Int):∀ k,lastU Q E k=Go.Eng.lastU R E k
  | 0=>rfl
  | k+1=>by unfold Go.Eng.lastU; rw [h.usN,SameB.lastU h E k]
theorem SameB.plU (h:SameB Q R) (E:Int) (c d k:Nat):plU Q E c d k=Go.Eng.plU R E c d k:=by unfold Go.Eng.plU; rw [h.lastU,h.gU]
theorem rbK_pos {E:Int} {k a r:Nat} (h0:0 < Go.Eng.usN Q E k):rbK (usS Q E k).1 (usS Q E k).2 1000 a r=some ⟨a,true,0,spr (Go.Eng.usN Q E k+r) (Go.Eng.usN Q E k) (fun j=>u8 (Go.Eng.usW Q E k j)) (u8 0)⟩:=if_pos h0
theorem rbK_no {E:Int} {k a r:Nat} (h0:¬ 0 < Go.Eng.usN Q E k):rbK (usS Q E k).1 (usS Q E k).2 1000 a r=none:=if_neg h0
theorem same_cp {q:BytL} (hq:OkB q) (a r:Nat):SameB (recG (cpG q a r)) q:=⟨rfl,rfl,by
  show(gsA (cpG q a r)).isNone=q.wa.isNone
  cases hz:q.wa.isNone with
  | true=>rw [gsA_nil (show(cpG q a r).z=true from hz)]; rfl
  | false=>rw [gsA_own (show(cpG q a r).z=false from hz)]; rfl⟩
end
end Go.Eng
end
section
namespace Go.Eng
section
variable {Q:BytL} {E:Int} {c d k nm r:Nat}
def usL (Q:BytL) (E:Int) (c d k nm r:Nat):Grw BytL:=gsOf k (usV Q E c d) nm r
theorem usV_wn {i:Nat}:(usV Q E c d i).wn=usN Q E i:=by
  show(rbV (usS Q E i).1 (usS Q E i).2 1000 (decL c i) (decL d i)).wn=rbN (usS Q E i).1 (usS Q E i).2 1000
  unfold rbV; split
  · rfl
  · rename_i h; show 0=_; omega
theorem us_oks (hk:k≤1000) (hl:∀ i,usN Q E i≤9223372036854775807):OkS (recS (usL Q E c d k nm r)) :=
  recS_ok (gsOf_ok _ _ _ _) (Nat.le_trans (show k≤1000 from hk) (by decide)) fun i _=>usV_ok hl
theorem plU_piece {i:Nat} (hi:i < k) (h0:0 < usN Q E i):∃ m,plU Q E c d k=some ⟨decL c m,true,0,.pile 10 (gU Q E c d k)⟩∧gU Q E c d k i=some (decL c i,sprP (usN Q E i) (decL d i) (usW Q E i)):=by
  obtain⟨m,hm⟩:=lastU_some (k:=k) hi h0
  exact⟨m,by unfold plU; rw [hm],if_pos ⟨hi,h0⟩⟩
theorem usV_pos {i:Nat} (h0:0 < usN Q E i):usV Q E c d i=bytO (decL c i) (usN Q E i) (usN Q E i+decL d i) (usW Q E i):=if_pos h0
theorem us_el (hk:k≤10) {w:World} (hb:∀ b,roO (plU Q E c d k)=some b→Holds b w) {i:Nat} (hi:i < k):FamH (famB (usV Q E c d i)) w:=fun b hb'=>by
  have h0:0 < usN Q E i:=by rw [← usV_wn (c:=c) (d:=d)]; exact hb'.1
  obtain⟨m,e1,e2⟩:=plU_piece (c:=c) (d:=d) hi h0
  rw [usV_pos h0] at hb'
  obtain⟨_,rfl⟩:=hb'
  have h1:=(hb _ (by rw [e1]; rfl)).obj
  have h2:PieceOk (decL c i) false (sprP (usN Q E i) (decL d i) (usW Q E i)) w:=h1 i _ _ (by omega) e2
  have h3:Holds ⟨decL c i,false,0,spr (usN Q E i+decL d i) (usN Q E i) (fun j=>u8 (usW Q E i j)) (u8 0)⟩ w:=⟨h2.lt,h2.cell,(fun h=>by cases h),trivial⟩
  exact⟨holds_sprB h3,rfl⟩
def usC (Q:BytL) (E:Int) (c d k nm r:Nat):List (Option Blk):=[roO (gsE slqC [Value.slice none 0 0] 1 (usL Q E c d k nm r)),roO (plU Q E c d k)]
theorem us_fam (hk:k≤10) {w:World} (hb:∀ b,some b ∈ usC Q E c d k nm r→Holds b w):FamH (famS (recS (usL Q E c d k nm r))) w :=
  recS_fam (gsOf_ok _ _ _ _) (fun b hb'=>hb b (hb' ▸ List.Mem.head _)) fun i hi=>us_el hk (fun b hb'=>hb b (hb' ▸ List.Mem.tail _ (List.Mem.head _))) hi
theorem us_names (hk:k≤10) {z:Blk} (hz:famS (recS (usL Q E c d k nm r)) z) (j:Nat) (hj:z.has j):∃ b,some b ∈ usC Q E c d k nm r∧b.has j:=by
  rcases hz with ⟨h0,rfl⟩ | ⟨i,hi,hz⟩
  · have hA:(usL Q E c d k nm r).z=false:=(gsOf_ok k (usV Q E c d) nm r:Grw.ok _).pos h0
    refine⟨⟨nm,false,0,sprE 1 (k+r) k (fun i=>slqC (usV Q E c d i)) [Value.slice none 0 0]⟩,?_,hj⟩
    have e:roO (gsE slqC [Value.slice none 0 0] 1 (usL Q E c d k nm r))=some ⟨nm,false,0,sprE 1 (k+r) k (fun i=>slqC (usV Q E c d i)) [Value.slice none 0 0]⟩:=by rw [gsE_own hA]; rfl
    exact e ▸ List.Mem.head _
  · have hi':i < k:=hi
    have hz':famB (usV Q E c d i) z:=hz
    have h0:0 < usN Q E i:=by rw [← usV_wn (c:=c) (d:=d)]; exact hz'.1
    obtain⟨m,e1,e2⟩:=plU_piece (c:=c) (d:=d) hi' h0
    rw [usV_pos h0] at hz'
    obtain⟨_,rfl⟩:=hz'
    have e:roO (plU Q E c d k)=some ⟨decL c m,false,0,.pile 10 (gU Q E c d k)⟩:=by rw [e1]; rfl
    have hj':decL c i=j:=hj
    exact⟨⟨decL c m,false,0,.pile 10 (gU Q E c d k)⟩,e ▸ List.Mem.tail _ (List.Mem.head _),i,sprP (usN Q E i) (decL d i) (usW Q E i),by omega,by rw [e2,hj']⟩
theorem us_lend {F:Blk→Prop} {P:Program} {f:FuncId} {args:List Value} {v:Value} (hk:k≤10) (hr:RunsO (famS (recS (usL Q E c d k nm r))) P f args [] 0 (fun _=>v) (fun _=>[])):RunsO F P f args (usC Q E c d k nm r) 0 (fun _=>v) (fun _=>[none,none]) :=
  hr.lendQ (bs:=[]) (cs:=usC Q E c d k nm r) (o:=fun _=>[]) (nw:=fun _=>[]) (fun _=>rfl) (fun w _ hb=>us_fam hk hb) fun z hz j hj=>.inr (us_names hk hz j hj)
end
theorem sameS_ext {f f' g g':Nat→UInt8} {n m:Nat} (h1:∀ k,k < n→f k=f' k) (h2:∀ k,k < m→g k=g' k):sameS f n g m=sameS f' n g' m:=by
  unfold sameS
  rw [Bool.eq_iff_iff,decide_eq_true_iff,decide_eq_true_iff]
  constructor
  · rintro⟨rfl,h⟩
    exact⟨rfl,fun k hk=>by rw [← h1 k hk,← h2 k hk]; exact h k hk⟩
  · rintro⟨rfl,h⟩
    exact⟨rfl,fun k hk=>by rw [h1 k hk,h2 k hk]; exact h k hk⟩
def usB (Q:BytL) (E:Int) (i:Nat):BytL:=bytO 0 (usN Q E i) 0 (usW Q E i)
section
variable {Q:BytL} {E:Int} {c d k:Nat}
theorem usV_wf {i j:Nat} (hj:j < usN Q E i):(usV Q E c d i).wf j=usW Q E i j:=by rw [usV_pos (by omega)]; rfl
theorem elE_us {x y:BytL} {i:Nat} (hn:x.wn=y.wn) (hf:∀ j,j < x.wn→x.wf j=y.wf j):elE (usV Q E c d) x i=elE (usB Q E) y i:=by
  unfold elE
  rw [usV_wn,hn]
  exact sameS_ext (fun j hj=>usV_wf hj) (fun j hj=>hf j (by omega))
theorem inB_us {x y:BytL} (hn:x.wn=y.wn) (hf:∀ j,j < x.wn→x.wf j=y.wf j):inB (usV Q E c d) k x=inB (usB Q E) k y:=anyK_congr fun i _=>elE_us hn hf
theorem twB_us:twB (usV Q E c d) k=twB (usB Q E) k:=anyK_congr fun i _=>inB_us usV_wn fun j hj=>usV_wf (by rw [usV_wn] at hj; exact hj)
end
end Go.Eng
end
section
namespace Go.Eng
def uQ (q:BytL):BytL:=rsQ (rsQ q 0 18446744073709551615) (rsE q 0 18446744073709551615) 10
def uE (q:BytL):Int:=rsE (rsQ q 0 18446744073709551615) (rsE q 0 18446744073709551615) 10
def uNn (q:BytL):UInt64:=rsV (rsQ q 0 18446744073709551615) (rsE q 0 18446744073709551615) 10
def uN (q:BytL):Nat:=(uNn q).toNat
def uH (q:BytL):UInt64:=rsV q 0 18446744073709551615
def uD (q:BytL):Int:=endE (usS (uQ q) (uE q) (uN q)).1.wn (usS (uQ q) (uE q) (uN q)).2
def uB (q:BytL):Bool:=selB (inB (usB (uQ q) (uE q)) (uN q) (bytZ none 0)) true (twB (usB (uQ q) (uE q)) (uN q))
theorem uN_le (q:BytL):uN q≤10:=rsV_le _ _ 10
section
variable {Q R:BytL}
theorem SameB.uQ (h:SameB Q R):SameB (uQ Q) (Go.Eng.uQ R):=by
  unfold Go.Eng.uQ; rw [h.rsE]; exact(h.rsQ _ _).rsQ _ _
theorem SameB.uE (h:SameB Q R):uE Q=Go.Eng.uE R:=by
  unfold Go.Eng.uE; rw [h.rsE]; exact(h.rsQ _ _).rsE _ _
theorem SameB.uNn (h:SameB Q R):uNn Q=Go.Eng.uNn R:=by
  unfold Go.Eng.uNn; rw [h.rsE]; exact(h.rsQ _ _).rsV _ _
theorem SameB.uN (h:SameB Q R):uN Q=Go.Eng.uN R:=by unfold Go.Eng.uN; rw [h.uNn]
theorem SameB.uH (h:SameB Q R):uH Q=Go.Eng.uH R:=h.rsV _ _
theorem SameB.uD (h:SameB Q R):uD Q=Go.Eng.uD R:=by
  unfold Go.Eng.uD
  rw [h.uE,h.uN]
  obtain⟨h1,h2⟩:=h.uQ.us (Go.Eng.uE R) (Go.Eng.uN R)
  rw [h1.n,h2]
theorem SameB.usB (h:SameB Q R) (E:Int):usB Q E=Go.Eng.usB R E:=funext fun i=>by unfold Go.Eng.usB; rw [h.usN,h.usW]
theorem SameB.uB (h:SameB Q R):uB Q=Go.Eng.uB R:=by
  unfold Go.Eng.uB
  rw [h.uE,h.uN,h.uQ.usB]
end
theorem us_cp_V {q:BytL} (hq:OkB q) (a r c d:Nat):usV (uQ (recG (cpG q a r))) (uE (recG (cpG q a r))) c d=usV (uQ q) (uE q) c d:=by
  have h:=same_cp hq a r
  rw [h.uE]; exact h.uQ.usV _ _ _
theorem us_cp_P {q:BytL} (hq:OkB q) (a r c d k:Nat):plU (uQ (recG (cpG q a r))) (uE (recG (cpG q a r))) c d k=plU (uQ q) (uE q) c d k:=by
  have h:=same_cp hq a r
  rw [h.uE]; exact h.uQ.plU _ _ _ _
def unX (q:BytL):Int:=if uD q=0 then (if uB q=true then 31 else 0) else uD q
def unH (q:BytL):UInt64:=if unX q=0 then uH q else 0
def unL (q:BytL) (c d nm r:Nat):Grw BytL:=if unX q=0 then gsOf (uN q) (usV (uQ q) (uE q) c d) nm r else ⟨true,0,0,0,fun _=>bytZ none 0⟩
def unP (q:BytL) (c d:Nat):Option Blk:=if unX q=0 then plU (uQ q) (uE q) c d (uN q) else none
theorem unX_1 {q:BytL} (h:uD q≠0):unX q=uD q:=by unfold unX; rw [if_neg h]
theorem unX_2 {q:BytL} (h:uD q=0) (hb:uB q=true):unX q=31:=by unfold unX; rw [if_pos h,if_pos hb]
theorem unX_0 {q:BytL} (h:uD q=0) (hb:uB q=false):unX q=0:=by unfold unX; rw [if_pos h,hb]; rfl
theorem un_no {q:BytL} (h:unX q≠0):unH q=0∧(∀ c d nm r,unL q c d nm r=⟨true,0,0,0,fun _=>bytZ none 0⟩)∧∀ c d,unP q c d=none:=⟨if_neg h,fun _ _ _ _=>if_neg h,fun _ _=>if_neg h⟩
theorem un_yes {q:BytL} (h:unX q=0):unH q=uH q∧(∀ c d nm r,unL q c d nm r=gsOf (uN q) (usV (uQ q) (uE q) c d) nm r)∧∀ c d,unP q c d=plU (uQ q) (uE q) c d (uN q):=⟨if_pos h,fun _ _ _ _=>if_pos h,fun _ _=>if_pos h⟩
end Go.Eng
end
section
namespace Go.Proofs.YtnailbicmhkmbaaDoor
open Go Go.Eng
def yz (q:BytL) (a b:Nat):BytL:=uQ (recG (cpG q a b))
def ez (q:BytL) (a b:Nat):Int:=uE (recG (cpG q a b))
def uz (q:BytL) (a b:Nat):Nat→BytL × Int:=usS (yz q a b) (ez q a b)
def nz (q:BytL) (a b:Nat):UInt64:=rsV (rsQ (recG (cpG q a b)) 0 18446744073709551615) (rsE (recG (cpG q a b)) 0 18446744073709551615) 10
def rz (q:BytL) (a b k c d:Nat):BytL:=rbV (uz q a b k).1 (uz q a b k).2 1000 c d
theorem hasU {F:Blk→Prop} {Q:BytL} {E:Int} {c d k nm r:Nat} (hk:k≤10) (hl:∀ i,usN Q E i≤9223372036854775807):RunsO F Tryd.prog 31 [gsV (usL Q E c d k nm r),.slice none 0 0] (usC Q E c d k nm r) 0 (fun _=>.bool (inB (usB Q E) k (bytZ none 0))) (fun _=>[none,none]):=by
  rw [← inB_us (c:=c) (d:=d) (x:=bytZ none 0) rfl fun _ _=>rfl]
  exact us_lend hk ((has_fam (recS (usL Q E c d k nm r)) (bytZ none 0) (us_oks (by omega) hl) okb_nil).toO.mono fun z hz=>hz.elim id fun h=>absurd h.1 (Nat.lt_irrefl 0))
theorem twU {F:Blk→Prop} {Q:BytL} {E:Int} {c d k nm r:Nat} (hk:k≤10) (hl:∀ i,usN Q E i≤9223372036854775807):RunsO F Tryd.prog 20 [gsV (usL Q E c d k nm r)] (usC Q E c d k nm r) 0 (fun _=>.bool (twB (usB Q E) k)) (fun _=>[none,none]):=by
  rw [← twB_us (c:=c) (d:=d)]
  exact us_lend hk (twice_fam (recS (usL Q E c d k nm r)) (us_oks (by omega) hl)).toO
def un_1_S1 (q:BytL) (n1:Nat) (n2:Nat) (n3:Nat) (x1:Nat × UInt64 × Nat × Nat × Nat × Nat):St:=⟨[(2,.v (u64 (rsV (recG (cpG q n2 n3)) 0 18446744073709551615))),(3,.v (gsV (gsOf x1.1 (usV (yz q n2 n3) (ez q n2 n3) x1.2.2.1 x1.2.2.2.1) x1.2.2.2.2.1 x1.2.2.2.2.2))),(5,.v (ptr n1 0)),(11,.v (u64 (nz q n2 n3))),(12,.v (u64 x1.2.1))],[(0,some ⟨n1,true,0,(.lit [(Value.slice (((uz q n2 n3 x1.1).1).wa) (((uz q n2 n3 x1.1).1).wn) (((uz q n2 n3 x1.1).1).wc)),(int ((uz q n2 n3 x1.1).2))])⟩),(1,(gsE u8C [u8 0] 1 (cpG q n2 n3))),(2,(gsE slqC [Value.slice none 0 0] 1 (gsOf x1.1 (usV (yz q n2 n3) (ez q n2 n3) x1.2.2.1 x1.2.2.2.1) x1.2.2.2.2.1 x1.2.2.2.2.2))),(3,(plU (yz q n2 n3) (ez q n2 n3) x1.2.2.1 x1.2.2.2.1 x1.1))],4⟩
def un_1_R1 (q:BytL) (n1:Nat) (n2:Nat) (n3:Nat) (x1:Nat × UInt64 × Nat × Nat × Nat × Nat):Prop:=((x1.2.1:UInt64).toNat=x1.1)∧(x1.1≤10)∧(x1.1≤(nz q n2 n3).toNat)
def un_1_mu1 (q:BytL) (n1:Nat) (n2:Nat) (n3:Nat) (x1:Nat × UInt64 × Nat × Nat × Nat × Nat):Nat:=10 - x1.1
theorem un_1 (q:BytL) (hq:OkB q) (hl:q.wn≤100000) (hd:uD q≠0):RunsO (famB q) Tryd.prog 8 [(Value.slice q.wa q.wn q.wc)] [] 0 (fun _=>Value.tuple #[u64 0,Value.slice none 0 0,int (uD q)]) (fun _=>[]) :=
  runsO_of_ev mix Tryd.func8 rfl rfl 400 (.reg (rg [.g,.g,.g]) (.regn (rg [.g,(.callO [] 3 2 (fun ns=>ptr (ns.getD 0 0) 0) (fun ns=>[some ⟨(ns.getD 0 0),true,0,.lit [gsV (cpG q (ns.getD 1 0) (ns.getD 2 0)),int 0]⟩,(gsE u8C [u8 0] 1 (cpG q (ns.getD 1 0) (ns.getD 2 0)))])),.g]) (more (fun n1=>more (fun n2=>more (fun n3=>fun _=>(.reg (rg [.g,(.callO [(0,false),(1,true)] 0 0 (fun _=>(u64 (rsV (recG (cpG q n2 n3)) 0 18446744073709551615))) (fun _=>[some ⟨n1,true,0,.lit [slqV (rsQ (recG (cpG q n2 n3)) 0 18446744073709551615),int (rsE (recG (cpG q n2 n3)) 0 18446744073709551615)]⟩,none])),.g]) (.keep [0,2,3,4,6,7,5,8,9] [0,1] 4 (.reg (rg [.g,(.callO [(0,false),(1,true)] 0 0 (fun _=>(u64 (nz q n2 n3))) (fun _=>[some ⟨n1,true,0,.lit [slqV (yz q n2 n3),int (ez q n2 n3)]⟩,none])),.g]) (.inv [2,3,5,11,12] [0,1,2,3] 4 (un_1_R1 q n1 n2 n3) (un_1_S1 q n1 n2 n3) (un_1_mu1 q n1 n2 n3) ((0,0,0,0,0,0):Nat × UInt64 × Nat × Nat × Nat × Nat) (fun(x1:Nat × UInt64 × Nat × Nat × Nat × Nat)=>(.reg (rg [(.as (Value.bool (decide (x1.2.1 < (nz q n2 n3)))))]) (.br (.regn (rg [.g,.g,(.callO [(0,false),(1,true)] 2 1 (fun ns=>slqV (rbV (uz q n2 n3 x1.1).1 (uz q n2 n3 x1.1).2 1000 (ns.getD 0 0) (ns.getD 1 0))) (fun ns=>[some ⟨n1,true,0,.lit [slqV ((uz q n2 n3 (x1.1+1)).1),int ((uz q n2 n3 (x1.1+1)).2)]⟩,none,(rbK (uz q n2 n3 x1.1).1 (uz q n2 n3 x1.1).2 1000 (ns.getD 0 0) (ns.getD 1 0))])),.bsl,(.othOB [(2,false),(5,true)] 2 0 (fun ns=>gsV (Grw.mk false (ns.getD 0 0) (x1.1+1) (ns.getD 1 0) (catU ((gsOf x1.1 (usV (yz q n2 n3) (ez q n2 n3) x1.2.2.1 x1.2.2.2.1) x1.2.2.2.2.1 x1.2.2.2.2.2).f) x1.1 ((gsOf x1.1 (usV (yz q n2 n3) (ez q n2 n3) x1.2.2.1 x1.2.2.2.1) x1.2.2.2.2.1 x1.2.2.2.2.2).f)))) (fun bs ns=>[(gsE slqC [Value.slice none 0 0] 1 (Grw.mk false (ns.getD 0 0) (x1.1+1) (ns.getD 1 0) (catU ((gsOf x1.1 (usV (yz q n2 n3) (ez q n2 n3) x1.2.2.1 x1.2.2.2.1) x1.2.2.2.2.1 x1.2.2.2.2.2).f) x1.1 (fun _=>qOf (cellO bs 1))))),none])),.g]) (more (fun n4=>more (fun n5=>more (fun n6=>more (fun n7=>more (fun n8=>fun _=>(.both (decide (0 < usN (yz q n2 n3) (ez q n2 n3) x1.1)) (.keep [2,3,5,11,12] [0,1,2,3,4] 5 (.told ⟨[(2,.v (u64 (rsV (recG (cpG q n2 n3)) 0 18446744073709551615))),(3,.v (gsV (Grw.mk false n7 (x1.1+1) n8 (catU ((gsOf x1.1 (usV (yz q n2 n3) (ez q n2 n3) x1.2.2.1 x1.2.2.2.1) x1.2.2.2.2.1 x1.2.2.2.2.2).f) x1.1 (fun _=>(qOf (Value.slice ((rz q n2 n3 x1.1 n4 n5).wa) ((rz q n2 n3 x1.1 n4 n5).wn) ((rz q n2 n3 x1.1 n4 n5).wc)))))))),(5,.v (ptr n1 0)),(11,.v (u64 (nz q n2 n3))),(12,.v (u64 x1.2.1))],[(0,some ⟨n1,true,0,(.lit [(Value.slice (((uz q n2 n3 (x1.1+1)).1).wa) (((uz q n2 n3 (x1.1+1)).1).wn) (((uz q n2 n3 (x1.1+1)).1).wc)),(int ((uz q n2 n3 (x1.1+1)).2))])⟩),(1,(gsE u8C [u8 0] 1 (cpG q n2 n3))),(2,(gsE slqC [Value.slice none 0 0] 1 (Grw.mk false n7 (x1.1+1) n8 (catU ((gsOf x1.1 (usV (yz q n2 n3) (ez q n2 n3) x1.2.2.1 x1.2.2.2.1) x1.2.2.2.2.1 x1.2.2.2.2.2).f) x1.1 (fun _=>(qOf (Value.slice ((rz q n2 n3 x1.1 n4 n5).wa) ((rz q n2 n3 x1.1 n4 n5).wn) ((rz q n2 n3 x1.1 n4 n5).wc)))))))),(3,(plU (yz q n2 n3) (ez q n2 n3) x1.2.2.1 x1.2.2.2.1 x1.1)),(4,some ⟨n4,true,0,(spr (usN (yz q n2 n3) (ez q n2 n3) x1.1+n5) (usN (yz q n2 n3) (ez q n2 n3) x1.1) (fun k=>u8 (usW (yz q n2 n3) (ez q n2 n3) x1.1 k)) (u8 0))⟩)],5⟩ (.pack 4 3 10 (gU (yz q n2 n3) (ez q n2 n3) (pcod x1.2.2.1 x1.1 n4) (pcod x1.2.2.2.1 x1.1 n5) (x1.1+1)) (.keep [2,3,5,11,12] [0,1,2,3] 4 (.told ⟨[(2,.v (u64 (rsV (recG (cpG q n2 n3)) 0 18446744073709551615))),(3,.v (gsV (gsOf (x1.1+1) (usV (yz q n2 n3) (ez q n2 n3) (pcod x1.2.2.1 x1.1 n4) (pcod x1.2.2.2.1 x1.1 n5)) n7 n8))),(5,.v (ptr n1 0)),(11,.v (u64 (nz q n2 n3))),(12,.v (u64 x1.2.1))],[(0,some ⟨n1,true,0,(.lit [(Value.slice (((uz q n2 n3 (x1.1+1)).1).wa) (((uz q n2 n3 (x1.1+1)).1).wn) (((uz q n2 n3 (x1.1+1)).1).wc)),(int ((uz q n2 n3 (x1.1+1)).2))])⟩),(1,(gsE u8C [u8 0] 1 (cpG q n2 n3))),(2,(gsE slqC [Value.slice none 0 0] 1 (gsOf (x1.1+1) (usV (yz q n2 n3) (ez q n2 n3) (pcod x1.2.2.1 x1.1 n4) (pcod x1.2.2.2.1 x1.1 n5)) n7 n8))),(3,(plU (yz q n2 n3) (ez q n2 n3) (pcod x1.2.2.1 x1.1 n4) (pcod x1.2.2.2.1 x1.1 n5) (x1.1+1)))],4⟩ (.reg (rg [(.as (u64 (x1.2.1+1))),.g]) .done)))))) (.keep [2,3,5,11,12] [0,1,2,3,4] 5 (.told ⟨[(2,.v (u64 (rsV (recG (cpG q n2 n3)) 0 18446744073709551615))),(3,.v (gsV (Grw.mk false n7 (x1.1+1) n8 (catU ((gsOf x1.1 (usV (yz q n2 n3) (ez q n2 n3) x1.2.2.1 x1.2.2.2.1) x1.2.2.2.2.1 x1.2.2.2.2.2).f) x1.1 (fun _=>(qOf (Value.slice ((rz q n2 n3 x1.1 n4 n5).wa) ((rz q n2 n3 x1.1 n4 n5).wn) ((rz q n2 n3 x1.1 n4 n5).wc)))))))),(5,.v (ptr n1 0)),(11,.v (u64 (nz q n2 n3))),(12,.v (u64 x1.2.1))],[(0,some ⟨n1,true,0,(.lit [(Value.slice (((uz q n2 n3 (x1.1+1)).1).wa) (((uz q n2 n3 (x1.1+1)).1).wn) (((uz q n2 n3 (x1.1+1)).1).wc)),(int ((uz q n2 n3 (x1.1+1)).2))])⟩),(1,(gsE u8C [u8 0] 1 (cpG q n2 n3))),(2,(gsE slqC [Value.slice none 0 0] 1 (Grw.mk false n7 (x1.1+1) n8 (catU ((gsOf x1.1 (usV (yz q n2 n3) (ez q n2 n3) x1.2.2.1 x1.2.2.2.1) x1.2.2.2.2.1 x1.2.2.2.2.2).f) x1.1 (fun _=>(qOf (Value.slice ((rz q n2 n3 x1.1 n4 n5).wa) ((rz q n2 n3 x1.1 n4 n5).wn) ((rz q n2 n3 x1.1 n4 n5).wc)))))))),(3,(plU (yz q n2 n3) (ez q n2 n3) x1.2.2.1 x1.2.2.2.1 x1.1)),(4,none)],5⟩ (.keep [2,3,5,11,12] [0,1,2,3] 4 (.told ⟨[(2,.v (u64 (rsV (recG (cpG q n2 n3)) 0 18446744073709551615))),(3,.v (gsV (gsOf (x1.1+1) (usV (yz q n2 n3) (ez q n2 n3) (pcod x1.2.2.1 x1.1 n4) (pcod x1.2.2.2.1 x1.1 n5)) n7 n8))),(5,.v (ptr n1 0)),(11,.v (u64 (nz q n2 n3))),(12,.v (u64 x1.2.1))],[(0,some ⟨n1,true,0,(.lit [(Value.slice (((uz q n2 n3 (x1.1+1)).1).wa) (((uz q n2 n3 (x1.1+1)).1).wn) (((uz q n2 n3 (x1.1+1)).1).wc)),(int ((uz q n2 n3 (x1.1+1)).2))])⟩),(1,(gsE u8C [u8 0] 1 (cpG q n2 n3))),(2,(gsE slqC [Value.slice none 0 0] 1 (gsOf (x1.1+1) (usV (yz q n2 n3) (ez q n2 n3) (pcod x1.2.2.1 x1.1 n4) (pcod x1.2.2.2.1 x1.1 n5)) n7 n8))),(3,(plU (yz q n2 n3) (ez q n2 n3) (pcod x1.2.2.1 x1.1 n4) (pcod x1.2.2.2.1 x1.1 n5) (x1.1+1)))],4⟩ (.reg (rg [(.as (u64 (x1.2.1+1))),.g]) .done))))))))))))) (.reg (rg [.g,(.callO [(0,true)] 0 0 (fun _=>(int (uD q))) (fun _=>[none])),.g]) (.reg (rg [.g,.g,.g,(.opt .g),(.opt (.callO [(2,true),(3,true)] 0 0 (fun _=>(Value.bool (inB (usB (yz q n2 n3) (ez q n2 n3)) x1.1 (bytZ none 0)))) (fun _=>[none,none]))),(.opt .g),(.opt .g),(.opt (.callO [(2,true),(3,true)] 0 0 (fun _=>(Value.bool (twB (usB (yz q n2 n3) (ez q n2 n3)) x1.1))) (fun _=>[none,none]))),(.opt .pk),.pk]) (.no (.reg (rg [.g,.g]) (.yes (.reg (rg [.g,.g,.g,.g]) .done))))))))))))))))))) [] [] rfl
    (Eq.mp (by kernel_rfl) (aI kV3 (fun(n1 n2 n3:Nat)=>aI (sk (aI (aT (new_G q hq (Nat.le_trans hl (by decide)))) kV1)) (aI (sk (aI (aT (RdR.lend (F:=famB q) (rd_first hq hl n2 n3) (rsmall_fam n1 (recG (cpG q n2 n3)) 0 18446744073709551615 (rd_first hq hl n2 n3).ok (rd_first hq hl n2 n3).le) (fun _=>⟨rfl,tV⟩))) kV1)) ((aI (sk (aI (aT (RdR.lend (F:=famB q) (RdR.small (rd_first hq hl n2 n3) 0 18446744073709551615) (rsmall_fam n1 (rsQ (recG (cpG q n2 n3)) 0 18446744073709551615) (rsE (recG (cpG q n2 n3)) 0 18446744073709551615) 10 (RdR.small (rd_first hq hl n2 n3) 0 18446744073709551615).ok (RdR.small (rd_first hq hl n2 n3) 0 18446744073709551615).le) (fun _=>⟨rfl,tV⟩))) kV1)) (aI (show(un_1_R1 q n1 n2 n3) ((0,0,0,0,0,0):Nat × UInt64 × Nat × Nat × Nat × Nat) from(show((0:UInt64).toNat=0)∧(0≤10)∧(0≤(nz q n2 n3).toNat) from by exact⟨rfl,by decide,Nat.zero_le _⟩)) (aI (@rfl St ((un_1_S1 q n1 n2 n3) ((0,0,0,0,0,0):Nat × UInt64 × Nat × Nat × Nat × Nat))) (fun(x1:Nat × UInt64 × Nat × Nat × Nat × Nat) (hx1:(un_1_R1 q n1 n2 n3) x1)=>have B0:(x1.2.1:UInt64).toNat=x1.1:=hx1.1; have B1:x1.1≤10:=hx1.2.1; have B2:x1.1≤(nz q n2 n3).toNat:=hx1.2.2; aI (aI (aT (@is_lss64 Tryd.prog 22 22 (.tmp 12) (.tmp 11) x1.2.1 (nz q n2 n3))) tV) (aT (aI (fun(h1:(decide (x1.2.1 < (nz q n2 n3)))=true)=>have f4:=(oT h1); fun(n4 n5 n6 n7 n8:Nat)=>aI (sK2 (aI (aT (RdR.lend (F:=famB q) (RdR.us (RdR.small (RdR.small (rd_first hq hl n2 n3) 0 18446744073709551615) (rsE (recG (cpG q n2 n3)) 0 18446744073709551615) 10) (ez q n2 n3) x1.1) (rbytes_v n1 (uz q n2 n3 x1.1).1 (uz q n2 n3 x1.1).2 1000 (RdR.us (RdR.small (RdR.small (rd_first hq hl n2 n3) 0 18446744073709551615) (rsE (recG (cpG q n2 n3)) 0 18446744073709551615) 10) (ez q n2 n3) x1.1).ok (RdR.us (RdR.small (RdR.small (rd_first hq hl n2 n3) 0 18446744073709551615) (rsE (recG (cpG q n2 n3)) 0 18446744073709551615) 10) (ez q n2 n3) x1.1).le (by decide)) (fun _=>⟨rfl,rbK_own⟩))) (aI (aT (mk_build (P:=Tryd.prog) (t:=23) (e:=24) one24 1 #[(0,(Value.slice ((rz q n2 n3 x1.1 n4 n5).wa) ((rz q n2 n3 x1.1 n4 n5).wn) ((rz q n2 n3 x1.1 n4 n5).wc)))] #[(Value.slice ((rz q n2 n3 x1.1 n4 n5).wa) ((rz q n2 n3 x1.1 n4 n5).wn) ((rz q n2 n3 x1.1 n4 n5).wc))] (by kernel_rfl) (by decide) (by kernel_rfl))) (aI (aT (mkG_catE (P:=Tryd.prog) (t:=23) (ty:=23) (e:=24) (by kernel_rfl) agg24 (gsOf x1.1 (usV (yz q n2 n3) (ez q n2 n3) x1.2.2.1 x1.2.2.2.1) x1.2.2.2.2.1 x1.2.2.2.2.2) (gsOf_ok _ _ _ _) slqC_ok (fun _=>(qOf (Value.slice ((rz q n2 n3 x1.1 n4 n5).wa) ((rz q n2 n3 x1.1 n4 n5).wn) ((rz q n2 n3 x1.1 n4 n5).wc)))) 1 (some ⟨n6,0,none⟩) 1 (some ⟨n6,false,0,(.lit [(Value.slice ((rz q n2 n3 x1.1 n4 n5).wa) ((rz q n2 n3 x1.1 n4 n5).wn) ((rz q n2 n3 x1.1 n4 n5).wc))])⟩) (fun _=>⟨_,_,_,_,rfl,rfl,(lit_src (sz:=1) (l:=slqC (qOf (Value.slice ((rz q n2 n3 x1.1 n4 n5).wa) ((rz q n2 n3 x1.1 n4 n5).wn) ((rz q n2 n3 x1.1 n4 n5).wc)))) rfl)⟩) (show(x1.1+1)*24≤140737488355328∧x1.1+1≤9223372036854775807 from by omega))) kV1)))) (aI (fun(h2:(decide (0 < usN (yz q n2 n3) (ez q n2 n3) x1.1))=true)=>have f5:=(oT h2); aI (show(⟨[(2,.v (u64 (rsV (recG (cpG q n2 n3)) 0 18446744073709551615))),(3,.v (gsV (Grw.mk false n7 (x1.1+1) n8 (catU ((gsOf x1.1 (usV (yz q n2 n3) (ez q n2 n3) x1.2.2.1 x1.2.2.2.1) x1.2.2.2.2.1 x1.2.2.2.2.2).f) x1.1 (fun _=>(qOf (Value.slice ((rz q n2 n3 x1.1 n4 n5).wa) ((rz q n2 n3 x1.1 n4 n5).wn) ((rz q n2 n3 x1.1 n4 n5).wc)))))))),(5,.v (ptr n1 0)),(11,.v (u64 (nz q n2 n3))),(12,.v (u64 x1.2.1))],[(0,some ⟨n1,true,0,(.lit [(Value.slice (((uz q n2 n3 (x1.1+1)).1).wa) (((uz q n2 n3 (x1.1+1)).1).wn) (((uz q n2 n3 (x1.1+1)).1).wc)),(int ((uz q n2 n3 (x1.1+1)).2))])⟩),(1,(gsE u8C [u8 0] 1 (cpG q n2 n3))),(2,(gsE slqC [Value.slice none 0 0] 1 (Grw.mk false n7 (x1.1+1) n8 (catU ((gsOf x1.1 (usV (yz q n2 n3) (ez q n2 n3) x1.2.2.1 x1.2.2.2.1) x1.2.2.2.2.1 x1.2.2.2.2.2).f) x1.1 (fun _=>(qOf (Value.slice ((rz q n2 n3 x1.1 n4 n5).wa) ((rz q n2 n3 x1.1 n4 n5).wn) ((rz q n2 n3 x1.1 n4 n5).wc)))))))),(3,(plU (yz q n2 n3) (ez q n2 n3) x1.2.2.1 x1.2.2.2.1 x1.1)),(4,(rbK (uz q n2 n3 x1.1).1 (uz q n2 n3 x1.1).2 1000 n4 n5))],5⟩:St)=⟨[(2,.v (u64 (rsV (recG (cpG q n2 n3)) 0 18446744073709551615))),(3,.v (gsV (Grw.mk false n7 (x1.1+1) n8 (catU ((gsOf x1.1 (usV (yz q n2 n3) (ez q n2 n3) x1.2.2.1 x1.2.2.2.1) x1.2.2.2.2.1 x1.2.2.2.2.2).f) x1.1 (fun _=>(qOf (Value.slice ((rz q n2 n3 x1.1 n4 n5).wa) ((rz q n2 n3 x1.1 n4 n5).wn) ((rz q n2 n3 x1.1 n4 n5).wc)))))))),(5,.v (ptr n1 0)),(11,.v (u64 (nz q n2 n3))),(12,.v (u64 x1.2.1))],[(0,some ⟨n1,true,0,(.lit [(Value.slice (((uz q n2 n3 (x1.1+1)).1).wa) (((uz q n2 n3 (x1.1+1)).1).wn) (((uz q n2 n3 (x1.1+1)).1).wc)),(int ((uz q n2 n3 (x1.1+1)).2))])⟩),(1,(gsE u8C [u8 0] 1 (cpG q n2 n3))),(2,(gsE slqC [Value.slice none 0 0] 1 (Grw.mk false n7 (x1.1+1) n8 (catU ((gsOf x1.1 (usV (yz q n2 n3) (ez q n2 n3) x1.2.2.1 x1.2.2.2.1) x1.2.2.2.2.1 x1.2.2.2.2.2).f) x1.1 (fun _=>(qOf (Value.slice ((rz q n2 n3 x1.1 n4 n5).wa) ((rz q n2 n3 x1.1 n4 n5).wn) ((rz q n2 n3 x1.1 n4 n5).wc)))))))),(3,(plU (yz q n2 n3) (ez q n2 n3) x1.2.2.1 x1.2.2.2.1 x1.1)),(4,some ⟨n4,true,0,(spr (usN (yz q n2 n3) (ez q n2 n3) x1.1+n5) (usN (yz q n2 n3) (ez q n2 n3) x1.1) (fun k=>u8 (usW (yz q n2 n3) (ez q n2 n3) x1.1 k)) (u8 0))⟩)],5⟩ from by unfold rz uz; rw [rbK_pos (Q:=(yz q n2 n3)) (E:=(ez q n2 n3)) (k:=x1.1) (oT h2)]) (aI (pack_U (Q:=(yz q n2 n3)) (E:=(ez q n2 n3)) (c:=x1.2.2.1) (d:=x1.2.2.2.1) (k:=x1.1) (n1:=n4) (n2:=n5) (oT h2)) (aI (show(⟨[(2,.v (u64 (rsV (recG (cpG q n2 n3)) 0 18446744073709551615))),(3,.v (gsV (Grw.mk false n7 (x1.1+1) n8 (catU ((gsOf x1.1 (usV (yz q n2 n3) (ez q n2 n3) x1.2.2.1 x1.2.2.2.1) x1.2.2.2.2.1 x1.2.2.2.2.2).f) x1.1 (fun _=>(qOf (Value.slice ((rz q n2 n3 x1.1 n4 n5).wa) ((rz q n2 n3 x1.1 n4 n5).wn) ((rz q n2 n3 x1.1 n4 n5).wc)))))))),(5,.v (ptr n1 0)),(11,.v (u64 (nz q n2 n3))),(12,.v (u64 x1.2.1))],[(0,some ⟨n1,true,0,(.lit [(Value.slice (((uz q n2 n3 (x1.1+1)).1).wa) (((uz q n2 n3 (x1.1+1)).1).wn) (((uz q n2 n3 (x1.1+1)).1).wc)),(int ((uz q n2 n3 (x1.1+1)).2))])⟩),(1,(gsE u8C [u8 0] 1 (cpG q n2 n3))),(2,(gsE slqC [Value.slice none 0 0] 1 (Grw.mk false n7 (x1.1+1) n8 (catU ((gsOf x1.1 (usV (yz q n2 n3) (ez q n2 n3) x1.2.2.1 x1.2.2.2.1) x1.2.2.2.2.1 x1.2.2.2.2.2).f) x1.1 (fun _=>(qOf (Value.slice ((rz q n2 n3 x1.1 n4 n5).wa) ((rz q n2 n3 x1.1 n4 n5).wn) ((rz q n2 n3 x1.1 n4 n5).wc)))))))),(3,some ⟨n4,true,0,.pile 10 (gU (yz q n2 n3) (ez q n2 n3) (pcod x1.2.2.1 x1.1 n4) (pcod x1.2.2.2.1 x1.1 n5) (x1.1+1))⟩)],4⟩:St)=⟨[(2,.v (u64 (rsV (recG (cpG q n2 n3)) 0 18446744073709551615))),(3,.v (gsV (gsOf (x1.1+1) (usV (yz q n2 n3) (ez q n2 n3) (pcod x1.2.2.1 x1.1 n4) (pcod x1.2.2.2.1 x1.1 n5)) n7 n8))),(5,.v (ptr n1 0)),(11,.v (u64 (nz q n2 n3))),(12,.v (u64 x1.2.1))],[(0,some ⟨n1,true,0,(.lit [(Value.slice (((uz q n2 n3 (x1.1+1)).1).wa) (((uz q n2 n3 (x1.1+1)).1).wn) (((uz q n2 n3 (x1.1+1)).1).wc)),(int ((uz q n2 n3 (x1.1+1)).2))])⟩),(1,(gsE u8C [u8 0] 1 (cpG q n2 n3))),(2,(gsE slqC [Value.slice none 0 0] 1 (gsOf (x1.1+1) (usV (yz q n2 n3) (ez q n2 n3) (pcod x1.2.2.1 x1.1 n4) (pcod x1.2.2.2.1 x1.1 n5)) n7 n8))),(3,(plU (yz q n2 n3) (ez q n2 n3) (pcod x1.2.2.1 x1.1 n4) (pcod x1.2.2.2.1 x1.1 n5) (x1.1+1)))],4⟩ from by rw [plU_yes (Q:=(yz q n2 n3)) (E:=(ez q n2 n3)) (c:=x1.2.2.1) (d:=x1.2.2.2.1) (k:=x1.1) (n1:=n4) (n2:=n5) (oT h2),(list_U (Q:=(yz q n2 n3)) (E:=(ez q n2 n3)) (c:=x1.2.2.1) (d:=x1.2.2.2.1) (k:=x1.1) (n1:=n4) (n2:=n5) (A:=Grw.mk false n7 (x1.1+1) n8 (catU ((gsOf x1.1 (usV (yz q n2 n3) (ez q n2 n3) x1.2.2.1 x1.2.2.2.1) x1.2.2.2.2.1 x1.2.2.2.2.2).f) x1.1 (fun _=>(qOf (Value.slice ((rz q n2 n3 x1.1 n4 n5).wa) ((rz q n2 n3 x1.1 n4 n5).wn) ((rz q n2 n3 x1.1 n4 n5).wc)))))) rfl rfl rfl).1,(list_U (Q:=(yz q n2 n3)) (E:=(ez q n2 n3)) (c:=x1.2.2.1) (d:=x1.2.2.2.1) (k:=x1.1) (n1:=n4) (n2:=n5) (A:=Grw.mk false n7 (x1.1+1) n8 (catU ((gsOf x1.1 (usV (yz q n2 n3) (ez q n2 n3) x1.2.2.1 x1.2.2.2.1) x1.2.2.2.2.1 x1.2.2.2.2.2).f) x1.1 (fun _=>(qOf (Value.slice ((rz q n2 n3 x1.1 n4 n5).wa) ((rz q n2 n3 x1.1 n4 n5).wn) ((rz q n2 n3 x1.1 n4 n5).wc)))))) rfl rfl rfl).2]) (aI (aI (aT (@is_add64 Tryd.prog 22 22 (.tmp 12) (.const (.int .u64 1)) x1.2.1 1)) kV1) ((rnd (un_1_R1 q n1 n2 n3) (un_1_S1 q n1 n2 n3) (un_1_mu1 q n1 n2 n3) x1 ((x1.1+1,(x1.2.1+1),(pcod x1.2.2.1 x1.1 n4),(pcod x1.2.2.2.1 x1.1 n5),n7,n8):Nat × UInt64 × Nat × Nat × Nat × Nat) (show(un_1_R1 q n1 n2 n3) ((x1.1+1,(x1.2.1+1),(pcod x1.2.2.1 x1.1 n4),(pcod x1.2.2.2.1 x1.1 n5),n7,n8):Nat × UInt64 × Nat × Nat × Nat × Nat)∧(un_1_mu1 q n1 n2 n3) ((x1.1+1,(x1.2.1+1),(pcod x1.2.2.1 x1.1 n4),(pcod x1.2.2.2.1 x1.1 n5),n7,n8):Nat × UInt64 × Nat × Nat × Nat × Nat) < (un_1_mu1 q n1 n2 n3) x1 from(show((((x1.2.1+1):UInt64).toNat=(x1.1+1))∧((x1.1+1)≤10)∧((x1.1+1)≤(nz q n2 n3).toNat))∧(10 - (x1.1+1)) < (10 - x1.1) from by have h1:=cnt_next B0 h1; have h2:(nz q n2 n3).toNat≤10:=rsV_le _ _ 10; exact⟨⟨h1.1,by omega,by omega⟩,by omega⟩)))))))) (fun(h2:(decide (0 < usN (yz q n2 n3) (ez q n2 n3) x1.1))=false)=>have f5:=(oF h2); aI (show(⟨[(2,.v (u64 (rsV (recG (cpG q n2 n3)) 0 18446744073709551615))),(3,.v (gsV (Grw.mk false n7 (x1.1+1) n8 (catU ((gsOf x1.1 (usV (yz q n2 n3) (ez q n2 n3) x1.2.2.1 x1.2.2.2.1) x1.2.2.2.2.1 x1.2.2.2.2.2).f) x1.1 (fun _=>(qOf (Value.slice ((rz q n2 n3 x1.1 n4 n5).wa) ((rz q n2 n3 x1.1 n4 n5).wn) ((rz q n2 n3 x1.1 n4 n5).wc)))))))),(5,.v (ptr n1 0)),(11,.v (u64 (nz q n2 n3))),(12,.v (u64 x1.2.1))],[(0,some ⟨n1,true,0,(.lit [(Value.slice (((uz q n2 n3 (x1.1+1)).1).wa) (((uz q n2 n3 (x1.1+1)).1).wn) (((uz q n2 n3 (x1.1+1)).1).wc)),(int ((uz q n2 n3 (x1.1+1)).2))])⟩),(1,(gsE u8C [u8 0] 1 (cpG q n2 n3))),(2,(gsE slqC [Value.slice none 0 0] 1 (Grw.mk false n7 (x1.1+1) n8 (catU ((gsOf x1.1 (usV (yz q n2 n3) (ez q n2 n3) x1.2.2.1 x1.2.2.2.1) x1.2.2.2.2.1 x1.2.2.2.2.2).f) x1.1 (fun _=>(qOf (Value.slice ((rz q n2 n3 x1.1 n4 n5).wa) ((rz q n2 n3 x1.1 n4 n5).wn) ((rz q n2 n3 x1.1 n4 n5).wc)))))))),(3,(plU (yz q n2 n3) (ez q n2 n3) x1.2.2.1 x1.2.2.2.1 x1.1)),(4,(rbK (uz q n2 n3 x1.1).1 (uz q n2 n3 x1.1).2 1000 n4 n5))],5⟩:St)=⟨[(2,.v (u64 (rsV (recG (cpG q n2 n3)) 0 18446744073709551615))),(3,.v (gsV (Grw.mk false n7 (x1.1+1) n8 (catU ((gsOf x1.1 (usV (yz q n2 n3) (ez q n2 n3) x1.2.2.1 x1.2.2.2.1) x1.2.2.2.2.1 x1.2.2.2.2.2).f) x1.1 (fun _=>(qOf (Value.slice ((rz q n2 n3 x1.1 n4 n5).wa) ((rz q n2 n3 x1.1 n4 n5).wn) ((rz q n2 n3 x1.1 n4 n5).wc)))))))),(5,.v (ptr n1 0)),(11,.v (u64 (nz q n2 n3))),(12,.v (u64 x1.2.1))],[(0,some ⟨n1,true,0,(.lit [(Value.slice (((uz q n2 n3 (x1.1+1)).1).wa) (((uz q n2 n3 (x1.1+1)).1).wn) (((uz q n2 n3 (x1.1+1)).1).wc)),(int ((uz q n2 n3 (x1.1+1)).2))])⟩),(1,(gsE u8C [u8 0] 1 (cpG q n2 n3))),(2,(gsE slqC [Value.slice none 0 0] 1 (Grw.mk false n7 (x1.1+1) n8 (catU ((gsOf x1.1 (usV (yz q n2 n3) (ez q n2 n3) x1.2.2.1 x1.2.2.2.1) x1.2.2.2.2.1 x1.2.2.2.2.2).f) x1.1 (fun _=>(qOf (Value.slice ((rz q n2 n3 x1.1 n4 n5).wa) ((rz q n2 n3 x1.1 n4 n5).wn) ((rz q n2 n3 x1.1 n4 n5).wc)))))))),(3,(plU (yz q n2 n3) (ez q n2 n3) x1.2.2.1 x1.2.2.2.1 x1.1)),(4,none)],5⟩ from by unfold rz uz; rw [rbK_no (Q:=(yz q n2 n3)) (E:=(ez q n2 n3)) (k:=x1.1) (oF h2)]) (aI (show(⟨[(2,.v (u64 (rsV (recG (cpG q n2 n3)) 0 18446744073709551615))),(3,.v (gsV (Grw.mk false n7 (x1.1+1) n8 (catU ((gsOf x1.1 (usV (yz q n2 n3) (ez q n2 n3) x1.2.2.1 x1.2.2.2.1) x1.2.2.2.2.1 x1.2.2.2.2.2).f) x1.1 (fun _=>(qOf (Value.slice ((rz q n2 n3 x1.1 n4 n5).wa) ((rz q n2 n3 x1.1 n4 n5).wn) ((rz q n2 n3 x1.1 n4 n5).wc)))))))),(5,.v (ptr n1 0)),(11,.v (u64 (nz q n2 n3))),(12,.v (u64 x1.2.1))],[(0,some ⟨n1,true,0,(.lit [(Value.slice (((uz q n2 n3 (x1.1+1)).1).wa) (((uz q n2 n3 (x1.1+1)).1).wn) (((uz q n2 n3 (x1.1+1)).1).wc)),(int ((uz q n2 n3 (x1.1+1)).2))])⟩),(1,(gsE u8C [u8 0] 1 (cpG q n2 n3))),(2,(gsE slqC [Value.slice none 0 0] 1 (Grw.mk false n7 (x1.1+1) n8 (catU ((gsOf x1.1 (usV (yz q n2 n3) (ez q n2 n3) x1.2.2.1 x1.2.2.2.1) x1.2.2.2.2.1 x1.2.2.2.2.2).f) x1.1 (fun _=>(qOf (Value.slice ((rz q n2 n3 x1.1 n4 n5).wa) ((rz q n2 n3 x1.1 n4 n5).wn) ((rz q n2 n3 x1.1 n4 n5).wc)))))))),(3,(plU (yz q n2 n3) (ez q n2 n3) x1.2.2.1 x1.2.2.2.1 x1.1))],4⟩:St)=⟨[(2,.v (u64 (rsV (recG (cpG q n2 n3)) 0 18446744073709551615))),(3,.v (gsV (gsOf (x1.1+1) (usV (yz q n2 n3) (ez q n2 n3) (pcod x1.2.2.1 x1.1 n4) (pcod x1.2.2.2.1 x1.1 n5)) n7 n8))),(5,.v (ptr n1 0)),(11,.v (u64 (nz q n2 n3))),(12,.v (u64 x1.2.1))],[(0,some ⟨n1,true,0,(.lit [(Value.slice (((uz q n2 n3 (x1.1+1)).1).wa) (((uz q n2 n3 (x1.1+1)).1).wn) (((uz q n2 n3 (x1.1+1)).1).wc)),(int ((uz q n2 n3 (x1.1+1)).2))])⟩),(1,(gsE u8C [u8 0] 1 (cpG q n2 n3))),(2,(gsE slqC [Value.slice none 0 0] 1 (gsOf (x1.1+1) (usV (yz q n2 n3) (ez q n2 n3) (pcod x1.2.2.1 x1.1 n4) (pcod x1.2.2.2.1 x1.1 n5)) n7 n8))),(3,(plU (yz q n2 n3) (ez q n2 n3) (pcod x1.2.2.1 x1.1 n4) (pcod x1.2.2.2.1 x1.1 n5) (x1.1+1)))],4⟩ from by rw [plU_no (Q:=(yz q n2 n3)) (E:=(ez q n2 n3)) (c:=x1.2.2.1) (d:=x1.2.2.2.1) (k:=x1.1) (n1:=n4) (n2:=n5) (oF h2),(list_U (Q:=(yz q n2 n3)) (E:=(ez q n2 n3)) (c:=x1.2.2.1) (d:=x1.2.2.2.1) (k:=x1.1) (n1:=n4) (n2:=n5) (A:=Grw.mk false n7 (x1.1+1) n8 (catU ((gsOf x1.1 (usV (yz q n2 n3) (ez q n2 n3) x1.2.2.1 x1.2.2.2.1) x1.2.2.2.2.1 x1.2.2.2.2.2).f) x1.1 (fun _=>(qOf (Value.slice ((rz q n2 n3 x1.1 n4 n5).wa) ((rz q n2 n3 x1.1 n4 n5).wn) ((rz q n2 n3 x1.1 n4 n5).wc)))))) rfl rfl rfl).1,(list_U (Q:=(yz q n2 n3)) (E:=(ez q n2 n3)) (c:=x1.2.2.1) (d:=x1.2.2.2.1) (k:=x1.1) (n1:=n4) (n2:=n5) (A:=Grw.mk false n7 (x1.1+1) n8 (catU ((gsOf x1.1 (usV (yz q n2 n3) (ez q n2 n3) x1.2.2.1 x1.2.2.2.1) x1.2.2.2.2.1 x1.2.2.2.2.2).f) x1.1 (fun _=>(qOf (Value.slice ((rz q n2 n3 x1.1 n4 n5).wa) ((rz q n2 n3 x1.1 n4 n5).wn) ((rz q n2 n3 x1.1 n4 n5).wc)))))) rfl rfl rfl).2]) (aI (aI (aT (@is_add64 Tryd.prog 22 22 (.tmp 12) (.const (.int .u64 1)) x1.2.1 1)) kV1) ((rnd (un_1_R1 q n1 n2 n3) (un_1_S1 q n1 n2 n3) (un_1_mu1 q n1 n2 n3) x1 ((x1.1+1,(x1.2.1+1),(pcod x1.2.2.1 x1.1 n4),(pcod x1.2.2.2.1 x1.1 n5),n7,n8):Nat × UInt64 × Nat × Nat × Nat × Nat) (show(un_1_R1 q n1 n2 n3) ((x1.1+1,(x1.2.1+1),(pcod x1.2.2.1 x1.1 n4),(pcod x1.2.2.2.1 x1.1 n5),n7,n8):Nat × UInt64 × Nat × Nat × Nat × Nat)∧(un_1_mu1 q n1 n2 n3) ((x1.1+1,(x1.2.1+1),(pcod x1.2.2.1 x1.1 n4),(pcod x1.2.2.2.1 x1.1 n5),n7,n8):Nat × UInt64 × Nat × Nat × Nat × Nat) < (un_1_mu1 q n1 n2 n3) x1 from(show((((x1.2.1+1):UInt64).toNat=(x1.1+1))∧((x1.1+1)≤10)∧((x1.1+1)≤(nz q n2 n3).toNat))∧(10 - (x1.1+1)) < (10 - x1.1) from by have h1:=cnt_next B0 h1; have h2:(nz q n2 n3).toNat≤10:=rsV_le _ _ 10; exact⟨⟨h1.1,by omega,by omega⟩,by omega⟩))))))))) (fun(h1:(decide (x1.2.1 < (nz q n2 n3)))=false)=>have f4:=(oF h1); aI (sk (aI (aT (rend_as (F:=famB q) n1 (uz q n2 n3 x1.1).1 (uz q n2 n3 x1.1).2 (uD q) (by have e:x1.1=uN (recG (cpG q n2 n3)):=cnt_end B0 B2 h1; rw [e]; exact(same_cp hq n2 n3).uD))) kV1)) (aI (sK3 (aI (fun(hg:(sB (((uD q):Int) == 0) true)=true)=>t2) (aI (fun(hg:(sB (((uD q):Int) == 0) true)=true)=>have f5:(((uD q):Int) == 0)=true:=(sameB_t hg); (aI (aI hg tV) (hasU (F:=famB q) (Q:=(yz q n2 n3)) (E:=(ez q n2 n3)) (c:=x1.2.2.1) (d:=x1.2.2.2.1) (k:=x1.1) (nm:=x1.2.2.2.2.1) (r:=x1.2.2.2.2.2) B1 (fun i=>Nat.le_trans (rbN_100 (RdR.small (RdR.small (rd_first hq hl n2 n3) 0 18446744073709551615) (rsE (recG (cpG q n2 n3)) 0 18446744073709551615) 10) (ez q n2 n3) i) (by decide))))) (aI (fun(hg:(sB (((uD q):Int) == 0) true)=true)=>(aI (aI hg tV) tV)) (aI (fun(hg:(selB (sB (((uD q):Int) == 0) true) (sB (inB (usB (yz q n2 n3) (ez q n2 n3)) x1.1 (bytZ none 0)) false) false)=true)=>t2) (aI (fun(hg:(selB (sB (((uD q):Int) == 0) true) (sB (inB (usB (yz q n2 n3) (ez q n2 n3)) x1.1 (bytZ none 0)) false) false)=true)=>have f5:(((uD q):Int) == 0)=true:=(sameB_t (pickl hg)); have f6:(inB (usB (yz q n2 n3) (ez q n2 n3)) x1.1 (bytZ none 0))=false:=(sameB_f (pickr hg)); (aI (aI hg tV) (twU (F:=famB q) (Q:=(yz q n2 n3)) (E:=(ez q n2 n3)) (c:=x1.2.2.1) (d:=x1.2.2.2.1) (k:=x1.1) (nm:=x1.2.2.2.2.1) (r:=x1.2.2.2.2.2) B1 (fun i=>Nat.le_trans (rbN_100 (RdR.small (RdR.small (rd_first hq hl n2 n3) 0 18446744073709551615) (rsE (recG (cpG q n2 n3)) 0 18446744073709551615) 10) (ez q n2 n3) i) (by decide))))) (aI (fun(hg:(sB (((uD q):Int) == 0) true)=true)=>(aI hg (aI (fun(_:(inB (usB (yz q n2 n3) (ez q n2 n3)) x1.1 (bytZ none 0))=true)=>tV) (fun(hp:(inB (usB (yz q n2 n3) (ez q n2 n3)) x1.1 (bytZ none 0))=false)=>(pickm hg (sameB_mkf hp)))))) (aI (aT (aI (fun(hp:(((uD q):Int) == 0)=true)=>(sameB_mk hp)) (fun(_:(((uD q):Int) == 0)=false)=>tV))) tV)))))))) ((fun(hp3:(selB (((uD q):Int) == 0) (selB (inB (usB (yz q n2 n3) (ez q n2 n3)) x1.1 (bytZ none 0)) true (twB (usB (yz q n2 n3) (ez q n2 n3)) x1.1)) false)=false)=>aT (aI hp3 (aI kV2 ((fun(hp4:(((uD q):Int) != 0)=true)=>aT (aI hp4 (aI kV4 (aT (eX (fun(ns:List Nat)=>ns.length=0∧((Value.tuple #[(u64 0),(Value.slice none 0 0),(int (uD q))]):Value)=(fun _=>Value.tuple #[u64 0,Value.slice none 0 0,int (uD q)]) ns∧([]:List (Option Blk))=(fun _=>[]) ns) [] (aI (@rfl Nat 0) (aI (@rfl Value (Value.tuple #[u64 0,Value.slice none 0 0,int (uD q)])) (@rfl (List (Option Blk)) [])))))))) (show(((uD q):Int) != 0)=true from by simpa using hd))))) (show(selB (((uD q):Int) == 0) (selB (inB (usB (yz q n2 n3) (ez q n2 n3)) x1.1 (bytZ none 0)) true (twB (usB (yz q n2 n3) (ez q n2 n3)) x1.1)) false)=false from by rw [show(uD q == 0)=false from by simpa using hd] <;> rfl)))))))))))))))
def un_2_S1 (q:BytL) (n1:Nat) (n2:Nat) (n3:Nat) (x1:Nat × UInt64 × Nat × Nat × Nat × Nat):St:=⟨[(2,.v (u64 (rsV (recG (cpG q n2 n3)) 0 18446744073709551615))),(3,.v (gsV (gsOf x1.1 (usV (yz q n2 n3) (ez q n2 n3) x1.2.2.1 x1.2.2.2.1) x1.2.2.2.2.1 x1.2.2.2.2.2))),(5,.v (ptr n1 0)),(11,.v (u64 (nz q n2 n3))),(12,.v (u64 x1.2.1))],[(0,some ⟨n1,true,0,(.lit [(Value.slice (((uz q n2 n3 x1.1).1).wa) (((uz q n2 n3 x1.1).1).wn) (((uz q n2 n3 x1.1).1).wc)),(int ((uz q n2 n3 x1.1).2))])⟩),(1,(gsE u8C [u8 0] 1 (cpG q n2 n3))),(2,(gsE slqC [Value.slice none 0 0] 1 (gsOf x1.1 (usV (yz q n2 n3) (ez q n2 n3) x1.2.2.1 x1.2.2.2.1) x1.2.2.2.2.1 x1.2.2.2.2.2))),(3,(plU (yz q n2 n3) (ez q n2 n3) x1.2.2.1 x1.2.2.2.1 x1.1))],4⟩
def un_2_R1 (q:BytL) (n1:Nat) (n2:Nat) (n3:Nat) (x1:Nat × UInt64 × Nat × Nat × Nat × Nat):Prop:=((x1.2.1:UInt64).toNat=x1.1)∧(x1.1≤10)∧(x1.1≤(nz q n2 n3).toNat)
def un_2_mu1 (q:BytL) (n1:Nat) (n2:Nat) (n3:Nat) (x1:Nat × UInt64 × Nat × Nat × Nat × Nat):Nat:=10 - x1.1
theorem un_2 (q:BytL) (hq:OkB q) (hl:q.wn≤100000) (hd:uD q=0) (hb:uB q=true):RunsO (famB q) Tryd.prog 8 [(Value.slice q.wa q.wn q.wc)] [] 0 (fun _=>Value.tuple #[u64 0,Value.slice none 0 0,int 31]) (fun _=>[]) :=
  runsO_of_ev mix Tryd.func8 rfl rfl 400 (.reg (rg [.g,.g,.g]) (.regn (rg [.g,(.callO [] 3 2 (fun ns=>ptr (ns.getD 0 0) 0) (fun ns=>[some ⟨(ns.getD 0 0),true,0,.lit [gsV (cpG q (ns.getD 1 0) (ns.getD 2 0)),int 0]⟩,(gsE u8C [u8 0] 1 (cpG q (ns.getD 1 0) (ns.getD 2 0)))])),.g]) (more (fun n1=>more (fun n2=>more (fun n3=>fun _=>(.reg (rg [.g,(.callO [(0,false),(1,true)] 0 0 (fun _=>(u64 (rsV (recG (cpG q n2 n3)) 0 18446744073709551615))) (fun _=>[some ⟨n1,true,0,.lit [slqV (rsQ (recG (cpG q n2 n3)) 0 18446744073709551615),int (rsE (recG (cpG q n2 n3)) 0 18446744073709551615)]⟩,none])),.g]) (.keep [0,2,3,4,6,7,5,8,9] [0,1] 4 (.reg (rg [.g,(.callO [(0,false),(1,true)] 0 0 (fun _=>(u64 (nz q n2 n3))) (fun _=>[some ⟨n1,true,0,.lit [slqV (yz q n2 n3),int (ez q n2 n3)]⟩,none])),.g]) (.inv [2,3,5,11,12] [0,1,2,3] 4 (un_2_R1 q n1 n2 n3) (un_2_S1 q n1 n2 n3) (un_2_mu1 q n1 n2 n3) ((0,0,0,0,0,0):Nat × UInt64 × Nat × Nat × Nat × Nat) (fun(x1:Nat × UInt64 × Nat × Nat × Nat × Nat)=>(.reg (rg [(.as (Value.bool (decide (x1.2.1 < (nz q n2 n3)))))]) (.br (.regn (rg [.g,.g,(.callO [(0,false),(1,true)] 2 1 (fun ns=>slqV (rbV (uz q n2 n3 x1.1).1 (uz q n2 n3 x1.1).2 1000 (ns.getD 0 0) (ns.getD 1 0))) (fun ns=>[some ⟨n1,true,0,.lit [slqV ((uz q n2 n3 (x1.1+1)).1),int ((uz q n2 n3 (x1.1+1)).2)]⟩,none,(rbK (uz q n2 n3 x1.1).1 (uz q n2 n3 x1.1).2 1000 (ns.getD 0 0) (ns.getD 1 0))])),.bsl,(.othOB [(2,false),(5,true)] 2 0 (fun ns=>gsV (Grw.mk false (ns.getD 0 0) (x1.1+1) (ns.getD 1 0) (catU ((gsOf x1.1 (usV (yz q n2 n3) (ez q n2 n3) x1.2.2.1 x1.2.2.2.1) x1.2.2.2.2.1 x1.2.2.2.2.2).f) x1.1 ((gsOf x1.1 (usV (yz q n2 n3) (ez q n2 n3) x1.2.2.1 x1.2.2.2.1) x1.2.2.2.2.1 x1.2.2.2.2.2).f)))) (fun bs ns=>[(gsE slqC [Value.slice none 0 0] 1 (Grw.mk false (ns.getD 0 0) (x1.1+1) (ns.getD 1 0) (catU ((gsOf x1.1 (usV (yz q n2 n3) (ez q n2 n3) x1.2.2.1 x1.2.2.2.1) x1.2.2.2.2.1 x1.2.2.2.2.2).f) x1.1 (fun _=>qOf (cellO bs 1))))),none])),.g]) (more (fun n4=>more (fun n5=>more (fun n6=>more (fun n7=>more (fun n8=>fun _=>(.both (decide (0 < usN (yz q n2 n3) (ez q n2 n3) x1.1)) (.keep [2,3,5,11,12] [0,1,2,3,4] 5 (.told ⟨[(2,.v (u64 (rsV (recG (cpG q n2 n3)) 0 18446744073709551615))),(3,.v (gsV (Grw.mk false n7 (x1.1+1) n8 (catU ((gsOf x1.1 (usV (yz q n2 n3) (ez q n2 n3) x1.2.2.1 x1.2.2.2.1) x1.2.2.2.2.1 x1.2.2.2.2.2).f) x1.1 (fun _=>(qOf (Value.slice ((rz q n2 n3 x1.1 n4 n5).wa) ((rz q n2 n3 x1.1 n4 n5).wn) ((rz q n2 n3 x1.1 n4 n5).wc)))))))),(5,.v (ptr n1 0)),(11,.v (u64 (nz q n2 n3))),(12,.v (u64 x1.2.1))],[(0,some ⟨n1,true,0,(.lit [(Value.slice (((uz q n2 n3 (x1.1+1)).1).wa) (((uz q n2 n3 (x1.1+1)).1).wn) (((uz q n2 n3 (x1.1+1)).1).wc)),(int ((uz q n2 n3 (x1.1+1)).2))])⟩),(1,(gsE u8C [u8 0] 1 (cpG q n2 n3))),(2,(gsE slqC [Value.slice none 0 0] 1 (Grw.mk false n7 (x1.1+1) n8 (catU ((gsOf x1.1 (usV (yz q n2 n3) (ez q n2 n3) x1.2.2.1 x1.2.2.2.1) x1.2.2.2.2.1 x1.2.2.2.2.2).f) x1.1 (fun _=>(qOf (Value.slice ((rz q n2 n3 x1.1 n4 n5).wa) ((rz q n2 n3 x1.1 n4 n5).wn) ((rz q n2 n3 x1.1 n4 n5).wc)))))))),(3,(plU (yz q n2 n3) (ez q n2 n3) x1.2.2.1 x1.2.2.2.1 x1.1)),(4,some ⟨n4,true,0,(spr (usN (yz q n2 n3) (ez q n2 n3) x1.1+n5) (usN (yz q n2 n3) (ez q n2 n3) x1.1) (fun k=>u8 (usW (yz q n2 n3) (ez q n2 n3) x1.1 k)) (u8 0))⟩)],5⟩ (.pack 4 3 10 (gU (yz q n2 n3) (ez q n2 n3) (pcod x1.2.2.1 x1.1 n4) (pcod x1.2.2.2.1 x1.1 n5) (x1.1+1)) (.keep [2,3,5,11,12] [0,1,2,3] 4 (.told ⟨[(2,.v (u64 (rsV (recG (cpG q n2 n3)) 0 18446744073709551615))),(3,.v (gsV (gsOf (x1.1+1) (usV (yz q n2 n3) (ez q n2 n3) (pcod x1.2.2.1 x1.1 n4) (pcod x1.2.2.2.1 x1.1 n5)) n7 n8))),(5,.v (ptr n1 0)),(11,.v (u64 (nz q n2 n3))),(12,.v (u64 x1.2.1))],[(0,some ⟨n1,true,0,(.lit [(Value.slice (((uz q n2 n3 (x1.1+1)).1).wa) (((uz q n2 n3 (x1.1+1)).1).wn) (((uz q n2 n3 (x1.1+1)).1).wc)),(int ((uz q n2 n3 (x1.1+1)).2))])⟩),(1,(gsE u8C [u8 0] 1 (cpG q n2 n3))),(2,(gsE slqC [Value.slice none 0 0] 1 (gsOf (x1.1+1) (usV (yz q n2 n3) (ez q n2 n3) (pcod x1.2.2.1 x1.1 n4) (pcod x1.2.2.2.1 x1.1 n5)) n7 n8))),(3,(plU (yz q n2 n3) (ez q n2 n3) (pcod x1.2.2.1 x1.1 n4) (pcod x1.2.2.2.1 x1.1 n5) (x1.1+1)))],4⟩ (.reg (rg [(.as (u64 (x1.2.1+1))),.g]) .done)))))) (.keep [2,3,5,11,12] [0,1,2,3,4] 5 (.told ⟨[(2,.v (u64 (rsV (recG (cpG q n2 n3)) 0 18446744073709551615))),(3,.v (gsV (Grw.mk false n7 (x1.1+1) n8 (catU ((gsOf x1.1 (usV (yz q n2 n3) (ez q n2 n3) x1.2.2.1 x1.2.2.2.1) x1.2.2.2.2.1 x1.2.2.2.2.2).f) x1.1 (fun _=>(qOf (Value.slice ((rz q n2 n3 x1.1 n4 n5).wa) ((rz q n2 n3 x1.1 n4 n5).wn) ((rz q n2 n3 x1.1 n4 n5).wc)))))))),(5,.v (ptr n1 0)),(11,.v (u64 (nz q n2 n3))),(12,.v (u64 x1.2.1))],[(0,some ⟨n1,true,0,(.lit [(Value.slice (((uz q n2 n3 (x1.1+1)).1).wa) (((uz q n2 n3 (x1.1+1)).1).wn) (((uz q n2 n3 (x1.1+1)).1).wc)),(int ((uz q n2 n3 (x1.1+1)).2))])⟩),(1,(gsE u8C [u8 0] 1 (cpG q n2 n3))),(2,(gsE slqC [Value.slice none 0 0] 1 (Grw.mk false n7 (x1.1+1) n8 (catU ((gsOf x1.1 (usV (yz q n2 n3) (ez q n2 n3) x1.2.2.1 x1.2.2.2.1) x1.2.2.2.2.1 x1.2.2.2.2.2).f) x1.1 (fun _=>(qOf (Value.slice ((rz q n2 n3 x1.1 n4 n5).wa) ((rz q n2 n3 x1.1 n4 n5).wn) ((rz q n2 n3 x1.1 n4 n5).wc)))))))),(3,(plU (yz q n2 n3) (ez q n2 n3) x1.2.2.1 x1.2.2.2.1 x1.1)),(4,none)],5⟩ (.keep [2,3,5,11,12] [0,1,2,3] 4 (.told ⟨[(2,.v (u64 (rsV (recG (cpG q n2 n3)) 0 18446744073709551615))),(3,.v (gsV (gsOf (x1.1+1) (usV (yz q n2 n3) (ez q n2 n3) (pcod x1.2.2.1 x1.1 n4) (pcod x1.2.2.2.1 x1.1 n5)) n7 n8))),(5,.v (ptr n1 0)),(11,.v (u64 (nz q n2 n3))),(12,.v (u64 x1.2.1))],[(0,some ⟨n1,true,0,(.lit [(Value.slice (((uz q n2 n3 (x1.1+1)).1).wa) (((uz q n2 n3 (x1.1+1)).1).wn) (((uz q n2 n3 (x1.1+1)).1).wc)),(int ((uz q n2 n3 (x1.1+1)).2))])⟩),(1,(gsE u8C [u8 0] 1 (cpG q n2 n3))),(2,(gsE slqC [Value.slice none 0 0] 1 (gsOf (x1.1+1) (usV (yz q n2 n3) (ez q n2 n3) (pcod x1.2.2.1 x1.1 n4) (pcod x1.2.2.2.1 x1.1 n5)) n7 n8))),(3,(plU (yz q n2 n3) (ez q n2 n3) (pcod x1.2.2.1 x1.1 n4) (pcod x1.2.2.2.1 x1.1 n5) (x1.1+1)))],4⟩ (.reg (rg [(.as (u64 (x1.2.1+1))),.g]) .done))))))))))))) (.reg (rg [.g,(.callO [(0,true)] 0 0 (fun _=>(int 0)) (fun _=>[none])),.g]) (.reg (rg [.g,.g,.g,(.run .g),(.run (.callO [(2,true),(3,true)] 0 0 (fun _=>(Value.bool (inB (usB (yz q n2 n3) (ez q n2 n3)) x1.1 (bytZ none 0)))) (fun _=>[none,none]))),(.run .g),(.opt .g),(.opt (.callO [(2,true),(3,true)] 0 0 (fun _=>(Value.bool (twB (usB (yz q n2 n3) (ez q n2 n3)) x1.1))) (fun _=>[none,none]))),(.run .pk),.pk]) (.yes (.reg (rg [.g]) (.reg (rg [.g,.g]) (.yes (.reg (rg [.g,.g,.g,.g]) .done)))))))))))))))))))) [] [] rfl
    (Eq.mp (by kernel_rfl) (aI kV3 (fun(n1 n2 n3:Nat)=>aI (sk (aI (aT (new_G q hq (Nat.le_trans hl (by decide)))) kV1)) (aI (sk (aI (aT (RdR.lend (F:=famB q) (rd_first hq hl n2 n3) (rsmall_fam n1 (recG (cpG q n2 n3)) 0 18446744073709551615 (rd_first hq hl n2 n3).ok (rd_first hq hl n2 n3).le) (fun _=>⟨rfl,tV⟩))) kV1)) ((aI (sk (aI (aT (RdR.lend (F:=famB q) (RdR.small (rd_first hq hl n2 n3) 0 18446744073709551615) (rsmall_fam n1 (rsQ (recG (cpG q n2 n3)) 0 18446744073709551615) (rsE (recG (cpG q n2 n3)) 0 18446744073709551615) 10 (RdR.small (rd_first hq hl n2 n3) 0 18446744073709551615).ok (RdR.small (rd_first hq hl n2 n3) 0 18446744073709551615).le) (fun _=>⟨rfl,tV⟩))) kV1)) (aI (show(un_2_R1 q n1 n2 n3) ((0,0,0,0,0,0):Nat × UInt64 × Nat × Nat × Nat × Nat) from(show((0:UInt64).toNat=0)∧(0≤10)∧(0≤(nz q n2 n3).toNat) from by exact⟨rfl,by decide,Nat.zero_le _⟩)) (aI (@rfl St ((un_2_S1 q n1 n2 n3) ((0,0,0,0,0,0):Nat × UInt64 × Nat × Nat × Nat × Nat))) (fun(x1:Nat × UInt64 × Nat × Nat × Nat × Nat) (hx1:(un_2_R1 q n1 n2 n3) x1)=>have B0:(x1.2.1:UInt64).toNat=x1.1:=hx1.1; have B1:x1.1≤10:=hx1.2.1; have B2:x1.1≤(nz q n2 n3).toNat:=hx1.2.2; aI (aI (aT (@is_lss64 Tryd.prog 22 22 (.tmp 12) (.tmp 11) x1.2.1 (nz q n2 n3))) tV) (aT (aI (fun(h1:(decide (x1.2.1 < (nz q n2 n3)))=true)=>have f4:=(oT h1); fun(n4 n5 n6 n7 n8:Nat)=>aI (sK2 (aI (aT (RdR.lend (F:=famB q) (RdR.us (RdR.small (RdR.small (rd_first hq hl n2 n3) 0 18446744073709551615) (rsE (recG (cpG q n2 n3)) 0 18446744073709551615) 10) (ez q n2 n3) x1.1) (rbytes_v n1 (uz q n2 n3 x1.1).1 (uz q n2 n3 x1.1).2 1000 (RdR.us (RdR.small (RdR.small (rd_first hq hl n2 n3) 0 18446744073709551615) (rsE (recG (cpG q n2 n3)) 0 18446744073709551615) 10) (ez q n2 n3) x1.1).ok (RdR.us (RdR.small (RdR.small (rd_first hq hl n2 n3) 0 18446744073709551615) (rsE (recG (cpG q n2 n3)) 0 18446744073709551615) 10) (ez q n2 n3) x1.1).le (by decide)) (fun _=>⟨rfl,rbK_own⟩))) (aI (aT (mk_build (P:=Tryd.prog) (t:=23) (e:=24) one24 1 #[(0,(Value.slice ((rz q n2 n3 x1.1 n4 n5).wa) ((rz q n2 n3 x1.1 n4 n5).wn) ((rz q n2 n3 x1.1 n4 n5).wc)))] #[(Value.slice ((rz q n2 n3 x1.1 n4 n5).wa) ((rz q n2 n3 x1.1 n4 n5).wn) ((rz q n2 n3 x1.1 n4 n5).wc))] (by kernel_rfl) (by decide) (by kernel_rfl))) (aI (aT (mkG_catE (P:=Tryd.prog) (t:=23) (ty:=23) (e:=24) (by kernel_rfl) agg24 (gsOf x1.1 (usV (yz q n2 n3) (ez q n2 n3) x1.2.2.1 x1.2.2.2.1) x1.2.2.2.2.1 x1.2.2.2.2.2) (gsOf_ok _ _ _ _) slqC_ok (fun _=>(qOf (Value.slice ((rz q n2 n3 x1.1 n4 n5).wa) ((rz q n2 n3 x1.1 n4 n5).wn) ((rz q n2 n3 x1.1 n4 n5).wc)))) 1 (some ⟨n6,0,none⟩) 1 (some ⟨n6,false,0,(.lit [(Value.slice ((rz q n2 n3 x1.1 n4 n5).wa) ((rz q n2 n3 x1.1 n4 n5).wn) ((rz q n2 n3 x1.1 n4 n5).wc))])⟩) (fun _=>⟨_,_,_,_,rfl,rfl,(lit_src (sz:=1) (l:=slqC (qOf (Value.slice ((rz q n2 n3 x1.1 n4 n5).wa) ((rz q n2 n3 x1.1 n4 n5).wn) ((rz q n2 n3 x1.1 n4 n5).wc)))) rfl)⟩) (show(x1.1+1)*24≤140737488355328∧x1.1+1≤9223372036854775807 from by omega))) kV1)))) (aI (fun(h2:(decide (0 < usN (yz q n2 n3) (ez q n2 n3) x1.1))=true)=>have f5:=(oT h2); aI (show(⟨[(2,.v (u64 (rsV (recG (cpG q n2 n3)) 0 18446744073709551615))),(3,.v (gsV (Grw.mk false n7 (x1.1+1) n8 (catU ((gsOf x1.1 (usV (yz q n2 n3) (ez q n2 n3) x1.2.2.1 x1.2.2.2.1) x1.2.2.2.2.1 x1.2.2.2.2.2).f) x1.1 (fun _=>(qOf (Value.slice ((rz q n2 n3 x1.1 n4 n5).wa) ((rz q n2 n3 x1.1 n4 n5).wn) ((rz q n2 n3 x1.1 n4 n5).wc)))))))),(5,.v (ptr n1 0)),(11,.v (u64 (nz q n2 n3))),(12,.v (u64 x1.2.1))],[(0,some ⟨n1,true,0,(.lit [(Value.slice (((uz q n2 n3 (x1.1+1)).1).wa) (((uz q n2 n3 (x1.1+1)).1).wn) (((uz q n2 n3 (x1.1+1)).1).wc)),(int ((uz q n2 n3 (x1.1+1)).2))])⟩),(1,(gsE u8C [u8 0] 1 (cpG q n2 n3))),(2,(gsE slqC [Value.slice none 0 0] 1 (Grw.mk false n7 (x1.1+1) n8 (catU ((gsOf x1.1 (usV (yz q n2 n3) (ez q n2 n3) x1.2.2.1 x1.2.2.2.1) x1.2.2.2.2.1 x1.2.2.2.2.2).f) x1.1 (fun _=>(qOf (Value.slice ((rz q n2 n3 x1.1 n4 n5).wa) ((rz q n2 n3 x1.1 n4 n5).wn) ((rz q n2 n3 x1.1 n4 n5).wc)))))))),(3,(plU (yz q n2 n3) (ez q n2 n3) x1.2.2.1 x1.2.2.2.1 x1.1)),(4,(rbK (uz q n2 n3 x1.1).1 (uz q n2 n3 x1.1).2 1000 n4 n5))],5⟩:St)=⟨[(2,.v (u64 (rsV (recG (cpG q n2 n3)) 0 18446744073709551615))),(3,.v (gsV (Grw.mk false n7 (x1.1+1) n8 (catU ((gsOf x1.1 (usV (yz q n2 n3) (ez q n2 n3) x1.2.2.1 x1.2.2.2.1) x1.2.2.2.2.1 x1.2.2.2.2.2).f) x1.1 (fun _=>(qOf (Value.slice ((rz q n2 n3 x1.1 n4 n5).wa) ((rz q n2 n3 x1.1 n4 n5).wn) ((rz q n2 n3 x1.1 n4 n5).wc)))))))),(5,.v (ptr n1 0)),(11,.v (u64 (nz q n2 n3))),(12,.v (u64 x1.2.1))],[(0,some ⟨n1,true,0,(.lit [(Value.slice (((uz q n2 n3 (x1.1+1)).1).wa) (((uz q n2 n3 (x1.1+1)).1).wn) (((uz q n2 n3 (x1.1+1)).1).wc)),(int ((uz q n2 n3 (x1.1+1)).2))])⟩),(1,(gsE u8C [u8 0] 1 (cpG q n2 n3))),(2,(gsE slqC [Value.slice none 0 0] 1 (Grw.mk false n7 (x1.1+1) n8 (catU ((gsOf x1.1 (usV (yz q n2 n3) (ez q n2 n3) x1.2.2.1 x1.2.2.2.1) x1.2.2.2.2.1 x1.2.2.2.2.2).f) x1.1 (fun _=>(qOf (Value.slice ((rz q n2 n3 x1.1 n4 n5).wa) ((rz q n2 n3 x1.1 n4 n5).wn) ((rz q n2 n3 x1.1 n4 n5).wc)))))))),(3,(plU (yz q n2 n3) (ez q n2 n3) x1.2.2.1 x1.2.2.2.1 x1.1)),(4,some ⟨n4,true,0,(spr (usN (yz q n2 n3) (ez q n2 n3) x1.1+n5) (usN (yz q n2 n3) (ez q n2 n3) x1.1) (fun k=>u8 (usW (yz q n2 n3) (ez q n2 n3) x1.1 k)) (u8 0))⟩)],5⟩ from by unfold rz uz; rw [rbK_pos (Q:=(yz q n2 n3)) (E:=(ez q n2 n3)) (k:=x1.1) (oT h2)]) (aI (pack_U (Q:=(yz q n2 n3)) (E:=(ez q n2 n3)) (c:=x1.2.2.1) (d:=x1.2.2.2.1) (k:=x1.1) (n1:=n4) (n2:=n5) (oT h2)) (aI (show(⟨[(2,.v (u64 (rsV (recG (cpG q n2 n3)) 0 18446744073709551615))),(3,.v (gsV (Grw.mk false n7 (x1.1+1) n8 (catU ((gsOf x1.1 (usV (yz q n2 n3) (ez q n2 n3) x1.2.2.1 x1.2.2.2.1) x1.2.2.2.2.1 x1.2.2.2.2.2).f) x1.1 (fun _=>(qOf (Value.slice ((rz q n2 n3 x1.1 n4 n5).wa) ((rz q n2 n3 x1.1 n4 n5).wn) ((rz q n2 n3 x1.1 n4 n5).wc)))))))),(5,.v (ptr n1 0)),(11,.v (u64 (nz q n2 n3))),(12,.v (u64 x1.2.1))],[(0,some ⟨n1,true,0,(.lit [(Value.slice (((uz q n2 n3 (x1.1+1)).1).wa) (((uz q n2 n3 (x1.1+1)).1).wn) (((uz q n2 n3 (x1.1+1)).1).wc)),(int ((uz q n2 n3 (x1.1+1)).2))])⟩),(1,(gsE u8C [u8 0] 1 (cpG q n2 n3))),(2,(gsE slqC [Value.slice none 0 0] 1 (Grw.mk false n7 (x1.1+1) n8 (catU ((gsOf x1.1 (usV (yz q n2 n3) (ez q n2 n3) x1.2.2.1 x1.2.2.2.1) x1.2.2.2.2.1 x1.2.2.2.2.2).f) x1.1 (fun _=>(qOf (Value.slice ((rz q n2 n3 x1.1 n4 n5).wa) ((rz q n2 n3 x1.1 n4 n5).wn) ((rz q n2 n3 x1.1 n4 n5).wc)))))))),(3,some ⟨n4,true,0,.pile 10 (gU (yz q n2 n3) (ez q n2 n3) (pcod x1.2.2.1 x1.1 n4) (pcod x1.2.2.2.1 x1.1 n5) (x1.1+1))⟩)],4⟩:St)=⟨[(2,.v (u64 (rsV (recG (cpG q n2 n3)) 0 18446744073709551615))),(3,.v (gsV (gsOf (x1.1+1) (usV (yz q n2 n3) (ez q n2 n3) (pcod x1.2.2.1 x1.1 n4) (pcod x1.2.2.2.1 x1.1 n5)) n7 n8))),(5,.v (ptr n1 0)),(11,.v (u64 (nz q n2 n3))),(12,.v (u64 x1.2.1))],[(0,some ⟨n1,true,0,(.lit [(Value.slice (((uz q n2 n3 (x1.1+1)).1).wa) (((uz q n2 n3 (x1.1+1)).1).wn) (((uz q n2 n3 (x1.1+1)).1).wc)),(int ((uz q n2 n3 (x1.1+1)).2))])⟩),(1,(gsE u8C [u8 0] 1 (cpG q n2 n3))),(2,(gsE slqC [Value.slice none 0 0] 1 (gsOf (x1.1+1) (usV (yz q n2 n3) (ez q n2 n3) (pcod x1.2.2.1 x1.1 n4) (pcod x1.2.2.2.1 x1.1 n5)) n7 n8))),(3,(plU (yz q n2 n3) (ez q n2 n3) (pcod x1.2.2.1 x1.1 n4) (pcod x1.2.2.2.1 x1.1 n5) (x1.1+1)))],4⟩ from by rw [plU_yes (Q:=(yz q n2 n3)) (E:=(ez q n2 n3)) (c:=x1.2.2.1) (d:=x1.2.2.2.1) (k:=x1.1) (n1:=n4) (n2:=n5) (oT h2),(list_U (Q:=(yz q n2 n3)) (E:=(ez q n2 n3)) (c:=x1.2.2.1) (d:=x1.2.2.2.1) (k:=x1.1) (n1:=n4) (n2:=n5) (A:=Grw.mk false n7 (x1.1+1) n8 (catU ((gsOf x1.1 (usV (yz q n2 n3) (ez q n2 n3) x1.2.2.1 x1.2.2.2.1) x1.2.2.2.2.1 x1.2.2.2.2.2).f) x1.1 (fun _=>(qOf (Value.slice ((rz q n2 n3 x1.1 n4 n5).wa) ((rz q n2 n3 x1.1 n4 n5).wn) ((rz q n2 n3 x1.1 n4 n5).wc)))))) rfl rfl rfl).1,(list_U (Q:=(yz q n2 n3)) (E:=(ez q n2 n3)) (c:=x1.2.2.1) (d:=x1.2.2.2.1) (k:=x1.1) (n1:=n4) (n2:=n5) (A:=Grw.mk false n7 (x1.1+1) n8 (catU ((gsOf x1.1 (usV (yz q n2 n3) (ez q n2 n3) x1.2.2.1 x1.2.2.2.1) x1.2.2.2.2.1 x1.2.2.2.2.2).f) x1.1 (fun _=>(qOf (Value.slice ((rz q n2 n3 x1.1 n4 n5).wa) ((rz q n2 n3 x1.1 n4 n5).wn) ((rz q n2 n3 x1.1 n4 n5).wc)))))) rfl rfl rfl).2]) (aI (aI (aT (@is_add64 Tryd.prog 22 22 (.tmp 12) (.const (.int .u64 1)) x1.2.1 1)) kV1) ((rnd (un_2_R1 q n1 n2 n3) (un_2_S1 q n1 n2 n3) (un_2_mu1 q n1 n2 n3) x1 ((x1.1+1,(x1.2.1+1),(pcod x1.2.2.1 x1.1 n4),(pcod x1.2.2.2.1 x1.1 n5),n7,n8):Nat × UInt64 × Nat × Nat × Nat × Nat) (show(un_2_R1 q n1 n2 n3) ((x1.1+1,(x1.2.1+1),(pcod x1.2.2.1 x1.1 n4),(pcod x1.2.2.2.1 x1.1 n5),n7,n8):Nat × UInt64 × Nat × Nat × Nat × Nat)∧(un_2_mu1 q n1 n2 n3) ((x1.1+1,(x1.2.1+1),(pcod x1.2.2.1 x1.1 n4),(pcod x1.2.2.2.1 x1.1 n5),n7,n8):Nat × UInt64 × Nat × Nat × Nat × Nat) < (un_2_mu1 q n1 n2 n3) x1 from(show((((x1.2.1+1):UInt64).toNat=(x1.1+1))∧((x1.1+1)≤10)∧((x1.1+1)≤(nz q n2 n3).toNat))∧(10 - (x1.1+1)) < (10 - x1.1) from by have h1:=cnt_next B0 h1; have h2:(nz q n2 n3).toNat≤10:=rsV_le _ _ 10; exact⟨⟨h1.1,by omega,by omega⟩,by omega⟩)))))))) (fun(h2:(decide (0 < usN (yz q n2 n3) (ez q n2 n3) x1.1))=false)=>have f5:=(oF h2); aI (show(⟨[(2,.v (u64 (rsV (recG (cpG q n2 n3)) 0 18446744073709551615))),(3,.v (gsV (Grw.mk false n7 (x1.1+1) n8 (catU ((gsOf x1.1 (usV (yz q n2 n3) (ez q n2 n3) x1.2.2.1 x1.2.2.2.1) x1.2.2.2.2.1 x1.2.2.2.2.2).f) x1.1 (fun _=>(qOf (Value.slice ((rz q n2 n3 x1.1 n4 n5).wa) ((rz q n2 n3 x1.1 n4 n5).wn) ((rz q n2 n3 x1.1 n4 n5).wc)))))))),(5,.v (ptr n1 0)),(11,.v (u64 (nz q n2 n3))),(12,.v (u64 x1.2.1))],[(0,some ⟨n1,true,0,(.lit [(Value.slice (((uz q n2 n3 (x1.1+1)).1).wa) (((uz q n2 n3 (x1.1+1)).1).wn) (((uz q n2 n3 (x1.1+1)).1).wc)),(int ((uz q n2 n3 (x1.1+1)).2))])⟩),(1,(gsE u8C [u8 0] 1 (cpG q n2 n3))),(2,(gsE slqC [Value.slice none 0 0] 1 (Grw.mk false n7 (x1.1+1) n8 (catU ((gsOf x1.1 (usV (yz q n2 n3) (ez q n2 n3) x1.2.2.1 x1.2.2.2.1) x1.2.2.2.2.1 x1.2.2.2.2.2).f) x1.1 (fun _=>(qOf (Value.slice ((rz q n2 n3 x1.1 n4 n5).wa) ((rz q n2 n3 x1.1 n4 n5).wn) ((rz q n2 n3 x1.1 n4 n5).wc)))))))),(3,(plU (yz q n2 n3) (ez q n2 n3) x1.2.2.1 x1.2.2.2.1 x1.1)),(4,(rbK (uz q n2 n3 x1.1).1 (uz q n2 n3 x1.1).2 1000 n4 n5))],5⟩:St)=⟨[(2,.v (u64 (rsV (recG (cpG q n2 n3)) 0 18446744073709551615))),(3,.v (gsV (Grw.mk false n7 (x1.1+1) n8 (catU ((gsOf x1.1 (usV (yz q n2 n3) (ez q n2 n3) x1.2.2.1 x1.2.2.2.1) x1.2.2.2.2.1 x1.2.2.2.2.2).f) x1.1 (fun _=>(qOf (Value.slice ((rz q n2 n3 x1.1 n4 n5).wa) ((rz q n2 n3 x1.1 n4 n5).wn) ((rz q n2 n3 x1.1 n4 n5).wc)))))))),(5,.v (ptr n1 0)),(11,.v (u64 (nz q n2 n3))),(12,.v (u64 x1.2.1))],[(0,some ⟨n1,true,0,(.lit [(Value.slice (((uz q n2 n3 (x1.1+1)).1).wa) (((uz q n2 n3 (x1.1+1)).1).wn) (((uz q n2 n3 (x1.1+1)).1).wc)),(int ((uz q n2 n3 (x1.1+1)).2))])⟩),(1,(gsE u8C [u8 0] 1 (cpG q n2 n3))),(2,(gsE slqC [Value.slice none 0 0] 1 (Grw.mk false n7 (x1.1+1) n8 (catU ((gsOf x1.1 (usV (yz q n2 n3) (ez q n2 n3) x1.2.2.1 x1.2.2.2.1) x1.2.2.2.2.1 x1.2.2.2.2.2).f) x1.1 (fun _=>(qOf (Value.slice ((rz q n2 n3 x1.1 n4 n5).wa) ((rz q n2 n3 x1.1 n4 n5).wn) ((rz q n2 n3 x1.1 n4 n5).wc)))))))),(3,(plU (yz q n2 n3) (ez q n2 n3) x1.2.2.1 x1.2.2.2.1 x1.1)),(4,none)],5⟩ from by unfold rz uz; rw [rbK_no (Q:=(yz q n2 n3)) (E:=(ez q n2 n3)) (k:=x1.1) (oF h2)]) (aI (show(⟨[(2,.v (u64 (rsV (recG (cpG q n2 n3)) 0 18446744073709551615))),(3,.v (gsV (Grw.mk false n7 (x1.1+1) n8 (catU ((gsOf x1.1 (usV (yz q n2 n3) (ez q n2 n3) x1.2.2.1 x1.2.2.2.1) x1.2.2.2.2.1 x1.2.2.2.2.2).f) x1.1 (fun _=>(qOf (Value.slice ((rz q n2 n3 x1.1 n4 n5).wa) ((rz q n2 n3 x1.1 n4 n5).wn) ((rz q n2 n3 x1.1 n4 n5).wc)))))))),(5,.v (ptr n1 0)),(11,.v (u64 (nz q n2 n3))),(12,.v (u64 x1.2.1))],[(0,some ⟨n1,true,0,(.lit [(Value.slice (((uz q n2 n3 (x1.1+1)).1).wa) (((uz q n2 n3 (x1.1+1)).1).wn) (((uz q n2 n3 (x1.1+1)).1).wc)),(int ((uz q n2 n3 (x1.1+1)).2))])⟩),(1,(gsE u8C [u8 0] 1 (cpG q n2 n3))),(2,(gsE slqC [Value.slice none 0 0] 1 (Grw.mk false n7 (x1.1+1) n8 (catU ((gsOf x1.1 (usV (yz q n2 n3) (ez q n2 n3) x1.2.2.1 x1.2.2.2.1) x1.2.2.2.2.1 x1.2.2.2.2.2).f) x1.1 (fun _=>(qOf (Value.slice ((rz q n2 n3 x1.1 n4 n5).wa) ((rz q n2 n3 x1.1 n4 n5).wn) ((rz q n2 n3 x1.1 n4 n5).wc)))))))),(3,(plU (yz q n2 n3) (ez q n2 n3) x1.2.2.1 x1.2.2.2.1 x1.1))],4⟩:St)=⟨[(2,.v (u64 (rsV (recG (cpG q n2 n3)) 0 18446744073709551615))),(3,.v (gsV (gsOf (x1.1+1) (usV (yz q n2 n3) (ez q n2 n3) (pcod x1.2.2.1 x1.1 n4) (pcod x1.2.2.2.1 x1.1 n5)) n7 n8))),(5,.v (ptr n1 0)),(11,.v (u64 (nz q n2 n3))),(12,.v (u64 x1.2.1))],[(0,some ⟨n1,true,0,(.lit [(Value.slice (((uz q n2 n3 (x1.1+1)).1).wa) (((uz q n2 n3 (x1.1+1)).1).wn) (((uz q n2 n3 (x1.1+1)).1).wc)),(int ((uz q n2 n3 (x1.1+1)).2))])⟩),(1,(gsE u8C [u8 0] 1 (cpG q n2 n3))),(2,(gsE slqC [Value.slice none 0 0] 1 (gsOf (x1.1+1) (usV (yz q n2 n3) (ez q n2 n3) (pcod x1.2.2.1 x1.1 n4) (pcod x1.2.2.2.1 x1.1 n5)) n7 n8))),(3,(plU (yz q n2 n3) (ez q n2 n3) (pcod x1.2.2.1 x1.1 n4) (pcod x1.2.2.2.1 x1.1 n5) (x1.1+1)))],4⟩ from by rw [plU_no (Q:=(yz q n2 n3)) (E:=(ez q n2 n3)) (c:=x1.2.2.1) (d:=x1.2.2.2.1) (k:=x1.1) (n1:=n4) (n2:=n5) (oF h2),(list_U (Q:=(yz q n2 n3)) (E:=(ez q n2 n3)) (c:=x1.2.2.1) (d:=x1.2.2.2.1) (k:=x1.1) (n1:=n4) (n2:=n5) (A:=Grw.mk false n7 (x1.1+1) n8 (catU ((gsOf x1.1 (usV (yz q n2 n3) (ez q n2 n3) x1.2.2.1 x1.2.2.2.1) x1.2.2.2.2.1 x1.2.2.2.2.2).f) x1.1 (fun _=>(qOf (Value.slice ((rz q n2 n3 x1.1 n4 n5).wa) ((rz q n2 n3 x1.1 n4 n5).wn) ((rz q n2 n3 x1.1 n4 n5).wc)))))) rfl rfl rfl).1,(list_U (Q:=(yz q n2 n3)) (E:=(ez q n2 n3)) (c:=x1.2.2.1) (d:=x1.2.2.2.1) (k:=x1.1) (n1:=n4) (n2:=n5) (A:=Grw.mk false n7 (x1.1+1) n8 (catU ((gsOf x1.1 (usV (yz q n2 n3) (ez q n2 n3) x1.2.2.1 x1.2.2.2.1) x1.2.2.2.2.1 x1.2.2.2.2.2).f) x1.1 (fun _=>(qOf (Value.slice ((rz q n2 n3 x1.1 n4 n5).wa) ((rz q n2 n3 x1.1 n4 n5).wn) ((rz q n2 n3 x1.1 n4 n5).wc)))))) rfl rfl rfl).2]) (aI (aI (aT (@is_add64 Tryd.prog 22 22 (.tmp 12) (.const (.int .u64 1)) x1.2.1 1)) kV1) ((rnd (un_2_R1 q n1 n2 n3) (un_2_S1 q n1 n2 n3) (un_2_mu1 q n1 n2 n3) x1 ((x1.1+1,(x1.2.1+1),(pcod x1.2.2.1 x1.1 n4),(pcod x1.2.2.2.1 x1.1 n5),n7,n8):Nat × UInt64 × Nat × Nat × Nat × Nat) (show(un_2_R1 q n1 n2 n3) ((x1.1+1,(x1.2.1+1),(pcod x1.2.2.1 x1.1 n4),(pcod x1.2.2.2.1 x1.1 n5),n7,n8):Nat × UInt64 × Nat × Nat × Nat × Nat)∧(un_2_mu1 q n1 n2 n3) ((x1.1+1,(x1.2.1+1),(pcod x1.2.2.1 x1.1 n4),(pcod x1.2.2.2.1 x1.1 n5),n7,n8):Nat × UInt64 × Nat × Nat × Nat × Nat) < (un_2_mu1 q n1 n2 n3) x1 from(show((((x1.2.1+1):UInt64).toNat=(x1.1+1))∧((x1.1+1)≤10)∧((x1.1+1)≤(nz q n2 n3).toNat))∧(10 - (x1.1+1)) < (10 - x1.1) from by have h1:=cnt_next B0 h1; have h2:(nz q n2 n3).toNat≤10:=rsV_le _ _ 10; exact⟨⟨h1.1,by omega,by omega⟩,by omega⟩))))))))) (fun(h1:(decide (x1.2.1 < (nz q n2 n3)))=false)=>have f4:=(oF h1); aI (sk (aI (aT (rend_as (F:=famB q) n1 (uz q n2 n3 x1.1).1 (uz q n2 n3 x1.1).2 0 (by have e:x1.1=uN (recG (cpG q n2 n3)):=cnt_end B0 B2 h1; rw [e]; exact(same_cp hq n2 n3).uD.trans hd))) kV1)) (aI (sK3 (aI (aI (@rfl Bool true) t2) (aI (aI (@rfl Bool true) (aT (hasU (F:=famB q) (Q:=(yz q n2 n3)) (E:=(ez q n2 n3)) (c:=x1.2.2.1) (d:=x1.2.2.2.1) (k:=x1.1) (nm:=x1.2.2.2.2.1) (r:=x1.2.2.2.2.2) B1 (fun i=>Nat.le_trans (rbN_100 (RdR.small (RdR.small (rd_first hq hl n2 n3) 0 18446744073709551615) (rsE (recG (cpG q n2 n3)) 0 18446744073709551615) 10) (ez q n2 n3) i) (by decide))))) (aI (aI (@rfl Bool true) t2) (aI (fun(hg:(sB (inB (usB (yz q n2 n3) (ez q n2 n3)) x1.1 (bytZ none 0)) false)=true)=>t2) (aI (fun(hg:(sB (inB (usB (yz q n2 n3) (ez q n2 n3)) x1.1 (bytZ none 0)) false)=true)=>have f5:(inB (usB (yz q n2 n3) (ez q n2 n3)) x1.1 (bytZ none 0))=false:=(sameB_f hg); (aI (aI hg tV) (twU (F:=famB q) (Q:=(yz q n2 n3)) (E:=(ez q n2 n3)) (c:=x1.2.2.1) (d:=x1.2.2.2.1) (k:=x1.1) (nm:=x1.2.2.2.2.1) (r:=x1.2.2.2.2.2) B1 (fun i=>Nat.le_trans (rbN_100 (RdR.small (RdR.small (rd_first hq hl n2 n3) 0 18446744073709551615) (rsE (recG (cpG q n2 n3)) 0 18446744073709551615) 10) (ez q n2 n3) i) (by decide))))) (aI (aI (@rfl Bool true) (aT (aI (fun(_:(inB (usB (yz q n2 n3) (ez q n2 n3)) x1.1 (bytZ none 0))=true)=>tV) (fun(hp:(inB (usB (yz q n2 n3) (ez q n2 n3)) x1.1 (bytZ none 0))=false)=>(sameB_mkf hp))))) (aI (aT (aI (fun(_:true=true)=>tV) (fun(_:true=false)=>tV))) tV)))))))) ((fun(hp3:(selB true (selB (inB (usB (yz q n2 n3) (ez q n2 n3)) x1.1 (bytZ none 0)) true (twB (usB (yz q n2 n3) (ez q n2 n3)) x1.1)) false)=true)=>have f5:(true)=true:=(sband_l hp3); have f6:((inB (usB (yz q n2 n3) (ez q n2 n3)) x1.1 (bytZ none 0))=true)∨((twB (usB (yz q n2 n3) (ez q n2 n3)) x1.1)=true):=(Or.imp (fun h=>h) (fun h=>h) (sbor_t (sband_r hp3))); aT (aI hp3 (aI kV1 (aI kV2 (aT (aI (@rfl Bool true) (aI kV4 (aT (eX (fun(ns:List Nat)=>ns.length=0∧((Value.tuple #[(u64 0),(Value.slice none 0 0),(int 31)]):Value)=(fun _=>Value.tuple #[u64 0,Value.slice none 0 0,int 31]) ns∧([]:List (Option Blk))=(fun _=>[]) ns) [] (aI (@rfl Nat 0) (aI (@rfl Value (Value.tuple #[u64 0,Value.slice none 0 0,int 31])) (@rfl (List (Option Blk)) [])))))))))))) (show(selB true (selB (inB (usB (yz q n2 n3) (ez q n2 n3)) x1.1 (bytZ none 0)) true (twB (usB (yz q n2 n3) (ez q n2 n3)) x1.1)) false)=true from by have e:x1.1=uN (recG (cpG q n2 n3)):=cnt_end B0 B2 h1; rw [e]; exact(same_cp hq n2 n3).uB.trans hb)))))))))))))))
def un_0_S1 (q:BytL) (n1:Nat) (n2:Nat) (n3:Nat) (x1:Nat × UInt64 × Nat × Nat × Nat × Nat):St:=⟨[(2,.v (u64 (rsV (recG (cpG q n2 n3)) 0 18446744073709551615))),(3,.v (gsV (gsOf x1.1 (usV (yz q n2 n3) (ez q n2 n3) x1.2.2.1 x1.2.2.2.1) x1.2.2.2.2.1 x1.2.2.2.2.2))),(5,.v (ptr n1 0)),(11,.v (u64 (nz q n2 n3))),(12,.v (u64 x1.2.1))],[(0,some ⟨n1,true,0,(.lit [(Value.slice (((uz q n2 n3 x1.1).1).wa) (((uz q n2 n3 x1.1).1).wn) (((uz q n2 n3 x1.1).1).wc)),(int ((uz q n2 n3 x1.1).2))])⟩),(1,(gsE u8C [u8 0] 1 (cpG q n2 n3))),(2,(gsE slqC [Value.slice none 0 0] 1 (gsOf x1.1 (usV (yz q n2 n3) (ez q n2 n3) x1.2.2.1 x1.2.2.2.1) x1.2.2.2.2.1 x1.2.2.2.2.2))),(3,(plU (yz q n2 n3) (ez q n2 n3) x1.2.2.1 x1.2.2.2.1 x1.1))],4⟩
def un_0_R1 (q:BytL) (n1:Nat) (n2:Nat) (n3:Nat) (x1:Nat × UInt64 × Nat × Nat × Nat × Nat):Prop:=((x1.2.1:UInt64).toNat=x1.1)∧(x1.1≤10)∧(x1.1≤(nz q n2 n3).toNat)
def un_0_mu1 (q:BytL) (n1:Nat) (n2:Nat) (n3:Nat) (x1:Nat × UInt64 × Nat × Nat × Nat × Nat):Nat:=10 - x1.1
theorem un_0 (q:BytL) (hq:OkB q) (hl:q.wn≤100000) (hd:uD q=0) (hb:uB q=false):RunsO (famB q) Tryd.prog 8 [(Value.slice q.wa q.wn q.wc)] [] 4 (fun(ns:List Nat)=>(Value.tuple #[(u64 (uH q)),(gsV (gsOf (uN q) (usV (uQ q) (uE q) (ns.getD 0 0) (ns.getD 1 0)) (ns.getD 2 0) (ns.getD 3 0))),(int 0)])) (fun(ns:List Nat)=>[(gsE slqC [Value.slice none 0 0] 1 (gsOf (uN q) (usV (uQ q) (uE q) (ns.getD 0 0) (ns.getD 1 0)) (ns.getD 2 0) (ns.getD 3 0))),(plU (uQ q) (uE q) (ns.getD 0 0) (ns.getD 1 0) (uN q))]) :=
  runsO_of_ev mix Tryd.func8 rfl rfl 400 (.reg (rg [.g,.g,.g]) (.regn (rg [.g,(.callO [] 3 2 (fun ns=>ptr (ns.getD 0 0) 0) (fun ns=>[some ⟨(ns.getD 0 0),true,0,.lit [gsV (cpG q (ns.getD 1 0) (ns.getD 2 0)),int 0]⟩,(gsE u8C [u8 0] 1 (cpG q (ns.getD 1 0) (ns.getD 2 0)))])),.g]) (more (fun n1=>more (fun n2=>more (fun n3=>fun _=>(.reg (rg [.g,(.callO [(0,false),(1,true)] 0 0 (fun _=>(u64 (rsV (recG (cpG q n2 n3)) 0 18446744073709551615))) (fun _=>[some ⟨n1,true,0,.lit [slqV (rsQ (recG (cpG q n2 n3)) 0 18446744073709551615),int (rsE (recG (cpG q n2 n3)) 0 18446744073709551615)]⟩,none])),.g]) (.keep [0,2,3,4,6,7,5,8,9] [0,1] 4 (.reg (rg [.g,(.callO [(0,false),(1,true)] 0 0 (fun _=>(u64 (nz q n2 n3))) (fun _=>[some ⟨n1,true,0,.lit [slqV (yz q n2 n3),int (ez q n2 n3)]⟩,none])),.g]) (.inv [2,3,5,11,12] [0,1,2,3] 4 (un_0_R1 q n1 n2 n3) (un_0_S1 q n1 n2 n3) (un_0_mu1 q n1 n2 n3) ((0,0,0,0,0,0):Nat × UInt64 × Nat × Nat × Nat × Nat) (fun(x1:Nat × UInt64 × Nat × Nat × Nat × Nat)=>(.reg (rg [(.as (Value.bool (decide (x1.2.1 < (nz q n2 n3)))))]) (.br (.regn (rg [.g,.g,(.callO [(0,false),(1,true)] 2 1 (fun ns=>slqV (rbV (uz q n2 n3 x1.1).1 (uz q n2 n3 x1.1).2 1000 (ns.getD 0 0) (ns.getD 1 0))) (fun ns=>[some ⟨n1,true,0,.lit [slqV ((uz q n2 n3 (x1.1+1)).1),int ((uz q n2 n3 (x1.1+1)).2)]⟩,none,(rbK (uz q n2 n3 x1.1).1 (uz q n2 n3 x1.1).2 1000 (ns.getD 0 0) (ns.getD 1 0))])),.bsl,(.othOB [(2,false),(5,true)] 2 0 (fun ns=>gsV (Grw.mk false (ns.getD 0 0) (x1.1+1) (ns.getD 1 0) (catU ((gsOf x1.1 (usV (yz q n2 n3) (ez q n2 n3) x1.2.2.1 x1.2.2.2.1) x1.2.2.2.2.1 x1.2.2.2.2.2).f) x1.1 ((gsOf x1.1 (usV (yz q n2 n3) (ez q n2 n3) x1.2.2.1 x1.2.2.2.1) x1.2.2.2.2.1 x1.2.2.2.2.2).f)))) (fun bs ns=>[(gsE slqC [Value.slice none 0 0] 1 (Grw.mk false (ns.getD 0 0) (x1.1+1) (ns.getD 1 0) (catU ((gsOf x1.1 (usV (yz q n2 n3) (ez q n2 n3) x1.2.2.1 x1.2.2.2.1) x1.2.2.2.2.1 x1.2.2.2.2.2).f) x1.1 (fun _=>qOf (cellO bs 1))))),none])),.g]) (more (fun n4=>more (fun n5=>more (fun n6=>more (fun n7=>more (fun n8=>fun _=>(.both (decide (0 < usN (yz q n2 n3) (ez q n2 n3) x1.1)) (.keep [2,3,5,11,12] [0,1,2,3,4] 5 (.told ⟨[(2,.v (u64 (rsV (recG (cpG q n2 n3)) 0 18446744073709551615))),(3,.v (gsV (Grw.mk false n7 (x1.1+1) n8 (catU ((gsOf x1.1 (usV (yz q n2 n3) (ez q n2 n3) x1.2.2.1 x1.2.2.2.1) x1.2.2.2.2.1 x1.2.2.2.2.2).f) x1.1 (fun _=>(qOf (Value.slice ((rz q n2 n3 x1.1 n4 n5).wa) ((rz q n2 n3 x1.1 n4 n5).wn) ((rz q n2 n3 x1.1 n4 n5).wc)))))))),(5,.v (ptr n1 0)),(11,.v (u64 (nz q n2 n3))),(12,.v (u64 x1.2.1))],[(0,some ⟨n1,true,0,(.lit [(Value.slice (((uz q n2 n3 (x1.1+1)).1).wa) (((uz q n2 n3 (x1.1+1)).1).wn) (((uz q n2 n3 (x1.1+1)).1).wc)),(int ((uz q n2 n3 (x1.1+1)).2))])⟩),(1,(gsE u8C [u8 0] 1 (cpG q n2 n3))),(2,(gsE slqC [Value.slice none 0 0] 1 (Grw.mk false n7 (x1.1+1) n8 (catU ((gsOf x1.1 (usV (yz q n2 n3) (ez q n2 n3) x1.2.2.1 x1.2.2.2.1) x1.2.2.2.2.1 x1.2.2.2.2.2).f) x1.1 (fun _=>(qOf (Value.slice ((rz q n2 n3 x1.1 n4 n5).wa) ((rz q n2 n3 x1.1 n4 n5).wn) ((rz q n2 n3 x1.1 n4 n5).wc)))))))),(3,(plU (yz q n2 n3) (ez q n2 n3) x1.2.2.1 x1.2.2.2.1 x1.1)),(4,some ⟨n4,true,0,(spr (usN (yz q n2 n3) (ez q n2 n3) x1.1+n5) (usN (yz q n2 n3) (ez q n2 n3) x1.1) (fun k=>u8 (usW (yz q n2 n3) (ez q n2 n3) x1.1 k)) (u8 0))⟩)],5⟩ (.pack 4 3 10 (gU (yz q n2 n3) (ez q n2 n3) (pcod x1.2.2.1 x1.1 n4) (pcod x1.2.2.2.1 x1.1 n5) (x1.1+1)) (.keep [2,3,5,11,12] [0,1,2,3] 4 (.told ⟨[(2,.v (u64 (rsV (recG (cpG q n2 n3)) 0 18446744073709551615))),(3,.v (gsV (gsOf (x1.1+1) (usV (yz q n2 n3) (ez q n2 n3) (pcod x1.2.2.1 x1.1 n4) (pcod x1.2.2.2.1 x1.1 n5)) n7 n8))),(5,.v (ptr n1 0)),(11,.v (u64 (nz q n2 n3))),(12,.v (u64 x1.2.1))],[(0,some ⟨n1,true,0,(.lit [(Value.slice (((uz q n2 n3 (x1.1+1)).1).wa) (((uz q n2 n3 (x1.1+1)).1).wn) (((uz q n2 n3 (x1.1+1)).1).wc)),(int ((uz q n2 n3 (x1.1+1)).2))])⟩),(1,(gsE u8C [u8 0] 1 (cpG q n2 n3))),(2,(gsE slqC [Value.slice none 0 0] 1 (gsOf (x1.1+1) (usV (yz q n2 n3) (ez q n2 n3) (pcod x1.2.2.1 x1.1 n4) (pcod x1.2.2.2.1 x1.1 n5)) n7 n8))),(3,(plU (yz q n2 n3) (ez q n2 n3) (pcod x1.2.2.1 x1.1 n4) (pcod x1.2.2.2.1 x1.1 n5) (x1.1+1)))],4⟩ (.reg (rg [(.as (u64 (x1.2.1+1))),.g]) .done)))))) (.keep [2,3,5,11,12] [0,1,2,3,4] 5 (.told ⟨[(2,.v (u64 (rsV (recG (cpG q n2 n3)) 0 18446744073709551615))),(3,.v (gsV (Grw.mk false n7 (x1.1+1) n8 (catU ((gsOf x1.1 (usV (yz q n2 n3) (ez q n2 n3) x1.2.2.1 x1.2.2.2.1) x1.2.2.2.2.1 x1.2.2.2.2.2).f) x1.1 (fun _=>(qOf (Value.slice ((rz q n2 n3 x1.1 n4 n5).wa) ((rz q n2 n3 x1.1 n4 n5).wn) ((rz q n2 n3 x1.1 n4 n5).wc)))))))),(5,.v (ptr n1 0)),(11,.v (u64 (nz q n2 n3))),(12,.v (u64 x1.2.1))],[(0,some ⟨n1,true,0,(.lit [(Value.slice (((uz q n2 n3 (x1.1+1)).1).wa) (((uz q n2 n3 (x1.1+1)).1).wn) (((uz q n2 n3 (x1.1+1)).1).wc)),(int ((uz q n2 n3 (x1.1+1)).2))])⟩),(1,(gsE u8C [u8 0] 1 (cpG q n2 n3))),(2,(gsE slqC [Value.slice none 0 0] 1 (Grw.mk false n7 (x1.1+1) n8 (catU ((gsOf x1.1 (usV (yz q n2 n3) (ez q n2 n3) x1.2.2.1 x1.2.2.2.1) x1.2.2.2.2.1 x1.2.2.2.2.2).f) x1.1 (fun _=>(qOf (Value.slice ((rz q n2 n3 x1.1 n4 n5).wa) ((rz q n2 n3 x1.1 n4 n5).wn) ((rz q n2 n3 x1.1 n4 n5).wc)))))))),(3,(plU (yz q n2 n3) (ez q n2 n3) x1.2.2.1 x1.2.2.2.1 x1.1)),(4,none)],5⟩ (.keep [2,3,5,11,12] [0,1,2,3] 4 (.told ⟨[(2,.v (u64 (rsV (recG (cpG q n2 n3)) 0 18446744073709551615))),(3,.v (gsV (gsOf (x1.1+1) (usV (yz q n2 n3) (ez q n2 n3) (pcod x1.2.2.1 x1.1 n4) (pcod x1.2.2.2.1 x1.1 n5)) n7 n8))),(5,.v (ptr n1 0)),(11,.v (u64 (nz q n2 n3))),(12,.v (u64 x1.2.1))],[(0,some ⟨n1,true,0,(.lit [(Value.slice (((uz q n2 n3 (x1.1+1)).1).wa) (((uz q n2 n3 (x1.1+1)).1).wn) (((uz q n2 n3 (x1.1+1)).1).wc)),(int ((uz q n2 n3 (x1.1+1)).2))])⟩),(1,(gsE u8C [u8 0] 1 (cpG q n2 n3))),(2,(gsE slqC [Value.slice none 0 0] 1 (gsOf (x1.1+1) (usV (yz q n2 n3) (ez q n2 n3) (pcod x1.2.2.1 x1.1 n4) (pcod x1.2.2.2.1 x1.1 n5)) n7 n8))),(3,(plU (yz q n2 n3) (ez q n2 n3) (pcod x1.2.2.1 x1.1 n4) (pcod x1.2.2.2.1 x1.1 n5) (x1.1+1)))],4⟩ (.reg (rg [(.as (u64 (x1.2.1+1))),.g]) .done))))))))))))) (.reg (rg [.g,(.callO [(0,true)] 0 0 (fun _=>(int 0)) (fun _=>[none])),.g]) (.reg (rg [.g,.g,.g,(.run .g),(.run (.callO [(2,true),(3,true)] 0 0 (fun _=>(Value.bool (inB (usB (yz q n2 n3) (ez q n2 n3)) x1.1 (bytZ none 0)))) (fun _=>[none,none]))),(.run .g),(.opt .g),(.opt (.callO [(2,true),(3,true)] 0 0 (fun _=>(Value.bool (twB (usB (yz q n2 n3) (ez q n2 n3)) x1.1))) (fun _=>[none,none]))),(.run .pk),.pk]) (.no (.reg (rg [.g,.g]) (.no (.keep [2,3] [2,3] 4 (.told ⟨[(2,.v (u64 (uH q))),(3,.v (gsV (gsOf (uN q) (usV (uQ q) (uE q) x1.2.2.1 x1.2.2.2.1) x1.2.2.2.2.1 x1.2.2.2.2.2)))],[(2,(gsE slqC [Value.slice none 0 0] 1 (gsOf (uN q) (usV (uQ q) (uE q) x1.2.2.1 x1.2.2.2.1) x1.2.2.2.2.1 x1.2.2.2.2.2))),(3,(plU (uQ q) (uE q) x1.2.2.1 x1.2.2.2.1 (uN q)))],4⟩ (.reg (rg [.g,.g,.g,.g,.g]) .done))))))))))))))))))))) [] [2,3] rfl
    (Eq.mp (by kernel_rfl) (aI kV3 (fun(n1 n2 n3:Nat)=>aI (sk (aI (aT (new_G q hq (Nat.le_trans hl (by decide)))) kV1)) (aI (sk (aI (aT (RdR.lend (F:=famB q) (rd_first hq hl n2 n3) (rsmall_fam n1 (recG (cpG q n2 n3)) 0 18446744073709551615 (rd_first hq hl n2 n3).ok (rd_first hq hl n2 n3).le) (fun _=>⟨rfl,tV⟩))) kV1)) ((aI (sk (aI (aT (RdR.lend (F:=famB q) (RdR.small (rd_first hq hl n2 n3) 0 18446744073709551615) (rsmall_fam n1 (rsQ (recG (cpG q n2 n3)) 0 18446744073709551615) (rsE (recG (cpG q n2 n3)) 0 18446744073709551615) 10 (RdR.small (rd_first hq hl n2 n3) 0 18446744073709551615).ok (RdR.small (rd_first hq hl n2 n3) 0 18446744073709551615).le) (fun _=>⟨rfl,tV⟩))) kV1)) (aI (show(un_0_R1 q n1 n2 n3) ((0,0,0,0,0,0):Nat × UInt64 × Nat × Nat × Nat × Nat) from(show((0:UInt64).toNat=0)∧(0≤10)∧(0≤(nz q n2 n3).toNat) from by exact⟨rfl,by decide,Nat.zero_le _⟩)) (aI (@rfl St ((un_0_S1 q n1 n2 n3) ((0,0,0,0,0,0):Nat × UInt64 × Nat × Nat × Nat × Nat))) (fun(x1:Nat × UInt64 × Nat × Nat × Nat × Nat) (hx1:(un_0_R1 q n1 n2 n3) x1)=>have B0:(x1.2.1:UInt64).toNat=x1.1:=hx1.1; have B1:x1.1≤10:=hx1.2.1; have B2:x1.1≤(nz q n2 n3).toNat:=hx1.2.2; aI (aI (aT (@is_lss64 Tryd.prog 22 22 (.tmp 12) (.tmp 11) x1.2.1 (nz q n2 n3))) tV) (aT (aI (fun(h1:(decide (x1.2.1 < (nz q n2 n3)))=true)=>have f4:=(oT h1); fun(n4 n5 n6 n7 n8:Nat)=>aI (sK2 (aI (aT (RdR.lend (F:=famB q) (RdR.us (RdR.small (RdR.small (rd_first hq hl n2 n3) 0 18446744073709551615) (rsE (recG (cpG q n2 n3)) 0 18446744073709551615) 10) (ez q n2 n3) x1.1) (rbytes_v n1 (uz q n2 n3 x1.1).1 (uz q n2 n3 x1.1).2 1000 (RdR.us (RdR.small (RdR.small (rd_first hq hl n2 n3) 0 18446744073709551615) (rsE (recG (cpG q n2 n3)) 0 18446744073709551615) 10) (ez q n2 n3) x1.1).ok (RdR.us (RdR.small (RdR.small (rd_first hq hl n2 n3) 0 18446744073709551615) (rsE (recG (cpG q n2 n3)) 0 18446744073709551615) 10) (ez q n2 n3) x1.1).le (by decide)) (fun _=>⟨rfl,rbK_own⟩))) (aI (aT (mk_build (P:=Tryd.prog) (t:=23) (e:=24) one24 1 #[(0,(Value.slice ((rz q n2 n3 x1.1 n4 n5).wa) ((rz q n2 n3 x1.1 n4 n5).wn) ((rz q n2 n3 x1.1 n4 n5).wc)))] #[(Value.slice ((rz q n2 n3 x1.1 n4 n5).wa) ((rz q n2 n3 x1.1 n4 n5).wn) ((rz q n2 n3 x1.1 n4 n5).wc))] (by kernel_rfl) (by decide) (by kernel_rfl))) (aI (aT (mkG_catE (P:=Tryd.prog) (t:=23) (ty:=23) (e:=24) (by kernel_rfl) agg24 (gsOf x1.1 (usV (yz q n2 n3) (ez q n2 n3) x1.2.2.1 x1.2.2.2.1) x1.2.2.2.2.1 x1.2.2.2.2.2) (gsOf_ok _ _ _ _) slqC_ok (fun _=>(qOf (Value.slice ((rz q n2 n3 x1.1 n4 n5).wa) ((rz q n2 n3 x1.1 n4 n5).wn) ((rz q n2 n3 x1.1 n4 n5).wc)))) 1 (some ⟨n6,0,none⟩) 1 (some ⟨n6,false,0,(.lit [(Value.slice ((rz q n2 n3 x1.1 n4 n5).wa) ((rz q n2 n3 x1.1 n4 n5).wn) ((rz q n2 n3 x1.1 n4 n5).wc))])⟩) (fun _=>⟨_,_,_,_,rfl,rfl,(lit_src (sz:=1) (l:=slqC (qOf (Value.slice ((rz q n2 n3 x1.1 n4 n5).wa) ((rz q n2 n3 x1.1 n4 n5).wn) ((rz q n2 n3 x1.1 n4 n5).wc)))) rfl)⟩) (show(x1.1+1)*24≤140737488355328∧x1.1+1≤9223372036854775807 from by omega))) kV1)))) (aI (fun(h2:(decide (0 < usN (yz q n2 n3) (ez q n2 n3) x1.1))=true)=>have f5:=(oT h2); aI (show(⟨[(2,.v (u64 (rsV (recG (cpG q n2 n3)) 0 18446744073709551615))),(3,.v (gsV (Grw.mk false n7 (x1.1+1) n8 (catU ((gsOf x1.1 (usV (yz q n2 n3) (ez q n2 n3) x1.2.2.1 x1.2.2.2.1) x1.2.2.2.2.1 x1.2.2.2.2.2).f) x1.1 (fun _=>(qOf (Value.slice ((rz q n2 n3 x1.1 n4 n5).wa) ((rz q n2 n3 x1.1 n4 n5).wn) ((rz q n2 n3 x1.1 n4 n5).wc)))))))),(5,.v (ptr n1 0)),(11,.v (u64 (nz q n2 n3))),(12,.v (u64 x1.2.1))],[(0,some ⟨n1,true,0,(.lit [(Value.slice (((uz q n2 n3 (x1.1+1)).1).wa) (((uz q n2 n3 (x1.1+1)).1).wn) (((uz q n2 n3 (x1.1+1)).1).wc)),(int ((uz q n2 n3 (x1.1+1)).2))])⟩),(1,(gsE u8C [u8 0] 1 (cpG q n2 n3))),(2,(gsE slqC [Value.slice none 0 0] 1 (Grw.mk false n7 (x1.1+1) n8 (catU ((gsOf x1.1 (usV (yz q n2 n3) (ez q n2 n3) x1.2.2.1 x1.2.2.2.1) x1.2.2.2.2.1 x1.2.2.2.2.2).f) x1.1 (fun _=>(qOf (Value.slice ((rz q n2 n3 x1.1 n4 n5).wa) ((rz q n2 n3 x1.1 n4 n5).wn) ((rz q n2 n3 x1.1 n4 n5).wc)))))))),(3,(plU (yz q n2 n3) (ez q n2 n3) x1.2.2.1 x1.2.2.2.1 x1.1)),(4,(rbK (uz q n2 n3 x1.1).1 (uz q n2 n3 x1.1).2 1000 n4 n5))],5⟩:St)=⟨[(2,.v (u64 (rsV (recG (cpG q n2 n3)) 0 18446744073709551615))),(3,.v (gsV (Grw.mk false n7 (x1.1+1) n8 (catU ((gsOf x1.1 (usV (yz q n2 n3) (ez q n2 n3) x1.2.2.1 x1.2.2.2.1) x1.2.2.2.2.1 x1.2.2.2.2.2).f) x1.1 (fun _=>(qOf (Value.slice ((rz q n2 n3 x1.1 n4 n5).wa) ((rz q n2 n3 x1.1 n4 n5).wn) ((rz q n2 n3 x1.1 n4 n5).wc)))))))),(5,.v (ptr n1 0)),(11,.v (u64 (nz q n2 n3))),(12,.v (u64 x1.2.1))],[(0,some ⟨n1,true,0,(.lit [(Value.slice (((uz q n2 n3 (x1.1+1)).1).wa) (((uz q n2 n3 (x1.1+1)).1).wn) (((uz q n2 n3 (x1.1+1)).1).wc)),(int ((uz q n2 n3 (x1.1+1)).2))])⟩),(1,(gsE u8C [u8 0] 1 (cpG q n2 n3))),(2,(gsE slqC [Value.slice none 0 0] 1 (Grw.mk false n7 (x1.1+1) n8 (catU ((gsOf x1.1 (usV (yz q n2 n3) (ez q n2 n3) x1.2.2.1 x1.2.2.2.1) x1.2.2.2.2.1 x1.2.2.2.2.2).f) x1.1 (fun _=>(qOf (Value.slice ((rz q n2 n3 x1.1 n4 n5).wa) ((rz q n2 n3 x1.1 n4 n5).wn) ((rz q n2 n3 x1.1 n4 n5).wc)))))))),(3,(plU (yz q n2 n3) (ez q n2 n3) x1.2.2.1 x1.2.2.2.1 x1.1)),(4,some ⟨n4,true,0,(spr (usN (yz q n2 n3) (ez q n2 n3) x1.1+n5) (usN (yz q n2 n3) (ez q n2 n3) x1.1) (fun k=>u8 (usW (yz q n2 n3) (ez q n2 n3) x1.1 k)) (u8 0))⟩)],5⟩ from by unfold rz uz; rw [rbK_pos (Q:=(yz q n2 n3)) (E:=(ez q n2 n3)) (k:=x1.1) (oT h2)]) (aI (pack_U (Q:=(yz q n2 n3)) (E:=(ez q n2 n3)) (c:=x1.2.2.1) (d:=x1.2.2.2.1) (k:=x1.1) (n1:=n4) (n2:=n5) (oT h2)) (aI (show(⟨[(2,.v (u64 (rsV (recG (cpG q n2 n3)) 0 18446744073709551615))),(3,.v (gsV (Grw.mk false n7 (x1.1+1) n8 (catU ((gsOf x1.1 (usV (yz q n2 n3) (ez q n2 n3) x1.2.2.1 x1.2.2.2.1) x1.2.2.2.2.1 x1.2.2.2.2.2).f) x1.1 (fun _=>(qOf (Value.slice ((rz q n2 n3 x1.1 n4 n5).wa) ((rz q n2 n3 x1.1 n4 n5).wn) ((rz q n2 n3 x1.1 n4 n5).wc)))))))),(5,.v (ptr n1 0)),(11,.v (u64 (nz q n2 n3))),(12,.v (u64 x1.2.1))],[(0,some ⟨n1,true,0,(.lit [(Value.slice (((uz q n2 n3 (x1.1+1)).1).wa) (((uz q n2 n3 (x1.1+1)).1).wn) (((uz q n2 n3 (x1.1+1)).1).wc)),(int ((uz q n2 n3 (x1.1+1)).2))])⟩),(1,(gsE u8C [u8 0] 1 (cpG q n2 n3))),(2,(gsE slqC [Value.slice none 0 0] 1 (Grw.mk false n7 (x1.1+1) n8 (catU ((gsOf x1.1 (usV (yz q n2 n3) (ez q n2 n3) x1.2.2.1 x1.2.2.2.1) x1.2.2.2.2.1 x1.2.2.2.2.2).f) x1.1 (fun _=>(qOf (Value.slice ((rz q n2 n3 x1.1 n4 n5).wa) ((rz q n2 n3 x1.1 n4 n5).wn) ((rz q n2 n3 x1.1 n4 n5).wc)))))))),(3,some ⟨n4,true,0,.pile 10 (gU (yz q n2 n3) (ez q n2 n3) (pcod x1.2.2.1 x1.1 n4) (pcod x1.2.2.2.1 x1.1 n5) (x1.1+1))⟩)],4⟩:St)=⟨[(2,.v (u64 (rsV (recG (cpG q n2 n3)) 0 18446744073709551615))),(3,.v (gsV (gsOf (x1.1+1) (usV (yz q n2 n3) (ez q n2 n3) (pcod x1.2.2.1 x1.1 n4) (pcod x1.2.2.2.1 x1.1 n5)) n7 n8))),(5,.v (ptr n1 0)),(11,.v (u64 (nz q n2 n3))),(12,.v (u64 x1.2.1))],[(0,some ⟨n1,true,0,(.lit [(Value.slice (((uz q n2 n3 (x1.1+1)).1).wa) (((uz q n2 n3 (x1.1+1)).1).wn) (((uz q n2 n3 (x1.1+1)).1).wc)),(int ((uz q n2 n3 (x1.1+1)).2))])⟩),(1,(gsE u8C [u8 0] 1 (cpG q n2 n3))),(2,(gsE slqC [Value.slice none 0 0] 1 (gsOf (x1.1+1) (usV (yz q n2 n3) (ez q n2 n3) (pcod x1.2.2.1 x1.1 n4) (pcod x1.2.2.2.1 x1.1 n5)) n7 n8))),(3,(plU (yz q n2 n3) (ez q n2 n3) (pcod x1.2.2.1 x1.1 n4) (pcod x1.2.2.2.1 x1.1 n5) (x1.1+1)))],4⟩ from by rw [plU_yes (Q:=(yz q n2 n3)) (E:=(ez q n2 n3)) (c:=x1.2.2.1) (d:=x1.2.2.2.1) (k:=x1.1) (n1:=n4) (n2:=n5) (oT h2),(list_U (Q:=(yz q n2 n3)) (E:=(ez q n2 n3)) (c:=x1.2.2.1) (d:=x1.2.2.2.1) (k:=x1.1) (n1:=n4) (n2:=n5) (A:=Grw.mk false n7 (x1.1+1) n8 (catU ((gsOf x1.1 (usV (yz q n2 n3) (ez q n2 n3) x1.2.2.1 x1.2.2.2.1) x1.2.2.2.2.1 x1.2.2.2.2.2).f) x1.1 (fun _=>(qOf (Value.slice ((rz q n2 n3 x1.1 n4 n5).wa) ((rz q n2 n3 x1.1 n4 n5).wn) ((rz q n2 n3 x1.1 n4 n5).wc)))))) rfl rfl rfl).1,(list_U (Q:=(yz q n2 n3)) (E:=(ez q n2 n3)) (c:=x1.2.2.1) (d:=x1.2.2.2.1) (k:=x1.1) (n1:=n4) (n2:=n5) (A:=Grw.mk false n7 (x1.1+1) n8 (catU ((gsOf x1.1 (usV (yz q n2 n3) (ez q n2 n3) x1.2.2.1 x1.2.2.2.1) x1.2.2.2.2.1 x1.2.2.2.2.2).f) x1.1 (fun _=>(qOf (Value.slice ((rz q n2 n3 x1.1 n4 n5).wa) ((rz q n2 n3 x1.1 n4 n5).wn) ((rz q n2 n3 x1.1 n4 n5).wc)))))) rfl rfl rfl).2]) (aI (aI (aT (@is_add64 Tryd.prog 22 22 (.tmp 12) (.const (.int .u64 1)) x1.2.1 1)) kV1) ((rnd (un_0_R1 q n1 n2 n3) (un_0_S1 q n1 n2 n3) (un_0_mu1 q n1 n2 n3) x1 ((x1.1+1,(x1.2.1+1),(pcod x1.2.2.1 x1.1 n4),(pcod x1.2.2.2.1 x1.1 n5),n7,n8):Nat × UInt64 × Nat × Nat × Nat × Nat) (show(un_0_R1 q n1 n2 n3) ((x1.1+1,(x1.2.1+1),(pcod x1.2.2.1 x1.1 n4),(pcod x1.2.2.2.1 x1.1 n5),n7,n8):Nat × UInt64 × Nat × Nat × Nat × Nat)∧(un_0_mu1 q n1 n2 n3) ((x1.1+1,(x1.2.1+1),(pcod x1.2.2.1 x1.1 n4),(pcod x1.2.2.2.1 x1.1 n5),n7,n8):Nat × UInt64 × Nat × Nat × Nat × Nat) < (un_0_mu1 q n1 n2 n3) x1 from(show((((x1.2.1+1):UInt64).toNat=(x1.1+1))∧((x1.1+1)≤10)∧((x1.1+1)≤(nz q n2 n3).toNat))∧(10 - (x1.1+1)) < (10 - x1.1) from by have h1:=cnt_next B0 h1; have h2:(nz q n2 n3).toNat≤10:=rsV_le _ _ 10; exact⟨⟨h1.1,by omega,by omega⟩,by omega⟩)))))))) (fun(h2:(decide (0 < usN (yz q n2 n3) (ez q n2 n3) x1.1))=false)=>have f5:=(oF h2); aI (show(⟨[(2,.v (u64 (rsV (recG (cpG q n2 n3)) 0 18446744073709551615))),(3,.v (gsV (Grw.mk false n7 (x1.1+1) n8 (catU ((gsOf x1.1 (usV (yz q n2 n3) (ez q n2 n3) x1.2.2.1 x1.2.2.2.1) x1.2.2.2.2.1 x1.2.2.2.2.2).f) x1.1 (fun _=>(qOf (Value.slice ((rz q n2 n3 x1.1 n4 n5).wa) ((rz q n2 n3 x1.1 n4 n5).wn) ((rz q n2 n3 x1.1 n4 n5).wc)))))))),(5,.v (ptr n1 0)),(11,.v (u64 (nz q n2 n3))),(12,.v (u64 x1.2.1))],[(0,some ⟨n1,true,0,(.lit [(Value.slice (((uz q n2 n3 (x1.1+1)).1).wa) (((uz q n2 n3 (x1.1+1)).1).wn) (((uz q n2 n3 (x1.1+1)).1).wc)),(int ((uz q n2 n3 (x1.1+1)).2))])⟩),(1,(gsE u8C [u8 0] 1 (cpG q n2 n3))),(2,(gsE slqC [Value.slice none 0 0] 1 (Grw.mk false n7 (x1.1+1) n8 (catU ((gsOf x1.1 (usV (yz q n2 n3) (ez q n2 n3) x1.2.2.1 x1.2.2.2.1) x1.2.2.2.2.1 x1.2.2.2.2.2).f) x1.1 (fun _=>(qOf (Value.slice ((rz q n2 n3 x1.1 n4 n5).wa) ((rz q n2 n3 x1.1 n4 n5).wn) ((rz q n2 n3 x1.1 n4 n5).wc)))))))),(3,(plU (yz q n2 n3) (ez q n2 n3) x1.2.2.1 x1.2.2.2.1 x1.1)),(4,(rbK (uz q n2 n3 x1.1).1 (uz q n2 n3 x1.1).2 1000 n4 n5))],5⟩:St)=⟨[(2,.v (u64 (rsV (recG (cpG q n2 n3)) 0 18446744073709551615))),(3,.v (gsV (Grw.mk false n7 (x1.1+1) n8 (catU ((gsOf x1.1 (usV (yz q n2 n3) (ez q n2 n3) x1.2.2.1 x1.2.2.2.1) x1.2.2.2.2.1 x1.2.2.2.2.2).f) x1.1 (fun _=>(qOf (Value.slice ((rz q n2 n3 x1.1 n4 n5).wa) ((rz q n2 n3 x1.1 n4 n5).wn) ((rz q n2 n3 x1.1 n4 n5).wc)))))))),(5,.v (ptr n1 0)),(11,.v (u64 (nz q n2 n3))),(12,.v (u64 x1.2.1))],[(0,some ⟨n1,true,0,(.lit [(Value.slice (((uz q n2 n3 (x1.1+1)).1).wa) (((uz q n2 n3 (x1.1+1)).1).wn) (((uz q n2 n3 (x1.1+1)).1).wc)),(int ((uz q n2 n3 (x1.1+1)).2))])⟩),(1,(gsE u8C [u8 0] 1 (cpG q n2 n3))),(2,(gsE slqC [Value.slice none 0 0] 1 (Grw.mk false n7 (x1.1+1) n8 (catU ((gsOf x1.1 (usV (yz q n2 n3) (ez q n2 n3) x1.2.2.1 x1.2.2.2.1) x1.2.2.2.2.1 x1.2.2.2.2.2).f) x1.1 (fun _=>(qOf (Value.slice ((rz q n2 n3 x1.1 n4 n5).wa) ((rz q n2 n3 x1.1 n4 n5).wn) ((rz q n2 n3 x1.1 n4 n5).wc)))))))),(3,(plU (yz q n2 n3) (ez q n2 n3) x1.2.2.1 x1.2.2.2.1 x1.1)),(4,none)],5⟩ from by unfold rz uz; rw [rbK_no (Q:=(yz q n2 n3)) (E:=(ez q n2 n3)) (k:=x1.1) (oF h2)]) (aI (show(⟨[(2,.v (u64 (rsV (recG (cpG q n2 n3)) 0 18446744073709551615))),(3,.v (gsV (Grw.mk false n7 (x1.1+1) n8 (catU ((gsOf x1.1 (usV (yz q n2 n3) (ez q n2 n3) x1.2.2.1 x1.2.2.2.1) x1.2.2.2.2.1 x1.2.2.2.2.2).f) x1.1 (fun _=>(qOf (Value.slice ((rz q n2 n3 x1.1 n4 n5).wa) ((rz q n2 n3 x1.1 n4 n5).wn) ((rz q n2 n3 x1.1 n4 n5).wc)))))))),(5,.v (ptr n1 0)),(11,.v (u64 (nz q n2 n3))),(12,.v (u64 x1.2.1))],[(0,some ⟨n1,true,0,(.lit [(Value.slice (((uz q n2 n3 (x1.1+1)).1).wa) (((uz q n2 n3 (x1.1+1)).1).wn) (((uz q n2 n3 (x1.1+1)).1).wc)),(int ((uz q n2 n3 (x1.1+1)).2))])⟩),(1,(gsE u8C [u8 0] 1 (cpG q n2 n3))),(2,(gsE slqC [Value.slice none 0 0] 1 (Grw.mk false n7 (x1.1+1) n8 (catU ((gsOf x1.1 (usV (yz q n2 n3) (ez q n2 n3) x1.2.2.1 x1.2.2.2.1) x1.2.2.2.2.1 x1.2.2.2.2.2).f) x1.1 (fun _=>(qOf (Value.slice ((rz q n2 n3 x1.1 n4 n5).wa) ((rz q n2 n3 x1.1 n4 n5).wn) ((rz q n2 n3 x1.1 n4 n5).wc)))))))),(3,(plU (yz q n2 n3) (ez q n2 n3) x1.2.2.1 x1.2.2.2.1 x1.1))],4⟩:St)=⟨[(2,.v (u64 (rsV (recG (cpG q n2 n3)) 0 18446744073709551615))),(3,.v (gsV (gsOf (x1.1+1) (usV (yz q n2 n3) (ez q n2 n3) (pcod x1.2.2.1 x1.1 n4) (pcod x1.2.2.2.1 x1.1 n5)) n7 n8))),(5,.v (ptr n1 0)),(11,.v (u64 (nz q n2 n3))),(12,.v (u64 x1.2.1))],[(0,some ⟨n1,true,0,(.lit [(Value.slice (((uz q n2 n3 (x1.1+1)).1).wa) (((uz q n2 n3 (x1.1+1)).1).wn) (((uz q n2 n3 (x1.1+1)).1).wc)),(int ((uz q n2 n3 (x1.1+1)).2))])⟩),(1,(gsE u8C [u8 0] 1 (cpG q n2 n3))),(2,(gsE slqC [Value.slice none 0 0] 1 (gsOf (x1.1+1) (usV (yz q n2 n3) (ez q n2 n3) (pcod x1.2.2.1 x1.1 n4) (pcod x1.2.2.2.1 x1.1 n5)) n7 n8))),(3,(plU (yz q n2 n3) (ez q n2 n3) (pcod x1.2.2.1 x1.1 n4) (pcod x1.2.2.2.1 x1.1 n5) (x1.1+1)))],4⟩ from by rw [plU_no (Q:=(yz q n2 n3)) (E:=(ez q n2 n3)) (c:=x1.2.2.1) (d:=x1.2.2.2.1) (k:=x1.1) (n1:=n4) (n2:=n5) (oF h2),(list_U (Q:=(yz q n2 n3)) (E:=(ez q n2 n3)) (c:=x1.2.2.1) (d:=x1.2.2.2.1) (k:=x1.1) (n1:=n4) (n2:=n5) (A:=Grw.mk false n7 (x1.1+1) n8 (catU ((gsOf x1.1 (usV (yz q n2 n3) (ez q n2 n3) x1.2.2.1 x1.2.2.2.1) x1.2.2.2.2.1 x1.2.2.2.2.2).f) x1.1 (fun _=>(qOf (Value.slice ((rz q n2 n3 x1.1 n4 n5).wa) ((rz q n2 n3 x1.1 n4 n5).wn) ((rz q n2 n3 x1.1 n4 n5).wc)))))) rfl rfl rfl).1,(list_U (Q:=(yz q n2 n3)) (E:=(ez q n2 n3)) (c:=x1.2.2.1) (d:=x1.2.2.2.1) (k:=x1.1) (n1:=n4) (n2:=n5) (A:=Grw.mk false n7 (x1.1+1) n8 (catU ((gsOf x1.1 (usV (yz q n2 n3) (ez q n2 n3) x1.2.2.1 x1.2.2.2.1) x1.2.2.2.2.1 x1.2.2.2.2.2).f) x1.1 (fun _=>(qOf (Value.slice ((rz q n2 n3 x1.1 n4 n5).wa) ((rz q n2 n3 x1.1 n4 n5).wn) ((rz q n2 n3 x1.1 n4 n5).wc)))))) rfl rfl rfl).2]) (aI (aI (aT (@is_add64 Tryd.prog 22 22 (.tmp 12) (.const (.int .u64 1)) x1.2.1 1)) kV1) ((rnd (un_0_R1 q n1 n2 n3) (un_0_S1 q n1 n2 n3) (un_0_mu1 q n1 n2 n3) x1 ((x1.1+1,(x1.2.1+1),(pcod x1.2.2.1 x1.1 n4),(pcod x1.2.2.2.1 x1.1 n5),n7,n8):Nat × UInt64 × Nat × Nat × Nat × Nat) (show(un_0_R1 q n1 n2 n3) ((x1.1+1,(x1.2.1+1),(pcod x1.2.2.1 x1.1 n4),(pcod x1.2.2.2.1 x1.1 n5),n7,n8):Nat × UInt64 × Nat × Nat × Nat × Nat)∧(un_0_mu1 q n1 n2 n3) ((x1.1+1,(x1.2.1+1),(pcod x1.2.2.1 x1.1 n4),(pcod x1.2.2.2.1 x1.1 n5),n7,n8):Nat × UInt64 × Nat × Nat × Nat × Nat) < (un_0_mu1 q n1 n2 n3) x1 from(show((((x1.2.1+1):UInt64).toNat=(x1.1+1))∧((x1.1+1)≤10)∧((x1.1+1)≤(nz q n2 n3).toNat))∧(10 - (x1.1+1)) < (10 - x1.1) from by have h1:=cnt_next B0 h1; have h2:(nz q n2 n3).toNat≤10:=rsV_le _ _ 10; exact⟨⟨h1.1,by omega,by omega⟩,by omega⟩))))))))) (fun(h1:(decide (x1.2.1 < (nz q n2 n3)))=false)=>have f4:=(oF h1); aI (sk (aI (aT (rend_as (F:=famB q) n1 (uz q n2 n3 x1.1).1 (uz q n2 n3 x1.1).2 0 (by have e:x1.1=uN (recG (cpG q n2 n3)):=cnt_end B0 B2 h1; rw [e]; exact(same_cp hq n2 n3).uD.trans hd))) kV1)) (aI (sK3 (aI (aI (@rfl Bool true) t2) (aI (aI (@rfl Bool true) (aT (hasU (F:=famB q) (Q:=(yz q n2 n3)) (E:=(ez q n2 n3)) (c:=x1.2.2.1) (d:=x1.2.2.2.1) (k:=x1.1) (nm:=x1.2.2.2.2.1) (r:=x1.2.2.2.2.2) B1 (fun i=>Nat.le_trans (rbN_100 (RdR.small (RdR.small (rd_first hq hl n2 n3) 0 18446744073709551615) (rsE (recG (cpG q n2 n3)) 0 18446744073709551615) 10) (ez q n2 n3) i) (by decide))))) (aI (aI (@rfl Bool true) t2) (aI (fun(hg:(sB (inB (usB (yz q n2 n3) (ez q n2 n3)) x1.1 (bytZ none 0)) false)=true)=>t2) (aI (fun(hg:(sB (inB (usB (yz q n2 n3) (ez q n2 n3)) x1.1 (bytZ none 0)) false)=true)=>have f5:(inB (usB (yz q n2 n3) (ez q n2 n3)) x1.1 (bytZ none 0))=false:=(sameB_f hg); (aI (aI hg tV) (twU (F:=famB q) (Q:=(yz q n2 n3)) (E:=(ez q n2 n3)) (c:=x1.2.2.1) (d:=x1.2.2.2.1) (k:=x1.1) (nm:=x1.2.2.2.2.1) (r:=x1.2.2.2.2.2) B1 (fun i=>Nat.le_trans (rbN_100 (RdR.small (RdR.small (rd_first hq hl n2 n3) 0 18446744073709551615) (rsE (recG (cpG q n2 n3)) 0 18446744073709551615) 10) (ez q n2 n3) i) (by decide))))) (aI (aI (@rfl Bool true) (aT (aI (fun(_:(inB (usB (yz q n2 n3) (ez q n2 n3)) x1.1 (bytZ none 0))=true)=>tV) (fun(hp:(inB (usB (yz q n2 n3) (ez q n2 n3)) x1.1 (bytZ none 0))=false)=>(sameB_mkf hp))))) (aI (aT (aI (fun(_:true=true)=>tV) (fun(_:true=false)=>tV))) tV)))))))) ((fun(hp3:(selB true (selB (inB (usB (yz q n2 n3) (ez q n2 n3)) x1.1 (bytZ none 0)) true (twB (usB (yz q n2 n3) (ez q n2 n3)) x1.1)) false)=false)=>aT (aI hp3 (aI kV2 (aT (aI (@rfl Bool false) (aI (show(⟨[(2,.v (u64 (rsV (recG (cpG q n2 n3)) 0 18446744073709551615))),(3,.v (gsV (gsOf x1.1 (usV (yz q n2 n3) (ez q n2 n3) x1.2.2.1 x1.2.2.2.1) x1.2.2.2.2.1 x1.2.2.2.2.2)))],[(2,(gsE slqC [Value.slice none 0 0] 1 (gsOf x1.1 (usV (yz q n2 n3) (ez q n2 n3) x1.2.2.1 x1.2.2.2.1) x1.2.2.2.2.1 x1.2.2.2.2.2))),(3,(plU (yz q n2 n3) (ez q n2 n3) x1.2.2.1 x1.2.2.2.1 x1.1))],4⟩:St)=⟨[(2,.v (u64 (uH q))),(3,.v (gsV (gsOf (uN q) (usV (uQ q) (uE q) x1.2.2.1 x1.2.2.2.1) x1.2.2.2.2.1 x1.2.2.2.2.2)))],[(2,(gsE slqC [Value.slice none 0 0] 1 (gsOf (uN q) (usV (uQ q) (uE q) x1.2.2.1 x1.2.2.2.1) x1.2.2.2.2.1 x1.2.2.2.2.2))),(3,(plU (uQ q) (uE q) x1.2.2.1 x1.2.2.2.1 (uN q)))],4⟩ from by have e:x1.1=uN (recG (cpG q n2 n3)):=cnt_end B0 B2 h1; have a0:=(same_cp hq n2 n3).uN; have a1:rsV (recG (cpG q n2 n3)) 0 18446744073709551615=uH q:=(same_cp hq n2 n3).uH; have a2:usV (yz q n2 n3) (ez q n2 n3) x1.2.2.1 x1.2.2.2.1=usV (uQ q) (uE q) x1.2.2.1 x1.2.2.2.1:=us_cp_V hq n2 n3 x1.2.2.1 x1.2.2.2.1; have a3:plU (yz q n2 n3) (ez q n2 n3) x1.2.2.1 x1.2.2.2.1 (uN q)=plU (uQ q) (uE q) x1.2.2.1 x1.2.2.2.1 (uN q):=us_cp_P hq n2 n3 x1.2.2.1 x1.2.2.2.1 _; rw [e,a0,a1,a2,a3]) (aI (sk kV4) (aT (eX (fun(ns:List Nat)=>ns.length=4∧((Value.tuple #[(u64 (uH q)),(gsV (gsOf (uN q) (usV (uQ q) (uE q) x1.2.2.1 x1.2.2.2.1) x1.2.2.2.2.1 x1.2.2.2.2.2)),(int 0)]):Value)=(fun(ns:List Nat)=>(Value.tuple #[(u64 (uH q)),(gsV (gsOf (uN q) (usV (uQ q) (uE q) (ns.getD 0 0) (ns.getD 1 0)) (ns.getD 2 0) (ns.getD 3 0))),(int 0)])) ns∧([(gsE slqC [Value.slice none 0 0] 1 (gsOf (uN q) (usV (uQ q) (uE q) x1.2.2.1 x1.2.2.2.1) x1.2.2.2.2.1 x1.2.2.2.2.2)),(plU (uQ q) (uE q) x1.2.2.1 x1.2.2.2.1 (uN q))]:List (Option Blk))=(fun(ns:List Nat)=>[(gsE slqC [Value.slice none 0 0] 1 (gsOf (uN q) (usV (uQ q) (uE q) (ns.getD 0 0) (ns.getD 1 0)) (ns.getD 2 0) (ns.getD 3 0))),(plU (uQ q) (uE q) (ns.getD 0 0) (ns.getD 1 0) (uN q))]) ns) [x1.2.2.1,x1.2.2.2.1,x1.2.2.2.2.1,x1.2.2.2.2.2] (aI (@rfl Nat 4) (aI (@rfl Value (Value.tuple #[(u64 (uH q)),(gsV (gsOf (uN q) (usV (uQ q) (uE q) x1.2.2.1 x1.2.2.2.1) x1.2.2.2.2.1 x1.2.2.2.2.2)),(int 0)])) (@rfl (List (Option Blk)) [(gsE slqC [Value.slice none 0 0] 1 (gsOf (uN q) (usV (uQ q) (uE q) x1.2.2.1 x1.2.2.2.1) x1.2.2.2.2.1 x1.2.2.2.2.2)),(plU (uQ q) (uE q) x1.2.2.1 x1.2.2.2.1 (uN q))])))))))))))) (show(selB true (selB (inB (usB (yz q n2 n3) (ez q n2 n3)) x1.1 (bytZ none 0)) true (twB (usB (yz q n2 n3) (ez q n2 n3)) x1.1)) false)=false from by have e:x1.1=uN (recG (cpG q n2 n3)):=cnt_end B0 B2 h1; rw [e]; exact(same_cp hq n2 n3).uB.trans hb)))))))))))))))
theorem unpack_run (q:BytL) (hq:OkB q) (hl:q.wn≤100000):RunsO (famB q) Tryd.prog 8 [slqV q] [] 4 (fun ns=>.tuple #[u64 (unH q),gsV (unL q (ns.getD 0 0) (ns.getD 1 0) (ns.getD 2 0) (ns.getD 3 0)),int (unX q)]) (fun ns=>[gsE slqC [Value.slice none 0 0] 1 (unL q (ns.getD 0 0) (ns.getD 1 0) (ns.getD 2 0) (ns.getD 3 0)),unP q (ns.getD 0 0) (ns.getD 1 0)]):=by
  by_cases hd:uD q=0
  · cases hb:uB q with
    | true =>
      have e:=unX_2 hd hb
      simp only [e,un_no (show unX q≠0 by rw [e]; decide)]
      exact(un_2 q hq hl hd hb).as (.refl _) (fun _=>[0,0,0,0]) fun ns _=>⟨rfl,rfl,.dn (.dn (.zz _)),tV⟩
    | false =>
      have e:=unX_0 hd hb
      simp only [e,un_yes e]
      exact un_0 q hq hl hd hb
  · have e:=unX_1 hd
    simp only [e,un_no (show unX q≠0 by rw [e]; exact hd)]
    exact(un_1 q hq hl hd).as (.refl _) (fun _=>[0,0,0,0]) fun ns _=>⟨rfl,rfl,.dn (.dn (.zz _)),tV⟩
end Go.Proofs.YtnailbicmhkmbaaDoor
end
