/-
  Many in one: Chase, Chase2, Chase3, ChCl, Chase4, ChNw, ChBl, Chase5, Chase6, Chase7, Chase8, Chase9, Chase10, Chase11.
-/
import Derived.Test.YtmdpendnbkajdaaDoorZChaseTurned17
import GoSem.Extern.BytealgCompare
set_option linter.unusedVariables false
set_option linter.unusedSimpArgs false
set_option maxRecDepth 100000
set_option maxHeartbeats 1000000
section
namespace Go.Eng
open Go.WideShapes Go.ChangeShapes Go.ChangeAt
def cmpN (f g:Nat→UInt8) (n:Nat):Int:=match (List.range n).find? fun i=>f i != g i with
  | some i=>if f i < g i then -1 else 1
  | none=>0
def cmpR (f g:Nat→UInt8):Int:=cmpN f g 32
def rowA (f:Nat→UInt8) (n:Nat):ByteArray:=⟨((List.range n).map f).toArray⟩
theorem rowA_at {f:Nat→UInt8} {n i:Nat} (h:i < n):(rowA f n)[i]! = f i:=by
  unfold rowA
  show(ByteArray.mk _)[i]! = _
  rw [getElem!_pos _ i (by show i < Array.size _; simp; exact h)]
  show(((List.range n).map f).toArray)[i]'(by simp; exact h)=f i
  simp
theorem find_eq {p q:Nat→Bool}:∀ {l:List Nat},(∀ i ∈ l,p i=q i)→l.find? p=l.find? q
  | [],_=>rfl
  | i :: l,h=>by
    simp only [List.find?_cons]
    rw [h i (.head _),find_eq fun j hj=>h j (.tail _ hj)]
theorem cmp_row (f g:Nat→UInt8) (n:Nat):Extern.BytealgCompare.cmp (rowA f n) (rowA g n)=cmpN f g n:=by
  have hs:∀ f:Nat→UInt8,(rowA f n).size=n:=fun f=>by show Array.size _=n; simp
  unfold Extern.BytealgCompare.cmp cmpN
  rw [hs,hs,Nat.min_self]
  have e:(List.range n).find? (fun i=>(rowA f n)[i]! != (rowA g n)[i]!)=(List.range n).find? fun i=>f i != g i :=
    find_eq fun i hi=>by rw [rowA_at (List.mem_range.1 hi),rowA_at (List.mem_range.1 hi)]
  rw [e]
  cases hf:(List.range n).find? fun i=>f i != g i with
  | none=>simp
  | some i =>
    have hi:=List.mem_range.1 (List.mem_of_find?_eq_some hf)
    simp only [rowA_at hi]
theorem run_bytes {P : Program} {w : World} (b : Nat) (f : Nat → UInt8) : ∀ (n o : Nat) (acc : ByteArray), (∀ i, i < n → w.cell? ⟨b, o + i, none⟩ = some (u8 (f (o + i)))) →
    (Extern.Bytes.loadBytes ⟨b,o,none⟩ n acc).run P w = .ok ⟨acc.data ++ ((List.range n).map fun i=>f (o+i)).toArray⟩ w
  | 0,o,acc,_=>by
    show Result.ok acc w=_
    simp
  | n+1,o,acc,h=>by
    have h0:=h 0 (by omega)
    rw [Nat.add_zero] at h0
    have ih:=run_bytes (P:=P) (w:=w) b f n (o+1) (acc.push (f o)) fun i hi=>by
      have:=h (i+1) (by omega)
      rw [show o+(i+1)=o+1+i by omega] at this; exact this
    unfold Extern.Bytes.loadBytes
    have hl:(load ⟨b,o,none⟩).run P w = .ok (u8 (f o)) w:=by
      simp [load,Sem.run,h0]
    simp only [Sem.run_bind,hl,Result.andThen_ok]
    unfold u8
    simp only
    have e1:((f o).toNat:Int).toNat.toUInt8=f o:=by simp
    rw [e1]
    refine ih.trans ?_
    congr 2
    rw [ByteArray.push,List.range_succ_eq_map,List.map_cons,List.map_map]
    apply Array.toList_inj.1
    simp
    intro a _
    congr 1; omega
theorem run_bytesOf {P:Program} {w:World} (b n c:Nat) (f:Nat→UInt8) (h:∀ i,i < n→w.cell? ⟨b,0+i,none⟩=some (u8 (f i))):(Extern.Bytes.bytesOf (.slice (some ⟨b,0,none⟩) n c)).run P w = .ok (rowA f n) w:=by
  show(Extern.Bytes.loadBytes ⟨b,0,none⟩ n .empty).run P w=_
  rw [run_bytes b f n 0 .empty fun i hi=>by rw [h i hi,Nat.zero_add]]
  unfold rowA
  congr 2
  simp [ByteArray.empty,ByteArray.emptyWithCapacity] <;> rfl
theorem srun_cmp {P : Program} {fid : FuncId} (hE : ∀ args w, (callFunc fid args).run P w = (do pure (Next.value (← Extern.BytealgCompare.compare args)) : Sem Next).run P w) (b1 b2 n c1 c2 : Nat) (f g : Nat → UInt8) (C1 C2 : Cont)
    (h1:∀ i,i < n→C1.get i=some (u8 (f i))) (h2:∀ i,i < n→C2.get i=some (u8 (g i))) :
    SRuns P (callFunc fid #[.slice (some ⟨b1,0,none⟩) n c1,.slice (some ⟨b2,0,none⟩) n c2]) [⟨b1,false,0,C1⟩,⟨b2,false,0,C2⟩] 0 (fun _=>int (cmpN f g n)) (fun _=>[none,none]):=by
  intro w hall ha
  have k1:=hall _ (List.mem_cons_self ..)
  have k2:=hall _ (List.mem_cons_of_mem _ (List.mem_singleton.2 rfl))
  refine⟨[],w,rfl,.inl ?_,post_none 2⟩
  rw [hE]
  have e:∀ x y,Extern.BytealgCompare.compare #[x,y]=(do pure (goInt (Extern.BytealgCompare.cmp (← Extern.Bytes.bytesOf x) (← Extern.Bytes.bytesOf y))):Sem Value):=fun _ _=>rfl
  rw [e]
  simp only [Sem.run_bind,run_bytesOf b1 n c1 f fun i hi=>k1.cell i _ (h1 i hi),run_bytesOf b2 n c2 g fun i hi=>k2.cell i _ (h2 i hi),Result.andThen_ok,Sem.run_pure,cmp_row]
  rfl
end Go.Eng
end
section
namespace Go.Eng
structure Slot where
  key:UInt64
  t:Nat
  sp:Nat
  sr:Nat
  fm:Nat
  am:Nat
  bm:Nat
  F:Fst
  A:List (Int × Unit)
  B:List ((Nat→UInt8) × BytL)
structure RwP where
  nm:Nat
  n:Nat
  c:Nat
  f:Nat→UInt8
abbrev Bks:=List ((Nat→UInt8) × BytL)
abbrev CV:=Option (Nat × Nat)
def clV:CV→Value
  | none=>.agg #[.pointer none,.map none]
  | some (t,b)=>.agg #[ptr t 0,.map (some b)]
def bkC (l:List ((Nat→UInt8) × BytL)):Cont:=mapC rowV slqV l
def hgL (l:List Slot):List (UInt64 × CV):=l.map fun x=>(x.key,some (x.t,x.bm))
def talC (n:Nat) (s:Nat→UInt64) (x:Slot):List Value:=[.slice (some ⟨x.sp,0,none⟩) n (n+x.sr),u64 (totN s n).a,.map (some x.fm),.map (some x.am)]
def objP {α β:Type} (kv:α→Value) (ev:β→Value) (l:List (α × β)):Piece:=.obj (entsL kv ev l 0).toArray l.length
def talP (n:Nat) (s:Nat→UInt64) (x:Slot):Nat × Piece:=(x.t,.row 4 1 fun i=>[(talC n s x).getD i (.bool false)])
def stkP (n:Nat) (s:Nat→UInt64) (x:Slot):Nat × Piece:=(x.sp,.row n 1 fun i=>[u64 (s i)])
def fstP (x:Slot):Nat × Piece:=(x.fm,objP int rowV x.F)
def agaP (x:Slot):Nat × Piece:=(x.am,objP int ev0 x.A)
def bkP (x:Slot):Nat × Piece:=(x.bm,objP rowV slqV x.B)
def rowB (y:RwP):BytL:=bytO y.nm y.n y.c y.f
def rowP (y:RwP):Nat × Piece:=(y.nm,.row y.c 1 fun k=>[if k < y.n then u8 (y.f k) else u8 0])
def Cont.capN:Cont→Nat
  | .tab c _ _=>c
  | _=>0
def rwL (n:Nat) (f:Nat→UInt8):List Blk→BytL
  | _ :: b :: _=>rowB ⟨b.name,n,b.cont.capN,f⟩
  | _=>bytZ none 0
structure ChR where
  p:Nat
  h:Nat
  sp:Nat
  sr:Nat
  n:Nat
  s:Nat→UInt64
  D:List Nat
  l:List Slot
  R:List RwP
def chH (X:ChR):Option Blk:=some ⟨X.p,true,0,.lit [.slice (some ⟨X.sp,0,none⟩) X.n (X.n+X.sr),.map (some X.h)]⟩
def chK (X:ChR):Option Blk:=some ⟨X.sp,true,0,tabF X.n fun k=>u64 (X.s k)⟩
def chM (X:ChR):Option Blk:=some ⟨X.h,true,0,mapP u64 clV X.D (hgL X.l)⟩
def chT (X:ChR):Option Blk:=lpO X.p (X.l.map (talP X.n X.s))
def chS (X:ChR):Option Blk:=lpO X.p (X.l.map (stkP X.n X.s))
def chF (X:ChR):Option Blk:=lpO X.p (X.l.map fstP)
def chA (X:ChR):Option Blk:=lpO X.p (X.l.map agaP)
def chB (X:ChR):Option Blk:=lpO X.p (X.l.map bkP)
def chR (X:ChR):Option Blk:=lpO X.p (X.R.map rowP)
def chO (X:ChR):List (Option Blk):=[chH X,chK X,chM X,chT X,chS X,chF X,chA X,chB X,chR X]
theorem chO_own (X:ChR):ownL (chO X):=⟨rfl,rfl,rfl,rfl,rfl,rfl,rfl,rfl,rfl,trivial⟩
def slI (X:ChR) (k:UInt64):Option Nat:=(findP eqW k X.D (hgL X.l) 0 0).map fun p=>p.2.1
def slX (X:ChR) (k:UInt64):Option Slot:=(slI X k).bind fun j=>X.l[j]?
theorem sl_at {X:ChR} {k:UInt64} {x:Slot} (h:slX X k=some x):∃ j,slI X k=some j∧X.l[j]? = some x∧x.key=k∧X.D.contains j=false∧findV eqW k X.D (hgL X.l)=some (some (x.t,x.bm)):=by
  unfold slX slI at h
  cases hf:findP eqW k X.D (hgL X.l) 0 0 with
  | none=>rw [hf] at h; cases h
  | some q =>
    obtain⟨p,j,v⟩:=q
    rw [hf] at h
    have hj:X.l[j]? = some x:=h
    obtain⟨_,_,_,k',h4,h5,h6⟩:=findP_at (kv:=u64) (ev:=clV) hf
    rw [Nat.sub_zero] at h4
    have h7:(hgL X.l)[j]? = some (x.key,some (x.t,x.bm)):=by unfold hgL; rw [List.getElem?_map,hj]; rfl
    rw [h7] at h4
    injection h4 with h4; injection h4 with e1 e2; subst e1
    refine⟨j,by unfold slI; rw [hf]; rfl,hj,(eqW_iff.1 h5).symm,h6,?_⟩
    unfold findV; rw [hf,e2]; rfl
theorem sl_no {X:ChR} {k:UInt64} (h:slX X k=none):findV eqW k X.D (hgL X.l)=none:=by
  unfold slX slI at h
  unfold findV
  cases hf:findP eqW k X.D (hgL X.l) 0 0 with
  | none=>rfl
  | some q =>
    exfalso
    obtain⟨p,j,v⟩:=q
    rw [hf] at h
    have hj:X.l[j]? = none:=h
    obtain⟨_,_,_,k',h4,_⟩:=findP_at (kv:=u64) (ev:=clV) hf
    rw [Nat.sub_zero] at h4
    unfold hgL at h4
    rw [List.getElem?_map,hj] at h4; cases h4
def lstS (s:Nat→UInt64) (n:Nat) (F:Fst) (m:(Nat→UInt8) × Bool) (v:Nat→UInt8):(Nat→UInt8) × Bool :=
  if selB (moreU (forV s F v) (totN s n).a) (selB (!m.2) true (decide (cmpR v m.1 < 0))) false=true then (v,true) else m
def rB0:(Nat→UInt8) × BytL:=(fun _=>0,bytZ none 0)
def nmB (B:List ((Nat→UInt8) × BytL)) (i:Nat):Nat→UInt8:=(kvAt rB0 B i).1
def lstO (s:Nat→UInt64) (n:Nat) (F:Fst) (B:List ((Nat→UInt8) × BytL)) (o:List Nat):(Nat→UInt8) × Bool:=o.foldl (fun m i=>lstS s n F m (nmB B i)) (fun _=>0,false)
def lstB (s:Nat→UInt64) (n:Nat) (F:Fst) (B:List ((Nat→UInt8) × BytL)):(Nat→UInt8) × Bool:=lstO s n F B (List.range B.length)
def bvF (X:ChR) (k:UInt64):Bool:=match slX X k with
  | none=>false
  | some x=>(lstB X.s X.n x.F x.B).2
def bvB (X:ChR) (k:UInt64):BytL:=match slX X k with
  | none=>bytZ none 0
  | some x=>(findE sR (lstB X.s X.n x.F x.B).1 x.B).getD (bytZ none 0)
noncomputable def hearE (X:ChR) (k:UInt64) (w:Int) (y:BytL) (v:Nat→UInt8):Int :=
  if unX y≠0∨unH y≠k then 31 else match slX X k with
    | some x=>voteE X.n X.s x.F w v
    | none=>if X.l.length=20 then 52 else voteE X.n X.s [] w v
def slU (X:ChR) (x:Slot) (w:Int) (v:Nat→UInt8) (b:BytL):Slot :=
  { x with F:=voteF X.n X.s x.F w v,A:=voteA X.n X.s x.F x.A w v,B:=if voteE X.n X.s x.F w v=0 then putE sR v b x.B else x.B }
def hrO (X:ChR) (j:Nat) (x:Slot) (w:Int) (v:Nat→UInt8) (y:RwP):ChR :=
  { X with l:=X.l.set j (slU X x w v (rowB y)),R:=if voteE X.n X.s x.F w v=0 then X.R ++ [y] else X.R }
def slN (k:UInt64) (w:Int) (v:Nat→UInt8) (y:RwP) (t sp sr fm am bm:Nat):Slot:=⟨k,t,sp,sr,fm,am,bm,[(w,v)],[],[(v,rowB y)]⟩
def hrN (X:ChR) (k:UInt64) (w:Int) (v:Nat→UInt8) (y:RwP) (t sp sr fm am bm:Nat):ChR :=
  { X with l:=X.l ++ [slN k w v y t sp sr fm am bm],R:=X.R ++ [y] }
noncomputable def hrX (X:ChR) (k:UInt64) (w:Int) (y:BytL) (v:Nat→UInt8) (nm r t sp sr fm am bm:Nat):ChR :=
  if unX y≠0∨unH y≠k then X else match slX X k with
    | some x=>hrO X ((slI X k).getD 0) x w v ⟨nm,y.wn,y.wn+r,y.wf⟩
    | none=>if X.l.length=20 then X else if voteE X.n X.s [] w v=0 then hrN X k w v ⟨nm,y.wn,y.wn+r,y.wf⟩ t sp sr fm am bm else X
section
variable {X:ChR} {k:UInt64} {w:Int} {y:BytL} {v:Nat→UInt8}
theorem hear_1 (h:unX y≠0∨unH y≠k):hearE X k w y v=31∧∀ a b c d e f g i,hrX X k w y v a b c d e f g i=X:=⟨if_pos h,fun _ _ _ _ _ _ _ _=>if_pos h⟩
theorem hear_2 (h:¬ (unX y≠0∨unH y≠k)) (hs:slX X k=none) (h20:X.l.length=20):hearE X k w y v=52∧∀ a b c d e f g i,hrX X k w y v a b c d e f g i=X:=by
  unfold hearE hrX
  simp only [if_neg h,hs,if_pos h20]
  exact⟨trivial,fun _ _ _ _ _ _ _ _=>trivial⟩
theorem hear_3 (h:¬ (unX y≠0∨unH y≠k)) {x:Slot} {j:Nat} (hs:slX X k=some x) (hj:slI X k=some j):hearE X k w y v=voteE X.n X.s x.F w v∧∀ a b c d e f g i,hrX X k w y v a b c d e f g i=hrO X j x w v ⟨a,y.wn,y.wn+b,y.wf⟩:=by
  unfold hearE hrX
  simp only [if_neg h,hs,hj]
  exact⟨trivial,fun _ _ _ _ _ _ _ _=>rfl⟩
theorem hear_4 (h:¬ (unX y≠0∨unH y≠k)) (hs:slX X k=none) (h20:¬ X.l.length=20) (hv:voteE X.n X.s [] w v≠0):hearE X k w y v=voteE X.n X.s [] w v∧∀ a b c d e f g i,hrX X k w y v a b c d e f g i=X:=by
  unfold hearE hrX
  simp only [if_neg h,hs,if_neg h20,if_neg hv]
  exact⟨trivial,fun _ _ _ _ _ _ _ _=>trivial⟩
theorem hear_5 (h:¬ (unX y≠0∨unH y≠k)) (hs:slX X k=none) (h20:¬ X.l.length=20) (hv:voteE X.n X.s [] w v=0):hearE X k w y v=0∧∀ a b c d e f g i,hrX X k w y v a b c d e f g i=hrN X k w v ⟨a,y.wn,y.wn+b,y.wf⟩ c d e f g i:=by
  unfold hearE hrX
  simp only [if_neg h,hs,if_neg h20,hv,if_true]
  exact⟨trivial,fun _ _ _ _ _ _ _ _=>trivial⟩
end
end Go.Eng
end
section
namespace Go.Eng
def LtR (f g:Nat→UInt8):Prop:=∃ i,i < 32∧f i < g i∧∀ j,j < i→f j=g j
theorem first_at {p:Nat→Bool}:∀ {n i:Nat},(List.range n).find? p=some i→i < n∧p i=true∧∀ j,j < i→p j=false
  | n,i,h=>by
    have h1:=List.mem_range.1 (List.mem_of_find?_eq_some h)
    refine⟨h1,List.find?_some h,fun j hj=>?_⟩
    obtain⟨l1,l2,e,hn⟩:=(List.find?_eq_some_iff_append.1 h).2
    cases hp:p j with
    | false=>rfl
    | true =>
      exfalso
      have hl:l1.length=i:=by
        have h2:(List.range n)[l1.length]? = some i:=by rw [e]; simp
        rw [List.getElem?_range (by
          have:=(List.getElem?_eq_some_iff.1 h2).1; simpa using this)] at h2
        injection h2
      have hm:j ∈ l1:=by
        have h2:(List.range n)[j]? = some j:=List.getElem?_range (by omega)
        rw [e,List.getElem?_append_left (by omega)] at h2
        exact List.mem_of_getElem? h2
      have:=hn j hm
      rw [hp] at this; cases this
theorem cmp_lt {f g:Nat→UInt8}:cmpR f g < 0 ↔ LtR f g:=by
  unfold cmpR cmpN
  cases hf:(List.range 32).find? fun i=>f i != g i with
  | none =>
    have hn:=List.find?_eq_none.1 hf
    constructor
    · intro h; simp at h
    · rintro⟨i,h1,h2,_⟩
      have:=hn i (List.mem_range.2 h1)
      simp at this
      rw [this] at h2
      exact absurd h2 (UInt8.lt_irrefl _)
  | some i =>
    obtain⟨h1,h2,h3⟩:=first_at hf
    have h3':∀ j,j < i→f j=g j:=fun j hj=>by simpa using h3 j hj
    constructor
    · intro h
      by_cases hl:f i < g i
      · exact⟨i,h1,hl,h3'⟩
      · simp [hl] at h
    · rintro⟨k,k1,k2,k3⟩
      have hk:k=i:=by
        rcases Nat.lt_trichotomy k i with h | h | h
        · rw [h3' k h] at k2; exact absurd k2 (UInt8.lt_irrefl _)
        · exact h
        · have:=k3 i h
          simp [this] at h2
      subst hk
      simp [k2]
theorem LtR.trans {f g h:Nat→UInt8} (a:LtR f g) (b:LtR g h):LtR f h:=by
  obtain⟨i,i1,i2,i3⟩:=a
  obtain⟨k,k1,k2,k3⟩:=b
  rcases Nat.lt_trichotomy i k with e | e | e
  · exact⟨i,i1,by rw [← k3 i e]; exact i2,fun j hj=>(i3 j hj).trans (k3 j (by omega))⟩
  · subst e; exact⟨i,i1,UInt8.lt_trans i2 k2,fun j hj=>(i3 j hj).trans (k3 j hj)⟩
  · exact⟨k,k1,by rw [i3 k e]; exact k2,fun j hj=>(i3 j (by omega)).trans (k3 j hj)⟩
theorem LtR.tri (f g:Nat→UInt8):LtR f g∨sR f g=true∨LtR g f:=by
  cases hf:(List.range 32).find? fun i=>f i != g i with
  | none =>
    have hn:=List.find?_eq_none.1 hf
    exact .inr (.inl (sR_iff.2 fun i hi=>by simpa using hn i (List.mem_range.2 hi)))
  | some i =>
    obtain⟨h1,h2,h3⟩:=first_at hf
    have h3':∀ j,j < i→f j=g j:=fun j hj=>by simpa using h3 j hj
    have hne:f i≠g i:=by simpa using h2
    rcases UInt8.lt_or_lt_of_ne hne with h | h
    · exact .inl ⟨i,h1,h,h3'⟩
    · exact .inr (.inr ⟨i,h1,h,fun j hj=>(h3' j hj).symm⟩)
theorem LtR.congr_l {f f' g:Nat→UInt8} (h:sR f f'=true) (a:LtR f g):LtR f' g:=by
  obtain⟨i,i1,i2,i3⟩:=a
  have e:=sR_iff.1 h
  exact⟨i,i1,by rw [← e i i1]; exact i2,fun j hj=>by rw [← e j (by omega)]; exact i3 j hj⟩
theorem LtR.not_ge {f g h:Nat→UInt8} (a:LtR f g) (b:¬ LtR h g):¬ LtR h f:=fun c=>b (c.trans a)
section
variable {s:Nat→UInt64} {n:Nat} {F:Fst} {B:List ((Nat→UInt8) × BytL)}
def thB (s:Nat→UInt64) (n:Nat) (F:Fst) (B:List ((Nat→UInt8) × BytL)) (i:Nat):Bool:=moreU (forV s F (nmB B i)) (totN s n).a
theorem lst_snoc (o:List Nat) (i:Nat):lstO s n F B (o ++ [i])=lstS s n F (lstO s n F B o) (nmB B i):=by unfold lstO; rw [List.foldl_append]; rfl
def IsL (s:Nat→UInt64) (n:Nat) (F:Fst) (B:List ((Nat→UInt8) × BytL)) (o:List Nat) (m:(Nat→UInt8) × Bool):Prop :=
  (m=(fun _=>0,false)∧∀ j ∈ o,thB s n F B j=false)∨(m.2=true∧∃ i ∈ o,thB s n F B i=true∧m.1=nmB B i∧∀ j ∈ o,thB s n F B j=true→¬ LtR (nmB B j) (nmB B i))
theorem IsL.step {o:List Nat} {m:(Nat→UInt8) × Bool} (h:IsL s n F B o m) (k:Nat):IsL s n F B (o ++ [k]) (lstS s n F m (nmB B k)):=by
  cases ht:thB s n F B k with
  | false =>
    have e:lstS s n F m (nmB B k)=m:=by
      unfold lstS
      rw [show moreU (forV s F (nmB B k)) (totN s n).a=false from ht]
      rfl
    rw [e]
    rcases h with ⟨h1,h2⟩ | ⟨h1,i,hi,h3,h4,h5⟩
    · refine .inl ⟨h1,fun j hj=>?_⟩
      rcases List.mem_append.1 hj with hj | hj
      · exact h2 j hj
      · simp at hj; subst hj; exact ht
    · refine .inr ⟨h1,i,by simp [hi],h3,h4,fun j hj hjt=>?_⟩
      rcases List.mem_append.1 hj with hj | hj
      · exact h5 j hj hjt
      · simp at hj; subst hj; rw [ht] at hjt; cases hjt
  | true =>
    have e:lstS s n F m (nmB B k)=if m.2=true∧¬ cmpR (nmB B k) m.1 < 0 then m else (nmB B k,true):=by
      unfold lstS
      rw [show moreU (forV s F (nmB B k)) (totN s n).a=true from ht]
      cases h2:m.2 with
      | false=>simp [selB]
      | true =>
        by_cases hl:cmpR (nmB B k) m.1 < 0
        · simp [selB,hl]
        · simp [selB,hl]
    rw [e]
    rcases h with ⟨h1,h2⟩ | ⟨h1,i,hi,h3,h4,h5⟩
    · rw [if_neg (fun z=>by rw [h1] at z; cases z.1)]
      refine .inr ⟨rfl,k,by simp,ht,rfl,fun j hj hjt=>?_⟩
      rcases List.mem_append.1 hj with hj | hj
      · rw [h2 j hj] at hjt; cases hjt
      · simp at hj; subst hj
        exact fun⟨i,_,h,_⟩=>UInt8.lt_irrefl _ h
    · by_cases hc:cmpR (nmB B k) m.1 < 0
      · have hl:=cmp_lt.1 hc
        rw [if_neg (fun z=>z.2 hc)]
        refine .inr ⟨rfl,k,by simp,ht,rfl,fun j hj hjt=>?_⟩
        rcases List.mem_append.1 hj with hj | hj
        · rw [h4] at hl; exact hl.not_ge (h5 j hj hjt)
        · simp at hj; subst hj
          exact fun⟨i,_,h,_⟩=>UInt8.lt_irrefl _ h
      · have hl:¬ LtR (nmB B k) m.1:=fun z=>hc (cmp_lt.2 z)
        rw [if_pos ⟨h1,hc⟩]
        refine .inr ⟨h1,i,by simp [hi],h3,h4,fun j hj hjt=>?_⟩
        rcases List.mem_append.1 hj with hj | hj
        · exact h5 j hj hjt
        · simp at hj; subst hj; rw [← h4]; exact hl
theorem lst_is (o:List Nat):IsL s n F B o (lstO s n F B o):=by
  have:∀ (o1 o:List Nat),IsL s n F B o (lstO s n F B o)→IsL s n F B (o ++ o1) (lstO s n F B (o ++ o1)):=by
    intro o1
    induction o1 with
    | nil=>intro o h; simpa using h
    | cons j o1 ih =>
      intro o h
      rw [show o ++ j :: o1=(o ++ [j]) ++ o1 by simp]
      refine ih (o ++ [j]) ?_
      rw [lst_snoc]; exact h.step j
  simpa using this o [] (.inl ⟨rfl,fun j hj=>by cases hj⟩)
theorem lst_ord {o:List Nat} (h:OrdA B.length o):(lstO s n F B o).2=(lstB s n F B).2∧sR (lstO s n F B o).1 (lstB s n F B).1=true:=by
  have h1:=lst_is (s:=s) (n:=n) (F:=F) (B:=B) o
  have h2:=lst_is (s:=s) (n:=n) (F:=F) (B:=B) (List.range B.length)
  have hm:∀ j,j ∈ o ↔ j ∈ List.range B.length:=fun j=>by rw [h.mem,List.mem_range]
  change IsL s n F B (List.range B.length) (lstB s n F B) at h2
  rcases h1 with ⟨a1,a2⟩ | ⟨a1,i,hi,a3,a4,a5⟩
  · rcases h2 with ⟨b1,_⟩ | ⟨_,k,hk,b3,_,_⟩
    · rw [a1,b1]; exact⟨rfl,sR_refl _⟩
    · rw [a2 k ((hm k).2 hk)] at b3; cases b3
  · rcases h2 with ⟨_,b2⟩ | ⟨b1,k,hk,b3,b4,b5⟩
    · rw [b2 i ((hm i).1 hi)] at a3; cases a3
    · refine⟨a1.trans b1.symm,?_⟩
      rw [a4,b4]
      rcases LtR.tri (nmB B i) (nmB B k) with h | h | h
      · exact absurd h (b5 i ((hm i).1 hi) a3)
      · exact h
      · exact absurd h (a5 k ((hm k).2 hk) b3)
theorem lst_yes (h:(lstB s n F B).2=true):∃ i,i < B.length∧thB s n F B i=true∧(lstB s n F B).1=nmB B i:=by
  rcases lst_is (s:=s) (n:=n) (F:=F) (B:=B) (List.range B.length) with ⟨a1,_⟩ | ⟨_,i,hi,a3,a4,_⟩
  · change lstB s n F B=_ at a1; rw [a1] at h; cases h
  · exact⟨i,List.mem_range.1 hi,a3,a4⟩
end
end Go.Eng
namespace Go.Eng
section
variable {s:Nat→UInt64} {n:Nat} {F:Fst} {B:List ((Nat→UInt8) × BytL)} {o:List Nat} {j:Nat} {m:Nat→UInt8} {f:Bool}
theorem lst_yesS (h1 : m = (lstO s n F B o).1) (h2 : f = (lstO s n F B o).2) (h : selB (moreU (forV s F (nmB B j)) (totN s n).a) (selB (!f) true (decide (cmpR (nmB B j) m < 0))) false = true) :
    nmB B j=(lstO s n F B (o ++ [j])).1∧true=(lstO s n F B (o ++ [j])).2:=by
  rw [lst_snoc]; unfold lstS; rw [← h1,← h2,if_pos h]; exact⟨rfl,rfl⟩
theorem lst_noS (h1 : m = (lstO s n F B o).1) (h2 : f = (lstO s n F B o).2) (h : selB (moreU (forV s F (nmB B j)) (totN s n).a) (selB (!f) true (decide (cmpR (nmB B j) m < 0))) false = false) :
    m=(lstO s n F B (o ++ [j])).1∧f=(lstO s n F B (o ++ [j])).2:=by
  rw [lst_snoc]; unfold lstS; rw [← h1,← h2,if_neg (by rw [h]; decide)]; exact⟨h1,h2⟩
theorem lit_sR {f g:Nat→UInt8} (h:sR f g=true):(litF 32 fun k=>u8 (f k))=litF 32 fun k=>u8 (g k):=by
  unfold litF
  rw [List.map_congr_left fun k hk=>by rw [sR_iff.1 h k (List.mem_range.1 hk)]]
theorem lst_fin (ho:OrdN B.length o) (hu:unseen o B.length=false) (h1:m=(lstO s n F B o).1) (h2:f=(lstO s n F B o).2):f=(lstB s n F B).2∧(litF 32 fun k=>u8 (m k))=litF 32 fun k=>u8 ((lstB s n F B).1 k):=by
  obtain⟨a,b⟩:=lst_ord (s:=s) (n:=n) (F:=F) (B:=B) (o:=o) ⟨ho,hu⟩
  rw [h1,h2]; exact⟨a,lit_sR b⟩
end
end Go.Eng
end
section
namespace Go.Proofs.YtmdpendnbkajdaaDoor
open Go Go.Eng
theorem look_no {D:List Nat} {l:List (UInt64 × CV)} {k:UInt64} (h:findV eqW k D l=none):(Value.tuple #[clV ((findV eqW k D l).getD none),.bool (findV eqW k D l).isSome]) = .tuple #[.agg #[.pointer none,.map none],.bool false]:=by rw [h]; rfl
theorem look_no1 {D:List Nat} {l:List (UInt64 × CV)} {k:UInt64} (h:findV eqW k D l=none):clV ((findV eqW k D l).getD none) = .agg #[.pointer none,.map none]:=by rw [h]; rfl
theorem look_yes {D:List Nat} {l:List (UInt64 × CV)} {k:UInt64} {t b:Nat} (h:findV eqW k D l=some (some (t,b))):(Value.tuple #[clV ((findV eqW k D l).getD none),.bool (findV eqW k D l).isSome]) = .tuple #[.agg #[ptr t 0,.map (some b)],.bool true]:=by rw [h]; rfl
theorem look_yes1 {D:List Nat} {l:List (UInt64 × CV)} {k:UInt64} {t b:Nat} (h:findV eqW k D l=some (some (t,b))):clV ((findV eqW k D l).getD none) = .agg #[ptr t 0,.map (some b)]:=by rw [h]; rfl
theorem mT56:MapT Tryd.prog 56 61 23 rowV slqV (bytZ none 0) sR:=row_keys (by kernel_rfl) (by kernel_rfl:Tryd.prog.underlying 61=some (.array 32 5)) (by kernel_rfl) (by kernel_rfl) fun w=>pureRun_run (show pureRun Tryd.prog (zeroValue 23)=some (slqV (bytZ none 0)) by kernel_rfl) w
theorem mT49:MapN Tryd.prog 49 30 58 u64 clV none eqW:=u64_keys (by kernel_rfl) (by kernel_rfl) fun w=>pureRun_run (show pureRun Tryd.prog (zeroValue 58)=some (clV none) by kernel_rfl) w
theorem cmpE:∀ args w,(callFunc 41 args).run Tryd.prog w=(do pure (Next.value (← Extern.BytealgCompare.compare args)):Sem Next).run Tryd.prog w:=fun args w=>by kernel_rfl
theorem cmp_runs (a b:Nat) (f g:Nat→UInt8):Runs Tryd.prog 23 [(Value.slice (some ⟨a,0,none⟩) 32 32),(Value.slice (some ⟨b,0,none⟩) 32 32)] [⟨a,false,0,(litF 32 (fun k=>u8 (f k)))⟩,⟨b,false,0,(litF 32 (fun k=>u8 (g k)))⟩] 0 (fun _=>int (cmpR f g)) (fun _=>[some ⟨a,false,0,(litF 32 (fun k=>u8 (f k)))⟩,some ⟨b,false,0,(litF 32 (fun k=>u8 (g k)))⟩]) :=
  runs_of_ev mix Tryd.func23 rfl rfl 400 (.reg (rg [.g]) (.reg (rg [.g,.g,(.oth [(0,true),(1,true)] 0 0 (fun _=>(int (cmpR f g))) (fun _=>[none,none])),.g]) .done)) [] [] rfl
    (Eq.mp (by kernel_rfl) (aI kV1 (aI (sK2 (aI (aT (srun_cmp (P:=Tryd.prog) (fid:=41) cmpE a b 32 32 32 f g (litF 32 (fun k=>u8 (f k))) (litF 32 (fun k=>u8 (g k))) (fun i hi=>litF_in hi) (fun i hi=>litF_in hi))) kV1)) (aT (eX (fun(ns:List Nat)=>ns.length=0∧((int (cmpR f g)):Value)=(fun _=>int (cmpR f g)) ns∧([some ⟨a,false,0,(litF 32 (fun k=>u8 (f k)))⟩,some ⟨b,false,0,(litF 32 (fun k=>u8 (g k)))⟩]:List (Option Blk))=(fun _=>[some ⟨a,false,0,(litF 32 (fun k=>u8 (f k)))⟩,some ⟨b,false,0,(litF 32 (fun k=>u8 (g k)))⟩]) ns) [] (aI (@rfl Nat 0) (aI (@rfl Value (int (cmpR f g))) (@rfl (List (Option Blk)) [some ⟨a,false,0,(litF 32 (fun k=>u8 (f k)))⟩,some ⟨b,false,0,(litF 32 (fun k=>u8 (g k)))⟩]))))))))
theorem clone_gen (q:BytL) (hq:OkB q) (hl:q.wn≤140737488355328):RunsO (famB q) Tryd.prog 21 [slqV q] [] 2 (fun ns=>gsV (clG q (ns.getD 0 0) (ns.getD 1 0))) (fun ns=>[grO u8 (u8 0) (clG q (ns.getD 0 0) (ns.getD 1 0))]):=by
  rcases Nat.eq_zero_or_pos q.wn with h0 | h0
  · cases ha:q.wa with
    | none =>
      have e:slqV q = .slice none 0 q.wc:=by unfold slqV; rw [ha,h0]
      rw [e]
      refine(clone_nilc q.wc).toF.toO.pad0 [0,0] rfl ?_ ?_
      · show gsV (clG q 0 0)=_
        unfold clG; rw [ha,h0] <;> rfl
      · intro p b hb
        rw [show grO u8 (u8 0) (clG q _ _)=none from by unfold clG; rw [ha] <;> rfl] at hb
        rcases p with _ | p <;> simp [lM] at hb
    | some A =>
      have e:slqV q = .slice (some A) 0 q.wc:=by unfold slqV; rw [ha,h0]
      rw [e]
      refine(clone_zero A q.wc).toF.toO.pad1 (fun a=>?_) (fun a=>?_)
      · show gsV (clG q a 0)=_
        unfold clG; rw [ha,h0] <;> rfl
      · show [grO u8 (u8 0) (clG q a 0)]=_
        unfold clG; rw [ha,h0]
        show [some (⟨a,true,0,spr (0+0) 0 (fun k=>u8 (q.wf k)) (u8 0)⟩:Blk)]=[some ⟨a,true,0,spr (0+0) 0 (fun k=>u8 ((fun _=>0) k)) (u8 0)⟩]
        rw [spr_as (fun k hk=>absurd hk (by omega))]
  · have ha:=hq.ad h0
    have e:slqV q = .slice (some ⟨q.wb,q.wo,none⟩) q.wn q.wc:=by unfold slqV; rw [ha]
    have h:=clone_runs0 q.wb q.wo q.wn q.wc q.wf h0 hl
    simp only [Nat.zero_add,catU_zero] at h
    rw [e]
    have h2:=(h.famN (F:=famB q) ⟨h0,rfl⟩).toO
    have e2:∀ a r,clG q a r=⟨false,a,q.wn,r,q.wf⟩:=fun a r=>by unfold clG; rw [ha] <;> rfl
    simp only [e2]
    exact h2
theorem clone_E (q:BytL) (hq:OkB q) (hl:q.wn≤140737488355328):RunsO (famB q) Tryd.prog 21 [slqV q] [] 2 (fun ns=>gsV (clG q (ns.getD 0 0) (ns.getD 1 0))) (fun ns=>[gsE u8C [u8 0] 1 (clG q (ns.getD 0 0) (ns.getD 1 0))]):=by
  have h:=clone_gen q hq hl
  simp only [← gsE_u8] at h
  exact h
end Go.Proofs.YtmdpendnbkajdaaDoor
end
section
namespace Go.Eng
open Go.RowKit Go.WideShapes Go.ChangeShapes Go.ChangeAt Go.Deep
structure ChOk (X:ChR):Prop where
  good:0 < X.n∧X.n≤40∧sumU X.s X.n < 2 ^ 63
  len:X.l.length≤20
  keys:(X.l.map Slot.key).Nodup
  vok:∀ x ∈ X.l,VOk X.n X.s x.F
  blen:∀ x ∈ X.l,x.B.length≤x.F.length
  kd:∀ x ∈ X.l,KD sR x.B
  row:∀ x ∈ X.l,∀ e ∈ x.B,∃ y ∈ X.R,e.2=rowB y
  rlen:∀ y ∈ X.R,y.n≤3000∧y.n≤y.c
def famR (R:List RwP) (z:Blk):Prop:=∃ y ∈ R,famB (rowB y) z
section
variable {X:ChR} {x:Slot}
theorem ChOk.look (h:ChOk X) (hx:x ∈ X.l) (v:Nat→UInt8):(findE sR v x.B).getD (bytZ none 0)=bytZ none 0∨∃ y ∈ X.R,(findE sR v x.B).getD (bytZ none 0)=rowB y:=by
  cases hf:findE sR v x.B with
  | none=>exact .inl rfl
  | some b =>
    obtain⟨e,he,_,rfl⟩:=find_mem eqv_row hf
    exact .inr (h.row x hx e he)
theorem ChOk.look_ok (h:ChOk X) (hx:x ∈ X.l) (v:Nat→UInt8):OkB ((findE sR v x.B).getD (bytZ none 0))∧((findE sR v x.B).getD (bytZ none 0)).wn≤3000∧∀ z,famB ((findE sR v x.B).getD (bytZ none 0)) z→famR X.R z:=by
  rcases h.look hx v with e | ⟨y,hy,e⟩
  · rw [e]; exact⟨okb_nil,Nat.zero_le _,fun z hz=>absurd hz.1 (Nat.lt_irrefl 0)⟩
  · rw [e]; exact⟨okb_own (h.rlen y hy).2 (Nat.le_trans (h.rlen y hy).1 (by decide)),(h.rlen y hy).1,fun z hz=>⟨y,hy,hz⟩⟩
theorem ChOk.b40 (h:ChOk X) (hx:x ∈ X.l):x.B.length≤40:=Nat.le_trans (h.blen x hx) (h.vok x hx).len
end
theorem famR_fam {R:List RwP} (hR:∀ y ∈ R,y.n≤y.c) {q:Nat} {ow:Bool} {w:World} (hb:∀ b,roO (some (lpB q ow (R.map rowP)))=some b→Holds b w):FamH (famR R) w:=fun z ⟨y,hy,hz⟩=>by
  obtain⟨j,hj⟩:=List.getElem?_of_mem hy
  have hp:(R.map rowP)[j]? = some (rowP y):=by rw [List.getElem?_map,hj]; rfl
  have h1:=lp_lent hp hb
  have h2:Holds ⟨y.nm,false,0,spr y.c y.n (fun k=>u8 (y.f k)) (u8 0)⟩ w:=h1
  have h3:=hR y hy
  obtain⟨r,hr⟩:∃ r,y.c=y.n+r:=⟨y.c - y.n,by omega⟩
  rw [hr] at h2
  exact holdb_own (holds_sprB h2) z hz
theorem famR_has {R:List RwP} {q:Nat} {ow:Bool} {z:Blk} (h:famR R z) {j:Nat} (hj:z.has j):(lpB q ow (R.map rowP)).has j:=by
  obtain⟨y,hy,h0,rfl⟩:=h
  obtain⟨i,hi⟩:=List.getElem?_of_mem hy
  have hp:(R.map rowP)[i]? = some (rowP y):=by rw [List.getElem?_map,hi]; rfl
  have:y.nm=j:=(has_not (b:=bytB (rowB y)) rfl).1 hj
  exact lpB_has.2 ⟨i,rowP y,hp,this⟩
theorem RunsO.lendR {F' : Blk → Prop} {P : Program} {f : FuncId} {args : List Value} {bs : List (Option Blk)} {k : Nat} {v : List Nat → Value} {o nw : List Nat → List (Option Blk)} {R : List RwP} (hR : ∀ y ∈ R, y.n ≤ y.c) {q : Nat} (h : RunsO (famR R) P f args bs k v (fun ns => o ns ++ nw ns)) (ho : ∀ ns, (o ns).length = bs.length) :
    RunsO F' P f args (bs ++ [roO (lpO q (R.map rowP))]) k v (fun ns=>o ns ++ (none :: nw ns)) :=
  RunsO.lendQ (F':=F') (cs:=[roO (lpO q (R.map rowP))]) h ho (fun w _ hb=>famR_fam hR (q:=q) (ow:=true) fun b hb0=>hb b (List.mem_singleton.2 hb0.symm)) fun z hz j hj=>.inr ⟨lpB q false (R.map rowP),List.mem_singleton.2 rfl,famR_has hz hj⟩
theorem tal_get (n:Nat) (s:Nat→UInt64) (x:Slot):∀ o v,(Cont.lit (talC n s x)).get o=some v ↔ (talP n s x).2.cont.get o=some v:=fun o v=>by
  show(talC n s x)[o]? = some v ↔ (if o < 4*1 then ([(talC n s x).getD (o / 1) (.bool false)]:List Value)[o % 1]? else none)=some v
  by_cases h:o < 4
  · rw [if_pos (by omega),Nat.div_one,Nat.mod_one]
    have hl:o < (talC n s x).length:=h
    rw [List.getElem?_eq_getElem hl]
    simp [List.getD_eq_getElem?_getD,List.getElem?_eq_getElem hl]
  · rw [if_neg (by omega)]
    have hl:(talC n s x).length≤o:=by show 4≤o; omega
    rw [List.getElem?_eq_none hl]
theorem tal_sub {ow:Bool} (n:Nat) (s:Nat→UInt64) (x:Slot) {l l':List (Option Blk)} (h:Sub l l'):Sub (some ⟨x.t,ow,0,.lit (talC n s x)⟩ :: l) (some (blkP ow (talP n s x)) :: l') :=
  .kp _ _ (Holds.retab (b:=blkP ow (talP n s x)) (c:=.lit (talC n s x)) rfl rfl fun o v ho=>(tal_get n s x o v).1 ho) h
theorem tal_bus {ow:Bool} (n:Nat) (s:Nat→UInt64) (x:Slot) {l l':List (Option Blk)} (h:Sub l l'):Sub (some (blkP ow (talP n s x)) :: l) (some ⟨x.t,ow,0,.lit (talC n s x)⟩ :: l') :=
  .kp _ _ (Holds.retab (b:=⟨x.t,ow,0,.lit (talC n s x)⟩) (c:=(talP n s x).2.cont) rfl rfl fun o v ho=>(tal_get n s x o v).2 ho) h
theorem newE_ne {n:Nat} {f:Nat→UInt64}:(newE n f != 0)=true:=by unfold newE; split <;> rfl
def chN (n:Nat) (f:Nat→UInt64) (p sp sr h:Nat):ChR:=⟨p,h,sp,sr,n,f,[],[],[]⟩
theorem chN_ok {n:Nat} {f:Nat→UInt64} (h0:0 < n) (hg:goodN n f) (p sp sr h:Nat):ChOk (chN n f p sp sr h) where
  good:=⟨h0,(goodN_sum.1 hg).1,(goodN_sum.1 hg).2⟩
  len:=Nat.zero_le _
  keys:=List.nodup_nil
  vok:=fun x hx=>by cases hx
  blen:=fun x hx=>by cases hx
  kd:=fun x hx=>by cases hx
  row:=fun x hx=>by cases hx
  rlen:=fun y hy=>by cases hy
end Go.Eng
namespace Go.Eng
theorem put_self {l:List (UInt64 × CV)} {k:UInt64} {v:CV}:findE eqW k l=some v→putE eqW k v l=l:=by
  induction l with
  | nil=>intro h; cases h
  | cons z l ih =>
    obtain⟨a,b⟩:=z
    intro h
    simp only [findE] at h
    simp only [putE]
    by_cases e:eqW k a=true
    · rw [if_pos e] at h ⊢
      injection h with h; rw [h,eqW_iff.1 e]
    · rw [if_neg e] at h ⊢
      rw [ih h]
theorem findV_nil {β:Type} (k:UInt64) (l:List (UInt64 × β)):findV eqW k [] l=findE eqW k l:=by
  have:∀ (l:List (UInt64 × β)) (i q:Nat),(findP eqW k [] l i q).map (fun p=>p.2.2)=findE eqW k l:=fun l=>by
    induction l with
    | nil=>intro i q; rfl
    | cons z l ih =>
      obtain⟨a,b⟩:=z
      intro i q
      simp only [findP,findE]
      rw [if_neg (by simp)]
      by_cases e:eqW k a=true
      · rw [if_pos e,if_pos e]; rfl
      · rw [if_neg e,if_neg e]; exact ih (i+1) (q+1)
  exact this l 0 0
theorem numP_nil (n:Nat):numP [] n=n:=by
  unfold numP
  have e:(List.range n).filter (fun i=>!([]:List Nat).contains i)=List.range n:=List.filter_eq_self.2 fun i _=>rfl
  rw [e,List.length_range]
theorem srun_updP {P : Program} {mt kt et : TypeId} (M : MapN P mt kt et u64 clV none eqW) (b : Nat) (l : List (UInt64 × CV)) (k : UInt64) (x : CV) {l' : List (UInt64 × CV)} (h : putE eqW k x l = l') :
    SRuns P (updSem mt (.map (some b)) (u64 k) (clV x)) [⟨b,true,0,mapP u64 clV [] l⟩] 0 (fun _=>undef) (fun _=>[some ⟨b,true,0,mapP u64 clV [] l'⟩]):=by
  subst h
  rw [mapP_nil,mapP_nil]
  exact srun_upd M.toMapT b l k x
theorem srun_lenN {P : Program} {mt kt et : TypeId} (hm : P.underlying mt = some (.map kt et)) (ty b : Nat) (own : Bool) (l : List (UInt64 × CV)) :
    SRuns P (lenSem mt ty (.map (some b))) [⟨b,own,0,mapP u64 clV [] l⟩] 0 (fun _=>nat l.length) (fun _=>[none]):=by
  have h:=srun_lenP (P:=P) (kv:=u64) (ev:=clV) hm ty b own [] l
  rw [numP_nil] at h; exact h
end Go.Eng
namespace Go.Eng
theorem bad_t {a:Int} {b k:UInt64} (h:a≠0∨b≠k):selB (a != 0) true (!(b == k))=true:=by
  rw [selB_or]
  rcases h with h | h
  · simp [h]
  · simp [h]
theorem bad_f {a:Int} {b k:UInt64} (h:¬ (a≠0∨b≠k)):selB (a != 0) true (!(b == k))=false:=by
  rw [selB_or]
  have h1:a=0:=Decidable.byContradiction fun z=>h (.inl z)
  have h2:b=k:=Decidable.byContradiction fun z=>h (.inr z)
  simp [h1,h2]
end Go.Eng
namespace Go.Eng
theorem ve_t {e:Int} (h:e≠0):(e != 0)=true:=by simpa using h
theorem ve_f {e:Int} (h:e=0):(e != 0)=false:=by simpa using h
end Go.Eng
namespace Go.Eng
theorem SRuns.beside {P:Program} {s:Sem Next} {a b:Blk} {k:Nat} {v:List Nat→Value} {o:List Nat→Option Blk} (h:SRuns P s [a] k v (fun ns=>[o ns])):SRuns P s [a,b] k v (fun ns=>[o ns,none]):=by
  intro w hall ha
  have h0:∀ p x,lM ([a].map some) p=some x→p=0∧x=a:=fun p x hx=>by
    rcases p with _ | p
    · injection hx with hx; exact⟨rfl,hx.symm⟩
    · simp [lM] at hx
  obtain⟨ns,w',h1,h2,h3⟩:=h w (fun x hx=>by rw [List.mem_singleton.1 hx]; exact hall _ (List.mem_cons_self ..)) (fun p q x y hpq hp hq=>by
    obtain⟨e1,_⟩:=h0 p x hp
    obtain⟨e2,_⟩:=h0 q y hq
    omega)
  have hown:∀ k,Owns (lM ([a].map some)) k→Owns (lM ([a,b].map some)) k:=fun k ⟨p,x,hp,ho,hk⟩=>by
    obtain⟨_,rfl⟩:=h0 p x hp
    exact⟨0,_,rfl,ho,hk⟩
  have hn:∀ p x,lM [o ns,none] p=some x→p=0∧lM [o ns] 0=some x:=fun p x hx=>by
    rcases p with _ | _ | p
    · exact⟨rfl,hx⟩
    · simp [lM] at hx
    · simp [lM] at hx
  refine⟨ns,w',h1,h2,fun p x hx=>h3.holds 0 x (hn p x hx).2,fun p q x y hpq hp hq=>?_,⟨h3.adv.os,h3.adv.output,h3.adv.tape,h3.adv.size,fun i hi hno=>h3.adv.heap i hi fun z=>hno (hown i z),fun i ⟨p,x,hp,ho,hk⟩=>?_,fun p x hp ho=>?_⟩⟩
  · have e1:=(hn p x hp).1
    have e2:=(hn q y hq).1
    omega
  · rcases h3.adv.names i ⟨0,x,(hn p x hp).2,ho,hk⟩ with h5 | h5
    · exact .inl (hown i h5)
    · exact .inr h5
  · obtain⟨e,h5⟩:=hn p x hp
    subst e
    have:=(h0 0 x (h3.adv.ro 0 x h5 ho)).2
    subst this; rfl
end Go.Eng
end
section
namespace Go.Proofs.YtmdpendnbkajdaaDoor
open Go Go.Eng
theorem cnew_z (ao:Option Addr) (c:Nat):Runs Tryd.prog 6 [(Value.slice ao 0 c)] [] 0 (fun _=>Value.tuple #[.pointer none,int 2]) (fun _=>[]) :=
  runs_of_ev mix Tryd.func6 rfl rfl 400 (.reg (rg [.g,.g]) (.reg (rg [.g,(.call [] 0 0 (fun _=>(Value.tuple #[(Value.pointer none),(int 2)])) (fun _=>[])),.g,.g,.g,.g,.g]) (.reg (rg [.g,.g]) (.yes (.reg (rg [.g,.g,.g]) .done))))) [] [] rfl
    (Eq.mp (by kernel_rfl) (aI kV2 (aI (sk (aI (aT (vnew_z ao c)) (sk kV4))) (aI kV2 (aT (aI (@rfl Bool true) (aI kV3 (aT (eX (fun(ns:List Nat)=>ns.length=0∧((Value.tuple #[(Value.pointer none),(int 2)]):Value)=(fun _=>Value.tuple #[.pointer none,int 2]) ns∧([]:List (Option Blk))=(fun _=>[]) ns) [] (aI (@rfl Nat 0) (aI (@rfl Value (Value.tuple #[.pointer none,int 2])) (@rfl (List (Option Blk)) []))))))))))))
theorem cnew_bad (p o n c:Nat) (f:Nat→UInt64) (hp:0 < n) (hn:n≤9223372036854775807) (hg:¬ goodN n f):Runs Tryd.prog 6 [(Value.slice (some ⟨p,o,none⟩) n c)] [⟨p,false,o,(tabF n (fun k=>u64 (f k)))⟩] 0 (fun _=>Value.tuple #[.pointer none,int (newE n f)]) (fun _=>[some ⟨p,false,o,(tabF n (fun k=>u64 (f k)))⟩]) :=
  runs_of_ev mix Tryd.func6 rfl rfl 400 (.reg (rg [.g,.g]) (.reg (rg [.g,(.call [(0,true)] 0 0 (fun _=>(Value.tuple #[(Value.pointer none),(int (newE n f))])) (fun _=>[none])),.g,.g,.g,.g,.g]) (.reg (rg [.g,.g]) (.yes (.reg (rg [.g,.g,.g]) .done))))) [] [] rfl
    (Eq.mp (by kernel_rfl) (aI kV2 (aI (sk (aI (aT (Runs.dark [true] (vnew_bad p o n c f (show 0 < n from by omega) (show n≤9223372036854775807 from by omega) hg))) (sk kV4))) (aI kV2 ((fun(hp1:(((newE n f):Int) != 0)=true)=>aT (aI hp1 (aI kV3 (aT (eX (fun(ns:List Nat)=>ns.length=0∧((Value.tuple #[(Value.pointer none),(int (newE n f))]):Value)=(fun _=>Value.tuple #[.pointer none,int (newE n f)]) ns∧([some ⟨p,false,o,(tabF n (fun k=>u64 (f k)))⟩]:List (Option Blk))=(fun _=>[some ⟨p,false,o,(tabF n (fun k=>u64 (f k)))⟩]) ns) [] (aI (@rfl Nat 0) (aI (@rfl Value (Value.tuple #[.pointer none,int (newE n f)])) (@rfl (List (Option Blk)) [some ⟨p,false,o,(tabF n (fun k=>u64 (f k)))⟩])))))))) (show(((newE n f):Int) != 0)=true from by exact newE_ne))))))
theorem cnew_raw (p o n c:Nat) (f:Nat→UInt64) (hp:0 < n) (hg:goodN n f):Runs Tryd.prog 6 [(Value.slice (some ⟨p,o,none⟩) n c)] [⟨p,false,o,(tabF n (fun k=>u64 (f k)))⟩] 4 (fun(ns:List Nat)=>(Value.tuple #[(ptr (ns.getD 0 0) 0),(int 0)])) (fun(ns:List Nat)=>[some ⟨p,false,o,(tabF n (fun k=>u64 (f k)))⟩,some ⟨(ns.getD 0 0),true,0,(.lit [(Value.slice (some ⟨(ns.getD 1 0),0,none⟩) n (n+(ns.getD 2 0))),(Value.map (some (ns.getD 3 0)))])⟩,some ⟨(ns.getD 1 0),true,0,(tabF n (fun k=>u64 (f k)))⟩,some ⟨(ns.getD 3 0),true,0,(mapP u64 clV [] ([]))⟩]) :=
  runs_of_ev mix Tryd.func6 rfl rfl 400 (.reg (rg [.g,.g]) (.regn (rg [.g,(.callO [(0,true)] 5 4 (fun ns=>Value.tuple #[ptr (ns.getD 0 0) 0,int 0]) (fun ns=>[none,some ⟨(ns.getD 0 0),true,0,(.lit [(Value.slice (some ⟨(ns.getD 1 0),0,none⟩) n (n+(ns.getD 2 0))),(u64 ((totN f n).a)),(Value.map (some (ns.getD 3 0))),(Value.map (some (ns.getD 4 0)))])⟩,some ⟨(ns.getD 1 0),true,0,(tabF n (fun k=>u64 (f k)))⟩,some ⟨(ns.getD 3 0),true,0,(firC ([]))⟩,some ⟨(ns.getD 4 0),true,0,(agaC ([]))⟩])),.g,.g,.g,.g,.g]) (more (fun n1=>more (fun n2=>more (fun n3=>more (fun n4=>more (fun n5=>fun _=>(.reg (rg [.g,.g]) (.no (.regn (rg [.g,(.call [(0,true)] 2 1 (fun ns=>Value.slice (some ⟨(ns.getD 0 0),0,none⟩) n (n+(ns.getD 1 0))) (fun ns=>[none,some ⟨(ns.getD 0 0),true,0,(tabF n (fun k=>u64 (f k)))⟩])),(.oth [] 1 1 (fun ns=>Value.map (some (ns.getD 0 0))) (fun ns=>[some ⟨ns.getD 0 0,true,0,mapP u64 clV [] []⟩])),.g,.new,.g,.g]) (more (fun n6=>more (fun n7=>more (fun n8=>more (fun n9=>fun _=>.done)))))))))))))))) [] [7,5,6] rfl
    (have f1:=hg.1; Eq.mp (by kernel_rfl) (aI kV2 (fun(n1 n2 n3 n4 n5:Nat)=>aI (sk (aI (aT (RunsO.darkV (F:=(fun _=>False)) [true] (vnew_good p o n c f (show 0 < n from by omega) hg).toO)) (sk kV4))) (aI kV2 (aT (aI (@rfl Bool false) (fun(n6 n7 n8 n9:Nat)=>aI (sk (aI (aT (Runs.dark [true] (uclone_runs p o n c f (show 0 < n∧n≤40 from by omega)))) (aI (aT (srun_mkm (P:=Tryd.prog) (kv:=u64) (ev:=clV) 49)) kV4))) (aT (eX (fun(ns:List Nat)=>ns.length=4∧((Value.tuple #[(ptr n9 0),(int 0)]):Value)=(fun(ns:List Nat)=>(Value.tuple #[(ptr (ns.getD 0 0) 0),(int 0)])) ns∧([some ⟨p,false,o,(tabF n (fun k=>u64 (f k)))⟩,some ⟨n9,true,0,(.lit [(Value.slice (some ⟨n6,0,none⟩) n (n+n7)),(Value.map (some n8))])⟩,some ⟨n6,true,0,(tabF n (fun k=>u64 (f k)))⟩,some ⟨n8,true,0,(mapP u64 clV [] ([]))⟩]:List (Option Blk))=(fun(ns:List Nat)=>[some ⟨p,false,o,(tabF n (fun k=>u64 (f k)))⟩,some ⟨(ns.getD 0 0),true,0,(.lit [(Value.slice (some ⟨(ns.getD 1 0),0,none⟩) n (n+(ns.getD 2 0))),(Value.map (some (ns.getD 3 0)))])⟩,some ⟨(ns.getD 1 0),true,0,(tabF n (fun k=>u64 (f k)))⟩,some ⟨(ns.getD 3 0),true,0,(mapP u64 clV [] ([]))⟩]) ns) [n9,n6,n7,n8] (aI (@rfl Nat 4) (aI (@rfl Value (Value.tuple #[(ptr n9 0),(int 0)])) (@rfl (List (Option Blk)) [some ⟨p,false,o,(tabF n (fun k=>u64 (f k)))⟩,some ⟨n9,true,0,(.lit [(Value.slice (some ⟨n6,0,none⟩) n (n+n7)),(Value.map (some n8))])⟩,some ⟨n6,true,0,(tabF n (fun k=>u64 (f k)))⟩,some ⟨n8,true,0,(mapP u64 clV [] ([]))⟩]))))))))))))
theorem cnew_X {F:Blk→Prop} (p o n c:Nat) (f:Nat→UInt64) (hp:0 < n) (hg:goodN n f):RunsO F Tryd.prog 6 [.slice (some ⟨p,o,none⟩) n c] [some ⟨p,false,o,tabF n fun k=>u64 (f k)⟩] 4 (fun ns=>.tuple #[ptr (ns.getD 0 0) 0,int 0]) (fun ns=>none :: chO (chN n f (ns.getD 0 0) (ns.getD 1 0) (ns.getD 2 0) (ns.getD 3 0))):=by
  have h0:=RunsO.darkO [true] (cnew_raw p o n c f hp hg).toO (F:=F)
  have h1:=RunsO.pile0 (q:=fun ns=>ns.getD 0 0) h0 fun ns=>⟨1,_,rfl,rfl⟩
  have h2:=RunsO.pile0 (q:=fun ns=>ns.getD 0 0) h1 fun ns=>⟨1,_,rfl,rfl⟩
  have h3:=RunsO.pile0 (q:=fun ns=>ns.getD 0 0) h2 fun ns=>⟨1,_,rfl,rfl⟩
  have h4:=RunsO.pile0 (q:=fun ns=>ns.getD 0 0) h3 fun ns=>⟨1,_,rfl,rfl⟩
  have h5:=RunsO.pile0 (q:=fun ns=>ns.getD 0 0) h4 fun ns=>⟨1,_,rfl,rfl⟩
  exact RunsO.pile0 (q:=fun ns=>ns.getD 0 0) h5 fun ns=>⟨1,_,rfl,rfl⟩
end Go.Proofs.YtmdpendnbkajdaaDoor
end
section
namespace Go.Proofs.YtmdpendnbkajdaaDoor
open Go Go.Eng
theorem bel_0 (p h:Nat) (v0:Value) (D:List Nat) (l:List (UInt64 × CV)) (k:UInt64) (hs:findV eqW k D l=none):Runs Tryd.prog 10 [(ptr p 0),(u64 k)] [⟨p,false,0,(.lit [v0,(Value.map (some h))])⟩,⟨h,false,0,(mapP u64 clV D l)⟩] 0 (fun _=>Value.tuple #[.slice none 0 0,.bool false]) (fun _=>[some ⟨p,false,0,(.lit [v0,(Value.map (some h))])⟩,some ⟨h,false,0,(mapP u64 clV D l)⟩]) :=
  runs_of_ev mix Tryd.func10 rfl rfl 400 (.reg (rg [.g,.g]) (.regn (rg [.g,.g,.g,(.ld 0 (.lit 1)),.g,(.oth [(1,true)] 0 0 (fun _=>(Value.agg #[(Value.pointer none),(Value.map none)])) (fun _=>[none])),.new,(.st 2 (.lit 0))]) (more (fun n1=>fun _=>(.regn (rg [.new]) (more (fun n2=>fun _=>(.reg (rg [.g]) (.regn (rg [.g,(.ld 2 (.lit 1)),(.oth [] 1 1 (fun ns=>ptr (ns.getD 0 0) 0) (fun ns=>[some ⟨ns.getD 0 0,true,0,itNo ()⟩]))]) (more (fun n3=>fun _=>(.unroll (.reg (rg [(.oth [(4,true)] 0 0 (fun _=>Value.tuple #[.bool false]) (fun _=>[none])),.g]) (.no (.reg (rg [.g,(.ld 2 (.lit 1)),(.ld 3 (.lit 0)),(.oth [] 0 0 (fun _=>(Value.slice none 0 0)) (fun _=>[])),(.call [] 0 0 (fun _=>(Value.slice none 0 0)) (fun _=>[])),.g,.g,.g]) .done))))))))))))))) [] [] rfl
    (Eq.mp (by kernel_rfl) (aI kV2 (fun(n1:Nat)=>aI (sK3 (aI (aT (ad p 1)) (sk (aI (aT (SRuns.valE (srun_look1P (P:=Tryd.prog) mT49 h false D l k) (look_no1 hs))) (sk (aI (aT (ad n1 0)) tV)))))) (fun(n2:Nat)=>aI kV1 (aI kV1 (fun(n3:Nat)=>aI (sk (aI (aT (ad n1 1)) (aI (aT (srun_rngN (P:=Tryd.prog) (mt:=56) mT56.hm)) tV))) (aI (aI (aT (srun_nxtN (P:=Tryd.prog) 0 n3 false)) kV1) (aT (aI (@rfl Bool false) (aI (sk (aI (aT (ad n1 1)) (aI (aT (ad n2 0)) (aI (aT (srun_look1N (P:=Tryd.prog) mT56 (fun _=>0))) (aI (aT (clone_nilc 0)) kV3))))) (aT (eX (fun(ns:List Nat)=>ns.length=0∧((Value.tuple #[(Value.slice none 0 0),(Value.bool false)]):Value)=(fun _=>Value.tuple #[.slice none 0 0,.bool false]) ns∧([some ⟨p,false,0,(.lit [v0,(Value.map (some h))])⟩,some ⟨h,false,0,(mapP u64 clV D l)⟩]:List (Option Blk))=(fun _=>[some ⟨p,false,0,(.lit [v0,(Value.map (some h))])⟩,some ⟨h,false,0,(mapP u64 clV D l)⟩]) ns) [] (aI (@rfl Nat 0) (aI (@rfl Value (Value.tuple #[.slice none 0 0,.bool false])) (@rfl (List (Option Blk)) [some ⟨p,false,0,(.lit [v0,(Value.map (some h))])⟩,some ⟨h,false,0,(mapP u64 clV D l)⟩])))))))))))))))
def bel_1_S1 (F0:Blk→Prop) (p:Nat) (h:Nat) (v0:Value) (D:List Nat) (l:List (UInt64 × CV)) (k:UInt64) (t:Nat) (sp:Nat) (sc:Nat) (fm:Nat) (am:Nat) (bm:Nat) (n:Nat) (s:Nat→UInt64) (F:Fst) (B:Bks) (n1:Nat) (n2:Nat) (n3:Nat) (x1:(List Nat) × (Nat→UInt8) × Bool):St:=⟨[(6,.v (ptr n1 0)),(7,.v (ptr n2 0)),(8,.v (Value.bool x1.2.2)),(18,.v (ptr n3 0))],[(0,some ⟨p,false,0,(.lit [v0,(Value.map (some h))])⟩),(1,some ⟨h,false,0,(mapP u64 clV D l)⟩),(2,some ⟨t,false,0,(.lit [(Value.slice (some ⟨sp,0,none⟩) n sc),(u64 ((totN s n).a)),(Value.map (some fm)),(Value.map (some am))])⟩),(3,some ⟨sp,false,0,(tabF n (fun k=>u64 (s k)))⟩),(4,some ⟨fm,false,0,(firC F)⟩),(5,some ⟨bm,false,0,(bkC B)⟩),(6,some ⟨n1,true,0,(.lit [(ptr t 0),(Value.map (some bm))])⟩),(7,some ⟨n2,true,0,(litF 32 (fun k=>u8 (x1.2.1 k)))⟩),(8,some ⟨n3,true,0,(itC bm B.length x1.1)⟩)],9⟩
def bel_1_R1 (F0:Blk→Prop) (p:Nat) (h:Nat) (v0:Value) (D:List Nat) (l:List (UInt64 × CV)) (k:UInt64) (t:Nat) (sp:Nat) (sc:Nat) (fm:Nat) (am:Nat) (bm:Nat) (n:Nat) (s:Nat→UInt64) (F:Fst) (B:Bks) (n1:Nat) (n2:Nat) (n3:Nat) (x1:(List Nat) × (Nat→UInt8) × Bool):Prop:=(OrdN B.length x1.1)∧(x1.2.1=(lstO s n F B x1.1).1)∧(x1.2.2=(lstO s n F B x1.1).2)
def bel_1_mu1 (F0:Blk→Prop) (p:Nat) (h:Nat) (v0:Value) (D:List Nat) (l:List (UInt64 × CV)) (k:UInt64) (t:Nat) (sp:Nat) (sc:Nat) (fm:Nat) (am:Nat) (bm:Nat) (n:Nat) (s:Nat→UInt64) (F:Fst) (B:Bks) (n1:Nat) (n2:Nat) (n3:Nat) (x1:(List Nat) × (Nat→UInt8) × Bool):Nat:=leftN x1.1 B.length
theorem bel_1 (F0:Blk→Prop) (p h:Nat) (v0:Value) (D:List Nat) (l:List (UInt64 × CV)) (k:UInt64) (t sp sc fm am bm n:Nat) (s:Nat→UInt64) (F:Fst) (B:Bks) (hs:findV eqW k D l=some (some (t,bm))) (hV:VOk n s F) (hB:B.length≤40) (hok:∀ v,OkB ((findE sR v B).getD (bytZ none 0))) (hle:∀ v,((findE sR v B).getD (bytZ none 0)).wn≤140737488355328) (hF:∀ v z,famB ((findE sR v B).getD (bytZ none 0)) z→F0 z):RunsO F0 Tryd.prog 10 [(ptr p 0),(u64 k)] [some ⟨p,false,0,(.lit [v0,(Value.map (some h))])⟩,some ⟨h,false,0,(mapP u64 clV D l)⟩,some ⟨t,false,0,(.lit [(Value.slice (some ⟨sp,0,none⟩) n sc),(u64 ((totN s n).a)),(Value.map (some fm)),(Value.map (some am))])⟩,some ⟨sp,false,0,(tabF n (fun k=>u64 (s k)))⟩,some ⟨fm,false,0,(firC F)⟩,some ⟨bm,false,0,(bkC B)⟩] 2 (fun(ns:List Nat)=>(Value.tuple #[(gsV (clG ((findE sR ((lstB s n F B).1) B).getD (bytZ none 0)) (ns.getD 0 0) (ns.getD 1 0))),(Value.bool ((lstB s n F B).2))])) (fun(ns:List Nat)=>[some ⟨p,false,0,(.lit [v0,(Value.map (some h))])⟩,some ⟨h,false,0,(mapP u64 clV D l)⟩,some ⟨t,false,0,(.lit [(Value.slice (some ⟨sp,0,none⟩) n sc),(u64 ((totN s n).a)),(Value.map (some fm)),(Value.map (some am))])⟩,some ⟨sp,false,0,(tabF n (fun k=>u64 (s k)))⟩,some ⟨fm,false,0,(firC F)⟩,some ⟨bm,false,0,(bkC B)⟩,(gsE u8C [u8 0] 1 (clG ((findE sR ((lstB s n F B).1) B).getD (bytZ none 0)) (ns.getD 0 0) (ns.getD 1 0)))]) :=
  runsO_of_ev mix Tryd.func10 rfl rfl 400 (.reg (rg [.g,.g]) (.regn (rg [.g,.g,.g,(.ld 0 (.lit 1)),.g,(.oth [(1,true)] 0 0 (fun _=>(Value.agg #[(ptr t 0),(Value.map (some bm))])) (fun _=>[none])),.new,(.st 6 (.lit 0))]) (more (fun n1=>fun _=>(.regn (rg [.new]) (more (fun n2=>fun _=>(.reg (rg [.g]) (.regn (rg [.g,(.ld 6 (.lit 1)),(.othB [(5,true)] 1 1 (fun ns=>ptr (ns.getD 0 0) 0) (fun bs ns=>[none,some ⟨(ns.getD 0 0),true,0,itB bs⟩]))]) (more (fun n3=>fun _=>(.inv [6,7,8,18] [0,1,2,3,4,5,6,7,8] 9 (bel_1_R1 F0 p h v0 D l k t sp sc fm am bm n s F B n1 n2 n3) (bel_1_S1 F0 p h v0 D l k t sp sc fm am bm n s F B n1 n2 n3) (bel_1_mu1 F0 p h v0 D l k t sp sc fm am bm n s F B n1 n2 n3) ((([]),(fun _=>0),false):(List Nat) × (Nat→UInt8) × Bool) (fun(x1:(List Nat) × (Nat→UInt8) × Bool)=>(.both (unseen x1.1 B.length) (.regn (rg [(.oth [(8,false),(5,true)] 1 0 (fun ns=>(Value.tuple #[(Value.bool true),(vecV 32 (fun k=>u8 ((kvAt rB0 B (pk x1.1 B.length (ns.getD 0 0))).1 k))),(Value.slice (((kvAt rB0 B (pk x1.1 B.length (ns.getD 0 0))).2).wa) (((kvAt rB0 B (pk x1.1 B.length (ns.getD 0 0))).2).wn) (((kvAt rB0 B (pk x1.1 B.length (ns.getD 0 0))).2).wc))])) (fun ns=>[some ⟨n3,true,0,(itC bm B.length (x1.1 ++ [pk x1.1 B.length (ns.getD 0 0)]))⟩,none])),.g]) (more (fun n4=>fun _=>(.yes (.regn (rg [(.oth [(8,true),(5,true)] 0 0 (fun _=>(Value.tuple #[(vecV 32 (fun k=>u8 ((kvAt rB0 B (pk x1.1 B.length n4)).1 k))),(Value.slice (((kvAt rB0 B (pk x1.1 B.length n4)).2).wa) (((kvAt rB0 B (pk x1.1 B.length n4)).2).wn) (((kvAt rB0 B (pk x1.1 B.length n4)).2).wc))])) (fun _=>[none,none])),.g,.new,(.st 9 (.lit 0))]) (more (fun n5=>fun _=>(.reg (rg [.g,(.ld 6 (.lit 0)),(.ld 9 (.lit 0)),(.call [(2,true),(3,true),(4,true)] 0 0 (fun _=>(Value.bool (moreU (forV s F ((kvAt rB0 B (pk x1.1 B.length n4)).1)) (totN s n).a))) (fun _=>[none,none,none])),.g,(.opt .g),(.opt .g),(.opt .g),(.opt .g),(.opt .g),(.opt (.call [(9,true),(7,true)] 0 0 (fun _=>(int (cmpR ((kvAt rB0 B (pk x1.1 B.length n4)).1) x1.2.1))) (fun _=>[none,none]))),(.opt .g),(.opt .pk),.pk]) (.br (.reg (rg [(.ld 9 (.lit 0)),(.st 7 (.lit 0)),.g]) .done) .done))))))))) (.reg (rg [(.oth [(8,true),(5,true)] 0 0 (fun _=>Value.tuple #[.bool false]) (fun _=>[none,none])),.g]) (.no (.keep [6,7,8] [0,1,2,3,4,5,6,7,8] 9 (.told ⟨[(6,.v (ptr n1 0)),(7,.v (ptr n2 0)),(8,.v (Value.bool ((lstB s n F B).2)))],[(0,some ⟨p,false,0,(.lit [v0,(Value.map (some h))])⟩),(1,some ⟨h,false,0,(mapP u64 clV D l)⟩),(2,some ⟨t,false,0,(.lit [(Value.slice (some ⟨sp,0,none⟩) n sc),(u64 ((totN s n).a)),(Value.map (some fm)),(Value.map (some am))])⟩),(3,some ⟨sp,false,0,(tabF n (fun k=>u64 (s k)))⟩),(4,some ⟨fm,false,0,(firC F)⟩),(5,some ⟨bm,false,0,(bkC B)⟩),(6,some ⟨n1,true,0,(.lit [(ptr t 0),(Value.map (some bm))])⟩),(7,some ⟨n2,true,0,(litF 32 (fun k=>u8 ((lstB s n F B).1 k)))⟩),(8,some ⟨n3,true,0,(itC bm B.length x1.1)⟩)],9⟩ (.regn (rg [.g,(.ld 6 (.lit 1)),(.ld 7 (.lit 0)),(.oth [(5,true)] 0 0 (fun _=>(Value.slice (((findE sR ((lstB s n F B).1) B).getD (bytZ none 0)).wa) (((findE sR ((lstB s n F B).1) B).getD (bytZ none 0)).wn) (((findE sR ((lstB s n F B).1) B).getD (bytZ none 0)).wc))) (fun _=>[none])),(.callO [] 2 1 (fun ns=>gsV (clG ((findE sR ((lstB s n F B).1) B).getD (bytZ none 0)) (ns.getD 0 0) (ns.getD 1 0))) (fun ns=>[(gsE u8C [u8 0] 1 (clG ((findE sR ((lstB s n F B).1) B).getD (bytZ none 0)) (ns.getD 0 0) (ns.getD 1 0)))])),.g,.g,.g]) (more (fun n6=>more (fun n7=>fun _=>.done)))))))))))))))))))))) [] [9] rfl
    (Eq.mp (by kernel_rfl) (aI kV2 (fun(n1:Nat)=>aI (sK3 (aI (aT (ad p 1)) (sk (aI (aT (SRuns.valE (srun_look1P (P:=Tryd.prog) mT49 h false D l k) (look_yes1 hs))) (sk (aI (aT (ad n1 0)) tV)))))) (fun(n2:Nat)=>aI kV1 (aI kV1 (fun(n3:Nat)=>aI (sk (aI (aT (ad n1 1)) (aI (aT (SRuns.dark [true] (srun_rng (P:=Tryd.prog) (mt:=56) (kv:=rowV) (ev:=slqV) mT56.hm bm false B))) tV))) (aI (show(bel_1_R1 F0 p h v0 D l k t sp sc fm am bm n s F B n1 n2 n3) ((([]),(fun _=>0),false):(List Nat) × (Nat→UInt8) × Bool) from(show(OrdN B.length ([]))∧((fun _=>0)=(lstO s n F B ([])).1)∧(false=(lstO s n F B ([])).2) from by exact⟨OrdN.nil _,rfl,rfl⟩)) (aI (@rfl St ((bel_1_S1 F0 p h v0 D l k t sp sc fm am bm n s F B n1 n2 n3) ((([]),(fun _=>0),false):(List Nat) × (Nat→UInt8) × Bool))) (fun(x1:(List Nat) × (Nat→UInt8) × Bool) (hx1:(bel_1_R1 F0 p h v0 D l k t sp sc fm am bm n s F B n1 n2 n3) x1)=>have B0:OrdN B.length x1.1:=hx1.1; have B1:x1.2.1=(lstO s n F B x1.1).1:=hx1.2.1; have B2:x1.2.2=(lstO s n F B x1.1).2:=hx1.2.2; aI (fun(h1:(unseen x1.1 B.length)=true)=>fun(n4:Nat)=>aI (aI (aT (SRuns.dark [false,true] (srun_nxt (P:=Tryd.prog) (kv:=rowV) (ev:=slqV) 0 n3 bm false B x1.1 rB0 h1))) kV1) (aT (aI (@rfl Bool true) (fun(n5:Nat)=>aI (aI (aT (srun_ent (P:=Tryd.prog) (kv:=rowV) (ev:=slqV) n3 bm false false B x1.1 (pk x1.1 B.length n4) rB0 (show pk x1.1 B.length n4 < B.length from by have f4:(pk x1.1 B.length n4) < B.length:=((pk_ok h1 n4)).1; omega))) (sK2 (aI (aT (ad n5 0)) tV))) (aI (sk (aI (aT (ad n1 0)) (aI (aT (ad n5 0)) (aI (aT (Runs.dark [true,true,true] (third_runs t sp sc fm am n s F ((kvAt rB0 B (pk x1.1 B.length n4)).1) hV))) (sk (aI (fun(hg:(sB (moreU (forV s F ((kvAt rB0 B (pk x1.1 B.length n4)).1)) (totN s n).a) true)=true)=>t2) (aI (fun(hg:(sB (moreU (forV s F ((kvAt rB0 B (pk x1.1 B.length n4)).1)) (totN s n).a) true)=true)=>(aI (aI hg tV) tV)) (aI (fun(hg:(sB (moreU (forV s F ((kvAt rB0 B (pk x1.1 B.length n4)).1)) (totN s n).a) true)=true)=>(aI (aI hg tV) tV)) (aI (fun(hg:(selB (sB (moreU (forV s F ((kvAt rB0 B (pk x1.1 B.length n4)).1)) (totN s n).a) true) (sB (!x1.2.2) false) false)=true)=>t2) (aI (fun(hg:(selB (sB (moreU (forV s F ((kvAt rB0 B (pk x1.1 B.length n4)).1)) (totN s n).a) true) (sB (!x1.2.2) false) false)=true)=>t2) (aI (fun(hg:(selB (sB (moreU (forV s F ((kvAt rB0 B (pk x1.1 B.length n4)).1)) (totN s n).a) true) (sB (!x1.2.2) false) false)=true)=>(aI (aI hg (aI hg tV)) (Runs.dark [true,true] (cmp_runs n5 n2 ((kvAt rB0 B (pk x1.1 B.length n4)).1) x1.2.1)))) (aI (fun(hg:(selB (sB (moreU (forV s F ((kvAt rB0 B (pk x1.1 B.length n4)).1)) (totN s n).a) true) (sB (!x1.2.2) false) false)=true)=>(aI (aI hg tV) tV)) (aI (fun(hg:(sB (moreU (forV s F ((kvAt rB0 B (pk x1.1 B.length n4)).1)) (totN s n).a) true)=true)=>(aI hg (aI (fun(_:(!x1.2.2)=true)=>tV) (fun(hp:(!x1.2.2)=false)=>(pickm hg (sameB_mkf hp)))))) (aI (aT (aI (fun(hp:(moreU (forV s F ((kvAt rB0 B (pk x1.1 B.length n4)).1)) (totN s n).a)=true)=>(sameB_mk hp)) (fun(_:(moreU (forV s F ((kvAt rB0 B (pk x1.1 B.length n4)).1)) (totN s n).a)=false)=>tV))) tV)))))))))))))) (aT (aI (fun(h2:(selB (moreU (forV s F ((kvAt rB0 B (pk x1.1 B.length n4)).1)) (totN s n).a) (selB (!x1.2.2) true (decide (((cmpR ((kvAt rB0 B (pk x1.1 B.length n4)).1) x1.2.1):Int) < 0))) false)=true)=>have f5:(moreU (forV s F ((kvAt rB0 B (pk x1.1 B.length n4)).1)) (totN s n).a)=true:=(sband_l h2); have f6:((x1.2.2)=false)∨((((cmpR ((kvAt rB0 B (pk x1.1 B.length n4)).1) x1.2.1):Int) < 0)):=(Or.imp (fun h=>(bnot_t h)) (fun h=>(oT h)) (sbor_t (sband_r h2))); aI (aI (aT (ad n5 0)) (aI (aT (ad n2 0)) kV1)) ((rnd (bel_1_R1 F0 p h v0 D l k t sp sc fm am bm n s F B n1 n2 n3) (bel_1_S1 F0 p h v0 D l k t sp sc fm am bm n s F B n1 n2 n3) (bel_1_mu1 F0 p h v0 D l k t sp sc fm am bm n s F B n1 n2 n3) x1 (((x1.1 ++ [pk x1.1 B.length n4]),(kvAt rB0 B (pk x1.1 B.length n4)).1,true):(List Nat) × (Nat→UInt8) × Bool) (show(bel_1_R1 F0 p h v0 D l k t sp sc fm am bm n s F B n1 n2 n3) (((x1.1 ++ [pk x1.1 B.length n4]),(kvAt rB0 B (pk x1.1 B.length n4)).1,true):(List Nat) × (Nat→UInt8) × Bool)∧(bel_1_mu1 F0 p h v0 D l k t sp sc fm am bm n s F B n1 n2 n3) (((x1.1 ++ [pk x1.1 B.length n4]),(kvAt rB0 B (pk x1.1 B.length n4)).1,true):(List Nat) × (Nat→UInt8) × Bool) < (bel_1_mu1 F0 p h v0 D l k t sp sc fm am bm n s F B n1 n2 n3) x1 from(show((OrdN B.length (x1.1 ++ [pk x1.1 B.length n4]))∧(((kvAt rB0 B (pk x1.1 B.length n4)).1)=(lstO s n F B (x1.1 ++ [pk x1.1 B.length n4])).1)∧(true=(lstO s n F B (x1.1 ++ [pk x1.1 B.length n4])).2))∧(leftN (x1.1 ++ [pk x1.1 B.length n4]) B.length) < (leftN x1.1 B.length) from by have f4:(pk x1.1 B.length n4) < B.length:=((pk_ok h1 n4)).1; exact⟨⟨B0.snoc h1 _,(lst_yesS B1 B2 h2).1,(lst_yesS B1 B2 h2).2⟩,leftN_lt (pk_ok h1 _).1 (pk_ok h1 _).2⟩))))) (fun(h2:(selB (moreU (forV s F ((kvAt rB0 B (pk x1.1 B.length n4)).1)) (totN s n).a) (selB (!x1.2.2) true (decide (((cmpR ((kvAt rB0 B (pk x1.1 B.length n4)).1) x1.2.1):Int) < 0))) false)=false)=>(rnd (bel_1_R1 F0 p h v0 D l k t sp sc fm am bm n s F B n1 n2 n3) (bel_1_S1 F0 p h v0 D l k t sp sc fm am bm n s F B n1 n2 n3) (bel_1_mu1 F0 p h v0 D l k t sp sc fm am bm n s F B n1 n2 n3) x1 (((x1.1 ++ [pk x1.1 B.length n4]),x1.2.1,x1.2.2):(List Nat) × (Nat→UInt8) × Bool) (show(bel_1_R1 F0 p h v0 D l k t sp sc fm am bm n s F B n1 n2 n3) (((x1.1 ++ [pk x1.1 B.length n4]),x1.2.1,x1.2.2):(List Nat) × (Nat→UInt8) × Bool)∧(bel_1_mu1 F0 p h v0 D l k t sp sc fm am bm n s F B n1 n2 n3) (((x1.1 ++ [pk x1.1 B.length n4]),x1.2.1,x1.2.2):(List Nat) × (Nat→UInt8) × Bool) < (bel_1_mu1 F0 p h v0 D l k t sp sc fm am bm n s F B n1 n2 n3) x1 from(show((OrdN B.length (x1.1 ++ [pk x1.1 B.length n4]))∧(x1.2.1=(lstO s n F B (x1.1 ++ [pk x1.1 B.length n4])).1)∧(x1.2.2=(lstO s n F B (x1.1 ++ [pk x1.1 B.length n4])).2))∧(leftN (x1.1 ++ [pk x1.1 B.length n4]) B.length) < (leftN x1.1 B.length) from by have f4:(pk x1.1 B.length n4) < B.length:=((pk_ok h1 n4)).1; exact⟨⟨B0.snoc h1 _,(lst_noS B1 B2 h2).1,(lst_noS B1 B2 h2).2⟩,leftN_lt (pk_ok h1 _).1 (pk_ok h1 _).2⟩))))))))))) (fun(h1:(unseen x1.1 B.length)=false)=>aI (aI (aT (srun_nxt0 (P:=Tryd.prog) (kv:=rowV) (ev:=slqV) 0 n3 bm false false B x1.1 h1)) kV1) (aT (aI (@rfl Bool false) (aI (show(⟨[(6,.v (ptr n1 0)),(7,.v (ptr n2 0)),(8,.v (Value.bool x1.2.2))],[(0,some ⟨p,false,0,(.lit [v0,(Value.map (some h))])⟩),(1,some ⟨h,false,0,(mapP u64 clV D l)⟩),(2,some ⟨t,false,0,(.lit [(Value.slice (some ⟨sp,0,none⟩) n sc),(u64 ((totN s n).a)),(Value.map (some fm)),(Value.map (some am))])⟩),(3,some ⟨sp,false,0,(tabF n (fun k=>u64 (s k)))⟩),(4,some ⟨fm,false,0,(firC F)⟩),(5,some ⟨bm,false,0,(bkC B)⟩),(6,some ⟨n1,true,0,(.lit [(ptr t 0),(Value.map (some bm))])⟩),(7,some ⟨n2,true,0,(litF 32 (fun k=>u8 (x1.2.1 k)))⟩),(8,some ⟨n3,true,0,(itC bm B.length x1.1)⟩)],9⟩:St)=⟨[(6,.v (ptr n1 0)),(7,.v (ptr n2 0)),(8,.v (Value.bool ((lstB s n F B).2)))],[(0,some ⟨p,false,0,(.lit [v0,(Value.map (some h))])⟩),(1,some ⟨h,false,0,(mapP u64 clV D l)⟩),(2,some ⟨t,false,0,(.lit [(Value.slice (some ⟨sp,0,none⟩) n sc),(u64 ((totN s n).a)),(Value.map (some fm)),(Value.map (some am))])⟩),(3,some ⟨sp,false,0,(tabF n (fun k=>u64 (s k)))⟩),(4,some ⟨fm,false,0,(firC F)⟩),(5,some ⟨bm,false,0,(bkC B)⟩),(6,some ⟨n1,true,0,(.lit [(ptr t 0),(Value.map (some bm))])⟩),(7,some ⟨n2,true,0,(litF 32 (fun k=>u8 ((lstB s n F B).1 k)))⟩),(8,some ⟨n3,true,0,(itC bm B.length x1.1)⟩)],9⟩ from by have e:=lst_fin B0 h1 B1 B2; rw [e.1,e.2]) (fun(n6 n7:Nat)=>aI (sk (aI (aT (ad n1 1)) (aI (aT (ad n2 0)) (aI (aT (srun_look1 (P:=Tryd.prog) mT56 bm false B ((lstB s n F B).1))) (aI (aT (RunsO.mono (fun z hz=>hF _ z hz) (clone_E ((findE sR ((lstB s n F B).1) B).getD (bytZ none 0)) (hok _) (hle _)))) kV3))))) (aT (eX (fun(ns:List Nat)=>ns.length=2∧((Value.tuple #[(gsV (clG ((findE sR ((lstB s n F B).1) B).getD (bytZ none 0)) n6 n7)),(Value.bool ((lstB s n F B).2))]):Value)=(fun(ns:List Nat)=>(Value.tuple #[(gsV (clG ((findE sR ((lstB s n F B).1) B).getD (bytZ none 0)) (ns.getD 0 0) (ns.getD 1 0))),(Value.bool ((lstB s n F B).2))])) ns∧([some ⟨p,false,0,(.lit [v0,(Value.map (some h))])⟩,some ⟨h,false,0,(mapP u64 clV D l)⟩,some ⟨t,false,0,(.lit [(Value.slice (some ⟨sp,0,none⟩) n sc),(u64 ((totN s n).a)),(Value.map (some fm)),(Value.map (some am))])⟩,some ⟨sp,false,0,(tabF n (fun k=>u64 (s k)))⟩,some ⟨fm,false,0,(firC F)⟩,some ⟨bm,false,0,(bkC B)⟩,(gsE u8C [u8 0] 1 (clG ((findE sR ((lstB s n F B).1) B).getD (bytZ none 0)) n6 n7))]:List (Option Blk))=(fun(ns:List Nat)=>[some ⟨p,false,0,(.lit [v0,(Value.map (some h))])⟩,some ⟨h,false,0,(mapP u64 clV D l)⟩,some ⟨t,false,0,(.lit [(Value.slice (some ⟨sp,0,none⟩) n sc),(u64 ((totN s n).a)),(Value.map (some fm)),(Value.map (some am))])⟩,some ⟨sp,false,0,(tabF n (fun k=>u64 (s k)))⟩,some ⟨fm,false,0,(firC F)⟩,some ⟨bm,false,0,(bkC B)⟩,(gsE u8C [u8 0] 1 (clG ((findE sR ((lstB s n F B).1) B).getD (bytZ none 0)) (ns.getD 0 0) (ns.getD 1 0)))]) ns) [n6,n7] (aI (@rfl Nat 2) (aI (@rfl Value (Value.tuple #[(gsV (clG ((findE sR ((lstB s n F B).1) B).getD (bytZ none 0)) n6 n7)),(Value.bool ((lstB s n F B).2))])) (@rfl (List (Option Blk)) [some ⟨p,false,0,(.lit [v0,(Value.map (some h))])⟩,some ⟨h,false,0,(mapP u64 clV D l)⟩,some ⟨t,false,0,(.lit [(Value.slice (some ⟨sp,0,none⟩) n sc),(u64 ((totN s n).a)),(Value.map (some fm)),(Value.map (some am))])⟩,some ⟨sp,false,0,(tabF n (fun k=>u64 (s k)))⟩,some ⟨fm,false,0,(firC F)⟩,some ⟨bm,false,0,(bkC B)⟩,(gsE u8C [u8 0] 1 (clG ((findE sR ((lstB s n F B).1) B).getD (bytZ none 0)) n6 n7))])))))))))))))))))))
theorem believed_X {F' : Blk → Prop} (X : ChR) (hX : ChOk X) (k : UInt64) : RunsO F' Tryd.prog 10 [ptr X.p 0, u64 k] [roO (chH X), roO (chM X), roO (chT X), roO (chS X), roO (chF X), roO (chB X), roO (chR X)] 2 (fun ns => .tuple #[gsV (clG (bvB X k) (ns.getD 0 0) (ns.getD 1 0)), .bool (bvF X k)])
    (fun ns=>[none,none,none,none,none,none,none,gsE u8C [u8 0] 1 (clG (bvB X k) (ns.getD 0 0) (ns.getD 1 0))]):=by
  cases hs:slX X k with
  | none =>
    rw [show bvB X k=bytZ none 0 by unfold bvB; rw [hs],show bvF X k=false by unfold bvF; rw [hs]]
    have h:=(bel_0 X.p X.h (.slice (some ⟨X.sp,0,none⟩) X.n (X.n+X.sr)) X.D (hgL X.l) k (sl_no hs)).toO (F:=F')
    exact h.as (.cons _ (.cons _ (.zz _))) (fun _=>[0,0]) fun ns _=>⟨rfl,rfl,.dr _ (.dr _ (.dn (.dn (.dn (.dn (.dn (.dn (.zz _)))))))),tV⟩
  | some x =>
    obtain⟨j,hj,hl,_,_,hv⟩:=sl_at hs
    have hm:x ∈ X.l:=List.mem_of_getElem? hl
    have hg:∀ {g:Slot→Nat × Piece},(X.l.map g)[j]? = some (g x):=by intro g; rw [List.getElem?_map,hl]; rfl
    rw [show bvB X k=(findE sR (lstB X.s X.n x.F x.B).1 x.B).getD (bytZ none 0) by unfold bvB; rw [hs],show bvF X k=(lstB X.s X.n x.F x.B).2 by unfold bvF; rw [hs]]
    have h0:=bel_1 (famR X.R) X.p X.h (.slice (some ⟨X.sp,0,none⟩) X.n (X.n+X.sr)) X.D (hgL X.l) k x.t x.sp (X.n+x.sr) x.fm x.am x.bm X.n X.s x.F x.B hv (hX.vok x hm) (hX.b40 hm) (fun v=>(hX.look_ok hm v).1) (fun v=>Nat.le_trans (hX.look_ok hm v).2.1 (by decide)) (fun v=>(hX.look_ok hm v).2.2)
    have h1:=(h0.as (bs':=[roO (chH X),roO (chM X),some (blkP false (talP X.n X.s x)),some (blkP false (stkP X.n X.s x)),some (blkP false (fstP x)),some (blkP false (bkP x))]) (k':=2) (v':=fun ns=>.tuple #[gsV (clG ((findE sR (lstB X.s X.n x.F x.B).1 x.B).getD (bytZ none 0)) (ns.getD 0 0) (ns.getD 1 0)),.bool (lstB X.s X.n x.F x.B).2])
      (out':=fun ns=>[none,none,none,none,none,none,gsE u8C [u8 0] 1 (clG ((findE sR (lstB X.s X.n x.F x.B).1 x.B).getD (bytZ none 0)) (ns.getD 0 0) (ns.getD 1 0))])
      (.cons _ (.cons _ (tal_sub X.n X.s x (.cons _ (.cons _ (.cons _ (.zz _))))))) id fun ns hns=>⟨hns,rfl,.dr _ (.dr _ (.dr _ (.dr _ (.dr _ (.dr _ (.refl _)))))),gsE_ownL tV⟩)
    have h2:=RunsO.focusL (bs:=[roO (chH X),roO (chM X)]) (o:=fun _=>[none,none]) (q:=X.p) (ow:=false) h1 (hg (g:=talP X.n X.s)) (fun _=>rfl)
    have h3:=RunsO.focusL (bs:=[roO (chH X),roO (chM X),roO (chT X)]) (o:=fun _=>[none,none,none]) (q:=X.p) (ow:=false) h2 (hg (g:=stkP X.n X.s)) (fun _=>rfl)
    have h4:=RunsO.focusL (bs:=[roO (chH X),roO (chM X),roO (chT X),roO (chS X)]) (o:=fun _=>[none,none,none,none]) (q:=X.p) (ow:=false) h3 (hg (g:=fstP)) (fun _=>rfl)
    have h5:=RunsO.focusL (bs:=[roO (chH X),roO (chM X),roO (chT X),roO (chS X),roO (chF X)]) (o:=fun _=>[none,none,none,none,none]) (q:=X.p) (ow:=false) h4 (hg (g:=bkP)) (fun _=>rfl)
    exact RunsO.lendR (fun y hy=>(hX.rlen y hy).2) (q:=X.p) (bs:=[roO (chH X),roO (chM X),roO (chT X),roO (chS X),roO (chF X),roO (chB X)]) (o:=fun _=>[none,none,none,none,none,none]) h5 (fun _=>rfl)
end Go.Proofs.YtmdpendnbkajdaaDoor
end
section
namespace Go.Eng
theorem set_same {α:Type} {L:List α} {j:Nat} {a:α} (h:L[j]? = some a):L.set j a=L:=by
  apply List.ext_getElem?
  intro i
  rw [List.getElem?_set]
  by_cases e:j=i
  · subst e
    rw [if_pos rfl,if_pos (List.getElem?_eq_some_iff.1 h).1,h]
  · rw [if_neg e]
theorem map_set_same {α β:Type} {L:List α} {j:Nat} {a a':α} (h:L[j]? = some a) (g:α→β) (e:g a'=g a):(L.set j a').map g=L.map g:=by
  rw [List.map_set,e]
  exact set_same (by rw [List.getElem?_map,h]; rfl)
section
variable {X:ChR} {x:Slot} {j:Nat} {w:Int} {v:Nat→UInt8} {y:RwP} {k:UInt64} {t sp sr fm am bm:Nat}
theorem hrO_chO (hl : X.l[j]? = some x) : chO (hrO X j x w v y) = [chH X, chK X, chM X, chT X, chS X, lpO X.p ((X.l.map fstP).set j (x.fm, objP int rowV (voteF X.n X.s x.F w v))), lpO X.p ((X.l.map agaP).set j (x.am, objP int ev0 (voteA X.n X.s x.F x.A w v))),
    lpO X.p ((X.l.map bkP).set j (x.bm,objP rowV slqV (if voteE X.n X.s x.F w v=0 then putE sR v (rowB y) x.B else x.B))),lpO X.p ((if voteE X.n X.s x.F w v=0 then X.R ++ [y] else X.R).map rowP)]:=by
  unfold chO
  have e1:chM (hrO X j x w v y)=chM X:=by
    unfold chM hrO hgL
    simp only
    rw [map_set_same (a':=slU X x w v (rowB y)) hl (fun x=>(x.key,(some (x.t,x.bm):CV))) rfl]
  have e2:chT (hrO X j x w v y)=chT X:=by
    unfold chT hrO
    simp only
    rw [map_set_same (a':=slU X x w v (rowB y)) hl (talP X.n X.s) rfl]
  have e3:chS (hrO X j x w v y)=chS X:=by
    unfold chS hrO
    simp only
    rw [map_set_same (a':=slU X x w v (rowB y)) hl (stkP X.n X.s) rfl]
  rw [e1,e2,e3]
  unfold chF chA chB chR hrO
  simp only [List.map_set]
  rfl
theorem hrN_chO : chO (hrN X k w v y t sp sr fm am bm) = [chH X, chK X, some ⟨X.h, true, 0, mapP u64 clV X.D (hgL X.l ++ [(k, some (t, bm))])⟩, lpO X.p (X.l.map (talP X.n X.s) ++ [talP X.n X.s (slN k w v y t sp sr fm am bm)]), lpO X.p (X.l.map (stkP X.n X.s) ++ [stkP X.n X.s (slN k w v y t sp sr fm am bm)]),
    lpO X.p (X.l.map fstP ++ [fstP (slN k w v y t sp sr fm am bm)]),lpO X.p (X.l.map agaP ++ [agaP (slN k w v y t sp sr fm am bm)]),lpO X.p (X.l.map bkP ++ [bkP (slN k w v y t sp sr fm am bm)]),lpO X.p (X.R.map rowP ++ [rowP y])]:=by
  unfold chO chM chT chS chF chA chB chR hrN hgL
  simp only [List.map_append,List.map_cons,List.map_nil]
  rfl
end
theorem lm_cases {l:List (Option Blk)} {p:Nat} {b:Blk} (h:lM l p=some b):p < l.length:=by
  unfold lM at h
  cases hc:l[p]? with
  | none=>rw [hc] at h; cases h
  | some x=>exact(List.getElem?_eq_some_iff.1 hc).1
end Go.Eng
namespace Go.Eng
theorem un_pos {q:BytL} (h:unX q=0):0 < q.wn:=by
  refine Nat.pos_of_ne_zero fun h0=>?_
  have e1:rsE q 0 18446744073709551615=3:=by unfold rsE wrE; rw [if_pos h0]; rfl
  have e2:uE q=3:=by
    unfold uE; rw [e1]
    unfold rsE failE; rw [if_neg (by decide)]
  have e3:∀ k,(usS (uQ q) (uE q) k).2=3:=fun k=>by
    induction k with
    | zero=>exact e2
    | succ k ih=>show rbE _ _ _=3; rw [ih]; exact(rb_keep (by decide)).1
  have e4:=(un_0 h).1
  unfold uD endE at e4
  rw [e3,if_neg (fun z=>by cases z.1)] at e4
  exact absurd e4 (by decide)
end Go.Eng
namespace Go.Eng
def fgX (X:ChR) (b:UInt64):ChR:={ X with D:=fgD (hgL X.l) b }
def fgN (X:ChR) (b:UInt64):Nat:=X.l.length - numP (fgD (hgL X.l) b) X.l.length
theorem hg_keys (l:List Slot):(hgL l).map (·.1)=l.map Slot.key:=by unfold hgL; rw [List.map_map]; rfl
theorem hg_len (l:List Slot):(hgL l).length=l.length:=List.length_map ..
end Go.Eng
namespace Go.Eng
def upK (k:UInt64) (j:Nat):UInt64:=k+UInt64.ofNat j
def rnN (X:ChR) (k:UInt64):Nat:=((List.range 21).find? fun j=>!bvF X (upK k j)).getD 0
def rnL (X:ChR) (k:UInt64) (j:Nat):Nat:=(bvB X (upK k j)).wn
def rnF (X:ChR) (k:UInt64) (j:Nat):Nat→UInt8:=(bvB X (upK k j)).wf
theorem upK_0 (k:UInt64):k=upK k 0:=by unfold upK; simp
theorem upK_succ (k:UInt64) (j:Nat):upK k j+1=upK k (j+1):=by
  unfold upK
  rw [UInt64.add_assoc]
  congr 1
  apply UInt64.toNat_inj.1
  rw [UInt64.toNat_add,UInt64.toNat_ofNat',UInt64.toNat_ofNat']
  show((j % 2 ^ 64)+1) % 2 ^ 64=(j+1) % 2 ^ 64
  omega
theorem upK_inj {k:UInt64} {i j:Nat} (hi:i < 2 ^ 64) (hj:j < 2 ^ 64) (h:upK k i=upK k j):i=j:=by
  unfold upK at h
  have h2:=UInt64.add_right_inj k |>.1 h
  have h3:=congrArg UInt64.toNat h2
  rw [UInt64.toNat_ofNat',UInt64.toNat_ofNat',Nat.mod_eq_of_lt hi,Nat.mod_eq_of_lt hj] at h3
  exact h3
theorem bv_slot {X:ChR} {k:UInt64} (h:bvF X k=true):∃ x,slX X k=some x∧(lstB X.s X.n x.F x.B).2=true:=by
  unfold bvF at h
  cases hs:slX X k with
  | none=>rw [hs] at h; cases h
  | some x=>rw [hs] at h; exact⟨x,rfl,h⟩
theorem run_le {X:ChR} {k:UInt64}:∀ (m:Nat) (l:List UInt64),m≤2 ^ 64→(∀ j,j < m→upK k j ∈ l)→m≤l.length
  | 0,l,_,_=>Nat.zero_le _
  | m+1,l,hm,h=>by
    have h1:=h m (Nat.lt_succ_self m)
    have h2:=run_le (X:=X) (k:=k) m (l.erase (upK k m)) (by omega) fun j hj=>by
      have hne:upK k j≠upK k m:=fun e=>by
        have:=upK_inj (by omega) (by omega) e
        omega
      exact(List.mem_erase_of_ne hne).2 (h j (by omega))
    rw [List.length_erase_of_mem h1] at h2
    have:=List.length_pos_of_mem h1
    omega
theorem run_20 {X:ChR} (hX:ChOk X) {k:UInt64} {m:Nat} (hm:m≤21) (h:∀ j,j < m→bvF X (upK k j)=true):m≤20:=by
  have h1:=run_le (X:=X) (k:=k) m (X.l.map Slot.key) (by omega) fun j hj=>by
    obtain⟨x,hs,_⟩:=bv_slot (h j hj)
    obtain⟨i,_,hi,hk,_⟩:=sl_at hs
    exact List.mem_map.2 ⟨x,List.mem_of_getElem? hi,hk⟩
  rw [List.length_map] at h1
  have:=hX.len
  omega
theorem rn_end {X:ChR} {k:UInt64} {m:Nat} (hm:m≤20) (h:∀ j,j < m→bvF X (upK k j)=true) (he:bvF X (upK k m)=false):m=rnN X k:=by
  unfold rnN
  have:(List.range 21).find? (fun j=>!bvF X (upK k j))=some m:=find_first (by omega) (by rw [he]; rfl) fun j hj=>by rw [h j hj]; rfl
  rw [this]; rfl
theorem bv_row {X:ChR} (hX:ChOk X) {k:UInt64} (h:bvF X k=true):∃ y ∈ X.R,bvB X k=rowB y:=by
  obtain⟨x,hs,hl⟩:=bv_slot h
  obtain⟨i,_,hi,_⟩:=sl_at hs
  have hm:=List.mem_of_getElem? hi
  obtain⟨j,hj,_,hn⟩:=lst_yes hl
  have hf:findE sR (lstB X.s X.n x.F x.B).1 x.B=some (kvAt rB0 x.B j).2:=by
    rw [hn]
    exact KD.find eqv_row (hX.kd x hm) (at_mem hj)
  have he:bvB X k=(kvAt rB0 x.B j).2:=by unfold bvB; rw [hs]; simp only; rw [hf]; rfl
  obtain⟨y,hy,e⟩:=hX.row x hm _ (at_mem (d:=rB0) hj)
  exact⟨y,hy,he.trans e⟩
theorem bv_own {X:ChR} (hX:ChOk X) {k:UInt64} (h:bvF X k=true) (a r:Nat):gsV (clG (bvB X k) a r) = .slice (some ⟨a,0,none⟩) (bvB X k).wn ((bvB X k).wn+r)∧gsE u8C [u8 0] 1 (clG (bvB X k) a r)=some ⟨a,true,0,spr ((bvB X k).wn+r) (bvB X k).wn (fun j=>u8 ((bvB X k).wf j)) (u8 0)⟩:=by
  obtain⟨y,_,e⟩:=bv_row hX h
  rw [e]
  exact⟨rfl,by rw [gsE_u8]; rfl⟩
theorem bv_len {X:ChR} (hX:ChOk X) (k:UInt64):(bvB X k).wn≤3000:=by
  unfold bvB
  cases hs:slX X k with
  | none=>exact Nat.zero_le _
  | some x =>
    obtain⟨i,_,hi,_⟩:=sl_at hs
    exact(hX.look_ok (List.mem_of_getElem? hi) _).2.1
end Go.Eng
namespace Go.Eng
theorem run_step {X:ChR} (hX:ChOk X) {k0 z:UInt64} {k:Nat} (h0:z=upK k0 k) (h1:∀ j,j < k→bvF X (upK k0 j)=true) (h2:k≤20) (h:bvF X z=true):z+1=upK k0 (k+1)∧(∀ j,j < k+1→bvF X (upK k0 j)=true)∧k+1≤20:=by
  have h3:∀ j,j < k+1→bvF X (upK k0 j)=true:=fun j hj=>by
    by_cases e:j=k
    · subst e; rw [← h0]; exact h
    · exact h1 j (by omega)
  exact⟨by rw [h0]; exact upK_succ k0 k,h3,run_20 hX (by omega) h3⟩
end Go.Eng
end
section
namespace Go.Eng
section
variable {X:ChR} {x:Slot} {j:Nat} {w:Int} {v:Nat→UInt8} {y:RwP} {k:UInt64} {t sp sr fm am bm:Nat}
theorem voteF_no {n:Nat} {s:Nat→UInt64} {F:Fst} (h:voteE n s F w v≠0):voteF n s F w v=F:=if_neg h
theorem hrO_ok (h:ChOk X) (hl:X.l[j]? = some x) (hy:y.n≤3000∧y.n≤y.c):ChOk (hrO X j x w v y):=by
  have hm:x ∈ X.l:=List.mem_of_getElem? hl
  have hin:∀ z ∈ (hrO X j x w v y).l,z=slU X x w v (rowB y)∨z ∈ X.l:=fun z hz=>by
    rcases List.mem_or_eq_of_mem_set hz with h1 | h1
    · exact .inr h1
    · exact .inl h1
  have hR:∀ b:BytL,(∃ r ∈ X.R,b=rowB r)→∃ r ∈ (hrO X j x w v y).R,b=rowB r:=fun b ⟨r,hr,e⟩=>by
    refine⟨r,?_,e⟩
    show r ∈ (if voteE X.n X.s x.F w v=0 then X.R ++ [y] else X.R)
    split
    · exact List.mem_append_left _ hr
    · exact hr
  refine⟨h.good,?_,?_,fun z hz=>?_,fun z hz=>?_,fun z hz=>?_,fun z hz e he=>?_,fun r hr=>?_⟩
  · show(X.l.set j _).length≤20
    rw [List.length_set]; exact h.len
  · show((X.l.set j _).map Slot.key).Nodup
    rw [map_set_same (a':=slU X x w v (rowB y)) hl Slot.key rfl]; exact h.keys
  · rcases hin z hz with rfl | h1
    · exact(h.vok x hm).vote w v
    · exact h.vok z h1
  · rcases hin z hz with rfl | h1
    · have h2:=h.blen x hm
      by_cases he:voteE X.n X.s x.F w v=0
      · have e1:(slU X x w v (rowB y)).B=putE sR v (rowB y) x.B:=if_pos he
        have e2:(slU X x w v (rowB y)).F=x.F ++ [(w,v)]:=(voteF_new he).1
        have h3:(putE sR v (rowB y) x.B).length≤x.B.length+1:=by
          rw [put_len]
          split
          · exact Nat.le_succ _
          · exact Nat.le_refl _
        rw [e1,e2,List.length_append]
        exact Nat.le_trans h3 (Nat.succ_le_succ h2)
      · have e1:(slU X x w v (rowB y)).B=x.B:=if_neg he
        have e2:(slU X x w v (rowB y)).F=x.F:=voteF_no he
        rw [e1,e2]; exact h2
    · exact h.blen z h1
  · rcases hin z hz with rfl | h1
    · by_cases he:voteE X.n X.s x.F w v=0
      · rw [show(slU X x w v (rowB y)).B=putE sR v (rowB y) x.B from if_pos he]
        exact KD.put eqv_row (h.kd x hm)
      · rw [show(slU X x w v (rowB y)).B=x.B from if_neg he]; exact h.kd x hm
    · exact h.kd z h1
  · rcases hin z hz with rfl | h1
    · by_cases hE:voteE X.n X.s x.F w v=0
      · rw [show(slU X x w v (rowB y)).B=putE sR v (rowB y) x.B from if_pos hE] at he
        rcases mem_put eqv_row he with rfl | he
        · refine⟨y,?_,rfl⟩
          show y ∈ (if voteE X.n X.s x.F w v=0 then X.R ++ [y] else X.R)
          rw [if_pos hE]; simp
        · exact hR _ (h.row x hm e he)
      · rw [show(slU X x w v (rowB y)).B=x.B from if_neg hE] at he
        exact hR _ (h.row x hm e he)
    · exact hR _ (h.row z h1 e he)
  · change r ∈ (if voteE X.n X.s x.F w v=0 then X.R ++ [y] else X.R) at hr
    split at hr
    · rcases List.mem_append.1 hr with hr | hr
      · exact h.rlen r hr
      · rw [List.mem_singleton.1 hr]; exact hy
    · exact h.rlen r hr
theorem sl_key (hD:X.D=[]) (hs:slX X k=none):k ∉ X.l.map Slot.key:=fun hc=>by
  obtain⟨x,hx,hk⟩:=List.mem_map.1 hc
  have h1:=sl_no hs
  rw [hD,findV_nil] at h1
  have h2:=find_none h1 (x.key,some (x.t,x.bm)) (List.mem_map.2 ⟨x,hx,rfl⟩)
  rw [hk] at h2
  have:eqW k k=true:=eqW_iff.2 rfl
  rw [this] at h2; cases h2
theorem hrN_ok (h:ChOk X) (hD:X.D=[]) (hs:slX X k=none) (h20:¬ X.l.length=20) (hv:voteE X.n X.s [] w v=0) (hy:y.n≤3000∧y.n≤y.c):ChOk (hrN X k w v y t sp sr fm am bm):=by
  have hin:∀ z ∈ (hrN X k w v y t sp sr fm am bm).l,z=slN k w v y t sp sr fm am bm∨z ∈ X.l:=fun z hz=>by
    rcases List.mem_append.1 hz with h1 | h1
    · exact .inr h1
    · exact .inl (List.mem_singleton.1 h1)
  have hV:VOk X.n X.s [(w,v)]:=by
    have h1:=(VOk.nil (n:=X.n) (s:=X.s) h.good.2).vote w v
    rw [(voteF_new hv).1] at h1; exact h1
  refine⟨h.good,?_,?_,fun z hz=>?_,fun z hz=>?_,fun z hz=>?_,fun z hz e he=>?_,fun r hr=>?_⟩
  · show(X.l ++ [_]).length≤20
    have:=h.len
    rw [List.length_append]
    show X.l.length+1≤20
    omega
  · show((X.l ++ [_]).map Slot.key).Nodup
    rw [List.map_append,List.nodup_append]
    refine⟨h.keys,by simp,fun a ha b hb=>?_⟩
    simp at hb; subst hb
    exact fun e=>sl_key hD hs (e ▸ ha)
  · rcases hin z hz with rfl | h1
    · exact hV
    · exact h.vok z h1
  · rcases hin z hz with rfl | h1
    · exact Nat.le_refl 1
    · exact h.blen z h1
  · rcases hin z hz with rfl | h1
    · exact List.pairwise_singleton _ _
    · exact h.kd z h1
  · rcases hin z hz with rfl | h1
    · refine⟨y,List.mem_append_right _ (List.mem_singleton.2 rfl),?_⟩
      rw [List.mem_singleton.1 he]
    · obtain⟨r,hr,e1⟩:=h.row z h1 e he
      exact⟨r,List.mem_append_left _ hr,e1⟩
  · rcases List.mem_append.1 hr with hr | hr
    · exact h.rlen r hr
    · rw [List.mem_singleton.1 hr]; exact hy
theorem hrX_ok (h:ChOk X) (hD:X.D=[]) (k:UInt64) (w:Int) (y:BytL) (v:Nat→UInt8) (hl:y.wn≤3000) (a b c d e f g i:Nat):ChOk (hrX X k w y v a b c d e f g i):=by
  by_cases hb:unX y≠0∨unH y≠k
  · rw [(hear_1 (w:=w) (v:=v) hb).2]; exact h
  · cases hs:slX X k with
    | some x =>
      obtain⟨j,hj,hx,_⟩:=sl_at hs
      rw [(hear_3 (w:=w) (v:=v) hb hs hj).2]
      exact hrO_ok h hx ⟨hl,Nat.le_add_right _ _⟩
    | none =>
      by_cases h20:X.l.length=20
      · rw [(hear_2 (w:=w) (v:=v) hb hs h20).2]; exact h
      · by_cases hv:voteE X.n X.s [] w v=0
        · rw [(hear_5 hb hs h20 hv).2]; exact hrN_ok h hD hs h20 hv ⟨hl,Nat.le_add_right _ _⟩
        · rw [(hear_4 hb hs h20 hv).2]; exact h
theorem hrX_D (X:ChR) (k:UInt64) (w:Int) (y:BytL) (v:Nat→UInt8) (a b c d e f g i:Nat):(hrX X k w y v a b c d e f g i).D=X.D:=by
  unfold hrX
  split
  · rfl
  · split
    · rfl
    · split
      · rfl
      · split <;> rfl
theorem hrX_ns (X:ChR) (k:UInt64) (w:Int) (y:BytL) (v:Nat→UInt8) (a b c d e f g i:Nat):(hrX X k w y v a b c d e f g i).n=X.n∧(hrX X k w y v a b c d e f g i).s=X.s∧(hrX X k w y v a b c d e f g i).p=X.p:=by
  unfold hrX
  split
  · exact⟨rfl,rfl,rfl⟩
  · split
    · exact⟨rfl,rfl,rfl⟩
    · split
      · exact⟨rfl,rfl,rfl⟩
      · split <;> exact⟨rfl,rfl,rfl⟩
end
end Go.Eng
end
section
namespace Go.Eng
def awS:Nat→UInt64:=urowL [1,1,1,1]
def awX0 (p sp sr h:Nat):ChR:=chN 4 awS p sp sr h
section
variable (p sp sr h t s2 r2 fm am bm:Nat) (v v1:Nat→UInt8) (y1 y2 y3:RwP)
def awL1:Slot:=slN 0 0 v y1 t s2 r2 fm am bm
def awX1:ChR:=hrN (awX0 p sp sr h) 0 0 v y1 t s2 r2 fm am bm
def awL2:Slot:=⟨0,t,s2,r2,fm,am,bm,[(0,v),(1,v)],[],[(v,rowB y2)]⟩
def awX2:ChR:=⟨p,h,sp,sr,4,awS,[],[awL2 t s2 r2 fm am bm v y2],[y1,y2]⟩
def awL3:Slot:=⟨0,t,s2,r2,fm,am,bm,[(0,v),(1,v)],[(0,())],[(v,rowB y2)]⟩
def awX3:ChR:=⟨p,h,sp,sr,4,awS,[],[awL3 t s2 r2 fm am bm v y2],[y1,y2]⟩
variable {p sp sr h t s2 r2 fm am bm v v1 y1 y2 y3}
theorem aw_f1:forV awS [(0,v)] v=1:=by
  unfold forV forN
  simp only [List.length_cons,List.length_nil,sumN]
  rw [show sR (vF [(0,v)] 0) v=true from sR_refl v]
  rfl
theorem aw_f2:forV awS [(0,v),(1,v)] v=2:=by
  unfold forV forN
  simp only [List.length_cons,List.length_nil,sumN]
  rw [show sR (vF [(0,v),(1,v)] 0) v=true from sR_refl v,show sR (vF [(0,v),(1,v)] 1) v=true from sR_refl v]
  rfl
theorem aw_e1:voteE 4 awS [] 0 v=0:=rfl
theorem aw_e2:voteE 4 awS [(0,v)] 1 v=0:=rfl
theorem aw_e3 (hv:sR v v1=false):voteE 4 awS [(0,v),(1,v)] 0 v1=52:=by
  unfold voteE
  rw [if_neg (by decide),if_neg (by decide),show findE eqI 0 [((0:Int),v),(1,v)]=some v from rfl]
  simp only [hv]
  rfl
theorem aw_s1:slX (awX1 p sp sr h t s2 r2 fm am bm v y1) 0=some (awL1 t s2 r2 fm am bm v y1)∧slI (awX1 p sp sr h t s2 r2 fm am bm v y1) 0=some 0:=⟨rfl,rfl⟩
theorem aw_s2:slX (awX2 p sp sr h t s2 r2 fm am bm v y1 y2) 0=some (awL2 t s2 r2 fm am bm v y2)∧slI (awX2 p sp sr h t s2 r2 fm am bm v y1 y2) 0=some 0:=⟨rfl,rfl⟩
theorem aw_s3:slX (awX3 p sp sr h t s2 r2 fm am bm v y1 y2) 0=some (awL3 t s2 r2 fm am bm v y2)∧slX (awX3 p sp sr h t s2 r2 fm am bm v y1 y2) 1=none:=⟨rfl,rfl⟩
theorem aw_l1:lstB awS 4 [(0,v)] [(v,rowB y1)]=(fun _=>0,false):=by
  show lstS awS 4 [(0,v)] (fun _=>0,false) v=_
  unfold lstS
  rw [aw_f1,show moreU 1 (totN awS 4).a=false from rfl]
  rfl
theorem aw_l2:lstB awS 4 [(0,v),(1,v)] [(v,rowB y2)]=(v,true):=by
  show lstS awS 4 [(0,v),(1,v)] (fun _=>0,false) v=_
  unfold lstS
  rw [aw_f2,show moreU 2 (totN awS 4).a=true from rfl]
  rfl
theorem aw_b1:bvF (awX1 p sp sr h t s2 r2 fm am bm v y1) 0=false:=by
  unfold bvF; rw [aw_s1.1]; exact congrArg Prod.snd aw_l1
theorem aw_b2:bvF (awX2 p sp sr h t s2 r2 fm am bm v y1 y2) 0=true∧bvB (awX2 p sp sr h t s2 r2 fm am bm v y1 y2) 0=rowB y2:=by
  unfold bvF bvB; rw [aw_s2.1]
  refine⟨congrArg Prod.snd aw_l2,?_⟩
  show(findE sR (lstB awS 4 [(0,v),(1,v)] [(v,rowB y2)]).1 [(v,rowB y2)]).getD _=_
  rw [aw_l2]
  simp only [findE,sR_refl,if_true]
  rfl
theorem aw_b3:bvF (awX3 p sp sr h t s2 r2 fm am bm v y1 y2) 0=true∧bvB (awX3 p sp sr h t s2 r2 fm am bm v y1 y2) 0=rowB y2∧bvF (awX3 p sp sr h t s2 r2 fm am bm v y1 y2) 1=false:=by
  unfold bvF bvB; rw [aw_s3.1,aw_s3.2]
  refine⟨congrArg Prod.snd aw_l2,?_,rfl⟩
  show(findE sR (lstB awS 4 [(0,v),(1,v)] [(v,rowB y2)]).1 [(v,rowB y2)]).getD _=_
  rw [aw_l2]
  simp only [findE,sR_refl,if_true]
  rfl
theorem aw_h1 {q:BytL} (hX:unX q=0) (hH:unH q=0) (a b:Nat):hearE (awX0 p sp sr h) 0 0 q v=0∧hrX (awX0 p sp sr h) 0 0 q v a b t s2 r2 fm am bm=awX1 p sp sr h t s2 r2 fm am bm v ⟨a,q.wn,q.wn+b,q.wf⟩:=by
  have h5:=hear_5 (X:=awX0 p sp sr h) (k:=0) (w:=0) (y:=q) (v:=v) (by rw [hX,hH]; simp) rfl (fun z=>(by cases (show(0:Nat)=20 from z))) aw_e1
  exact⟨h5.1,h5.2 ..⟩
theorem aw_h2 {q:BytL} (hX:unX q=0) (hH:unH q=0) (a b c d e f g i:Nat):hearE (awX1 p sp sr h t s2 r2 fm am bm v y1) 0 1 q v=0∧hrX (awX1 p sp sr h t s2 r2 fm am bm v y1) 0 1 q v a b c d e f g i=awX2 p sp sr h t s2 r2 fm am bm v y1 ⟨a,q.wn,q.wn+b,q.wf⟩:=by
  have h3:=hear_3 (X:=awX1 p sp sr h t s2 r2 fm am bm v y1) (k:=0) (w:=1) (y:=q) (v:=v) (by rw [hX,hH]; simp) aw_s1.1 aw_s1.2
  refine⟨h3.1.trans aw_e2,(h3.2 ..).trans ?_⟩
  have e1:voteF 4 awS [(0,v)] 1 v=[(0,v),(1,v)]:=(voteF_new aw_e2).1
  have e2:putE sR v (rowB ⟨a,q.wn,q.wn+b,q.wf⟩) [(v,rowB y1)]=[(v,rowB ⟨a,q.wn,q.wn+b,q.wf⟩)]:=by simp [putE,sR_refl]
  unfold hrO slU awX2 awL2
  show ChR.mk p h sp sr 4 awS [] ([awL1 t s2 r2 fm am bm v y1].set 0 ⟨0,t,s2,r2,fm,am,bm,voteF 4 awS [(0,v)] 1 v,[],putE sR v (rowB ⟨a,q.wn,q.wn+b,q.wf⟩) [(v,rowB y1)]⟩) ([y1] ++ [_])=_
  rw [e1,e2]
  rfl
theorem aw_h3 {q:BytL} (hX:unX q=0) (hH:unH q=0) (hv:sR v v1=false) (a b c d e f g i:Nat):hearE (awX2 p sp sr h t s2 r2 fm am bm v y1 y2) 0 0 q v1=52∧hrX (awX2 p sp sr h t s2 r2 fm am bm v y1 y2) 0 0 q v1 a b c d e f g i=awX3 p sp sr h t s2 r2 fm am bm v y1 y2:=by
  have h3:=hear_3 (X:=awX2 p sp sr h t s2 r2 fm am bm v y1 y2) (k:=0) (w:=0) (y:=q) (v:=v1) (by rw [hX,hH]; simp) aw_s2.1 aw_s2.2
  refine⟨h3.1.trans (aw_e3 hv),(h3.2 ..).trans ?_⟩
  have hne:voteE 4 awS [(0,v),(1,v)] 0 v1≠0:=by rw [aw_e3 hv]; decide
  have e1:voteF 4 awS [(0,v),(1,v)] 0 v1=[(0,v),(1,v)]:=voteF_no hne
  have e2:voteA 4 awS [(0,v),(1,v)] [] 0 v1=[(0,())]:=(voteA_52 (A:=[]) (aw_e3 hv)).2
  unfold hrO slU
  show ChR.mk p h sp sr 4 awS [] ([awL2 t s2 r2 fm am bm v y2].set 0 ⟨0,t,s2,r2,fm,am,bm,voteF 4 awS [(0,v),(1,v)] 0 v1,voteA 4 awS [(0,v),(1,v)] [] 0 v1,if voteE 4 awS [(0,v),(1,v)] 0 v1=0 then putE sR v1 _ [(v,rowB y2)] else [(v,rowB y2)]⟩) (if voteE 4 awS [(0,v),(1,v)] 0 v1=0 then [y1,y2] ++ [_] else [y1,y2])=_
  rw [e1,e2,if_neg hne,if_neg hne]
  rfl
theorem aw_run:rnN (awX3 p sp sr h t s2 r2 fm am bm v y1 y2) 0=1∧rnL (awX3 p sp sr h t s2 r2 fm am bm v y1 y2) 0 0=y2.n∧rnF (awX3 p sp sr h t s2 r2 fm am bm v y1 y2) 0 0=y2.f:=by
  refine⟨(rn_end (m:=1) (by decide) (fun j hj=>?_) ?_).symm,?_,?_⟩
  · rw [show j=0 by omega]; exact aw_b3.1
  · exact aw_b3.2.2
  · show(bvB _ 0).wn=_
    rw [aw_b3.2.1]; rfl
  · show(bvB _ 0).wf=_
    rw [aw_b3.2.1]; rfl
theorem aw_fg:fgN (awX3 p sp sr h t s2 r2 fm am bm v y1 y2) 1=1∧unseen (fgX (awX3 p sp sr h t s2 r2 fm am bm v y1 y2) 1).D (hgL (fgX (awX3 p sp sr h t s2 r2 fm am bm v y1 y2) 1).l).length=false:=⟨rfl,rfl⟩
end
end Go.Eng
end
section
namespace Go.Eng
def blL (b:BytL):BytS:=if b.wn=0 then bysZ else bysO 0 1 1 (brow [b])
def blG (h:UInt64) (b:BytL) (a r:Nat):Grw UInt8:=pakG h (blL b) a r
def blN (h:UInt64) (b:BytL):Nat:=pkL h (blL b).wn (blL b).wf (blL b).wn
def blF (h:UInt64) (b:BytL):Nat→UInt8:=pkF h (blL b).wn (blL b).wf (blL b).wn
def blQ (h:UInt64) (b:BytL):BytL:=bytO 0 (blN h b) (blN h b) (blF h b)
section
variable {h:UInt64} {b:BytL} {a r:Nat}
theorem blL_ok (hl:b.wn≤1000):pakE (blL b)=0:=by
  unfold blL
  by_cases h0:b.wn=0
  · rw [if_pos h0]; decide
  · rw [if_neg h0]
    refine pak_0 ?_ ?_
    · rw [selB_or,Bool.or_eq_false_iff]
      refine⟨rfl,anyK_false fun k hk=>?_⟩
      have:k=0:=by have:k < 1:=hk; omega
      subst this
      show(!szB b.wn)=false
      rw [szB_iff.2 ⟨by omega,hl⟩]; rfl
    · exact anyK_false fun k hk => by
        have:k=0:=by have:k < 1:=hk; omega
        subst this; rfl
theorem blG_eq (hl:b.wn≤1000):blG h b a r=gsOf (blN h b) (blF h b) a r:=by
  unfold blG; rw [pakG_yes (blL_ok hl)]; rfl
theorem blN_rng (hl:b.wn≤1000):0 < blN h b∧blN h b≤2000:=by
  have h1:=pkL_pos (h:=h) (n:=(blL b).wn) (e:=(blL b).wf) (k:=(blL b).wn)
  refine⟨by unfold blN; omega,?_⟩
  obtain⟨h2,_⟩:=pakE_few (blL_ok hl)
  have h3:=pkL_le (h:=h) (n:=(blL b).wn) (e:=(blL b).wf) (k:=(blL b).wn) fun i hi=>(h2.2 i hi).2
  have h4:(blL b).wn≤1:=by
    unfold blL
    split
    · exact Nat.zero_le _
    · exact Nat.le_refl 1
  unfold blN
  omega
theorem blG_own (hl:b.wn≤1000):gsV (blG h b a r) = .slice (some ⟨a,0,none⟩) (blN h b) (blN h b+r)∧gsE u8C [u8 0] 1 (blG h b a r)=some ⟨a,true,0,spr (blN h b+r) (blN h b) (fun k=>u8 (blF h b k)) (u8 0)⟩:=by
  have h1:=(blN_rng (h:=h) hl).1
  rw [blG_eq hl]
  have hz:(gsOf (blN h b) (blF h b) a r).z=false:=decide_eq_false (by omega)
  exact⟨gsV_own hz,by rw [gsE_u8,grO_own hz]; rfl⟩
theorem blQ_un (hl:b.wn≤1000) {nm c:Nat}:unX (bytO nm (blN h b) c (blF h b))=0∧unH (bytO nm (blN h b) c (blF h b))=h:=by
  obtain⟨e1,e2⟩:=pak_len (h:=h) (a:=0) (r:=0) (blL_ok hl)
  obtain⟨h1,h2,_⟩:=fw_un (h:=h) (l:=blL b) (q:=bytO nm (blN h b) c (blF h b)) (blL_ok hl) rfl fun k _=>rfl
  exact⟨h1,h2⟩
end
end Go.Eng
end
section
namespace Go.Eng
structure ClR where
  h:UInt64
  w:Int
  y:BytL
def clmC (x:ClR):List Value:=[u64 x.h,int x.w,slqV x.y]
theorem clmC_ok (x:ClR):(clmC x).length=3∧(clmC x).all Value.oneCell'=true:=⟨rfl,rfl⟩
def clZ:List Value:=[u64 0,int 0,.slice none 0 0]
section
variable {L:Nat→Nat} {f:Nat→Nat→UInt8} {hh:Nat→UInt64} {ww:Nat→Int}
def clF (c d:Nat) (L:Nat→Nat) (f:Nat→Nat→UInt8) (hh:Nat→UInt64) (ww:Nat→Int) (k:Nat):ClR:=⟨hh k,ww k,elF c d L f k⟩
theorem clist_push {k c d n1 n2 N : Nat} {w : Int} {u : UInt64} (hL : N = L k) (hu : u = hh k) (hw : w = ww k) {A : Grw ClR} (hz : A.z = false) (hn : A.n = k + 1) (hA : A.f = catU (clF c d L f hh ww) k fun _ => ⟨u, w, qOf (.slice (some ⟨n1, 0, none⟩) N (N + n2))⟩) :
    gsV A=gsV (gsOf (k+1) (clF (pcod c k n1) (pcod d k n2) L f hh ww) A.nm A.r)∧gsE clmC clZ 3 A=gsE clmC clZ 3 (gsOf (k+1) (clF (pcod c k n1) (pcod d k n2) L f hh ww) A.nm A.r) :=
  gs_tellC hn (by rw [hz,decide_eq_false (by omega)]) fun j hj=>by
    rw [hA]
    unfold catU
    by_cases h:j < k
    · rw [if_pos h]; unfold clF elF; rw [pcod_old h,pcod_old h]
    · have:j=k:=by omega
      subst this
      rw [if_neg h]; unfold clF elF; rw [pcod_new,pcod_new,← hL,← hu,← hw]
      rfl
end
def cell3 (bs:List (Option Blk)) (i:Nat):Value:=match bs[i]? with
  | some (some b)=>match b.cont with
    | .lit [_,_,v]=>v
    | _=>undef
  | _=>undef
section
variable {P:Program} {t e:TypeId}
theorem srunO_ldK {α : Type} {C : α → List Value} {zc : List Value} {sz : Nat} (hs : sizeB P t = some sz) (ha : aggB P t = some true) (hC : ∀ a, (C a).length = sz) (h0 : 0 < sz) {A : Grw α} (hz : A.z = false) (i : Nat) (hi : i < A.n) :
    SRunsO P (ldGSem t (ptr A.nm (0+i*sz))) [roO (gsE C zc sz A)] 0 (fun _=>.agg (C (A.f i)).toArray) (fun _=>[none]):=by
  rw [gsE_own hz]
  intro w hm hap
  have hS:Holds ⟨A.nm,false,0,sprE sz (A.n+A.r) A.n (fun k=>C (A.f k)) zc⟩ w:=hm 0 _ rfl
  refine⟨[],w,rfl,.inl ?_,?_⟩
  · have hr := run_loadAt_agg (P := P) (t := t) (w := w) (b := A.nm) (o := 0 + i * sz) (cs := C (A.f i)) hs ha (hC _) fun k v hk => by
      have hk4:k < sz:=by
        have:=(List.getElem?_eq_some_iff.1 hk).1
        rw [hC] at this; exact this
      rw [Nat.add_assoc]
      refine hS.cell (i*sz+k) v ?_
      show(Cont.tab (A.n+A.r) sz fun k=>if k < A.n then C (A.f k) else zc).get (i*sz+k)=some v
      have hlt:i*sz+k < (A.n+A.r)*sz:=by
        have h1:(i+1)*sz≤(A.n+A.r)*sz:=Nat.mul_le_mul_right sz (by omega)
        rw [Nat.add_mul,Nat.one_mul] at h1
        omega
      rw [Cont.get_tab hlt,Nat.mul_comm i sz,Nat.mul_add_div h0,Nat.div_eq_of_lt hk4,Nat.add_zero,Nat.mul_add_mod,Nat.mod_eq_of_lt hk4,if_pos hi]
      exact hk
    show(Instr.loadAt t (Value.pointer (some { block:=A.nm,off:=0+i*sz })) >>= fun v=>Sem.pure (Next.value v)).run P w=_
    rw [Sem.run_bind,hr]; rfl
  · exact⟨fun p b hpb=>by rcases p with _ | p <;> simp [lM] at hpb,fun p q b c _ hpb=>by rcases p with _ | p <;> simp [lM] at hpb,(Adv.refl _ _).weak fun p b hpb=>by rcases p with _ | p <;> simp [lM] at hpb⟩
end
theorem slX_find {X:ChR} (hD:X.D=[]) (k:UInt64):slX X k=X.l.find? fun x=>eqW k x.key:=by
  have:∀ (l:List Slot) (i q:Nat),((findP eqW k [] (hgL l) i q).map fun p=>p.2.1).bind (fun j=>l[j - i]?)=l.find? fun x=>eqW k x.key:=fun l=>by
    induction l with
    | nil=>intro i q; rfl
    | cons x l ih =>
      intro i q
      show((findP eqW k [] ((x.key,some (x.t,x.bm)) :: hgL l) i q).map fun p=>p.2.1).bind _=_
      simp only [findP,List.find?_cons]
      rw [if_neg (by simp)]
      cases e:eqW k x.key with
      | true=>simp
      | false =>
        simp only [Bool.false_eq_true,if_false]
        rw [← ih (i+1) (q+1)]
        cases hf:findP eqW k [] (hgL l) (i+1) (q+1) with
        | none=>rfl
        | some r =>
          obtain⟨p,j,v⟩:=r
          obtain⟨_,h2,_⟩:=findP_at (kv:=u64) (ev:=clV) hf
          show(x :: l)[j - i]? = l[j - (i+1)]?
          rw [show j - i=(j - (i+1))+1 by omega]
          rfl
  unfold slX slI
  rw [hD]
  exact this X.l 0 0
theorem find_set {k:UInt64} {x x':Slot} (hk:x'.key=x.key):∀ {l:List Slot} {j:Nat},l[j]? = some x→(l.map Slot.key).Nodup→(l.set j x').find? (fun z=>eqW k z.key)=if k=x.key then some x' else l.find? fun z=>eqW k z.key
  | [],j,h,_=>by simp at h
  | z :: l,0,h,hn=>by
    simp at h; subst h
    simp only [List.set_cons_zero,List.find?_cons]
    by_cases e:k=z.key
    · rw [if_pos e,hk,eqW_iff.2 e]
    · rw [if_neg e,hk]
      have:eqW k z.key=false:=by
        cases h:eqW k z.key with
        | false=>rfl
        | true=>exact absurd (eqW_iff.1 h) e
      rw [this]
  | z :: l,j+1,h,hn=>by
    have hn':=List.nodup_cons.1 (by simpa using hn:(z.key :: l.map Slot.key).Nodup)
    have h':l[j]? = some x:=by simpa using h
    have hne:x.key≠z.key:=fun e=>hn'.1 (e ▸ List.mem_map.2 ⟨x,List.mem_of_getElem? h',rfl⟩)
    simp only [List.set_cons_succ,List.find?_cons]
    cases e:eqW k z.key with
    | true =>
      have:=eqW_iff.1 e
      rw [if_neg (by rw [this]; exact fun c=>hne c.symm)]
    | false=>exact find_set hk h' hn'.2
theorem slX_O {X:ChR} (h:ChOk X) (hD:X.D=[]) {j:Nat} {x:Slot} (hl:X.l[j]? = some x) (w:Int) (v:Nat→UInt8) (y:RwP) (k:UInt64):slX (hrO X j x w v y) k=if k=x.key then some (slU X x w v (rowB y)) else slX X k:=by
  rw [slX_find (X:=hrO X j x w v y) hD,slX_find hD]
  exact find_set (x:=x) (x':=slU X x w v (rowB y)) rfl hl h.keys
theorem slX_N {X:ChR} (hD:X.D=[]) {k0:UInt64} (hs:slX X k0=none) (w:Int) (v:Nat→UInt8) (y:RwP) (t sp sr fm am bm:Nat) (k:UInt64):slX (hrN X k0 w v y t sp sr fm am bm) k=if k=k0 then some (slN k0 w v y t sp sr fm am bm) else slX X k:=by
  rw [slX_find (X:=hrN X k0 w v y t sp sr fm am bm) hD,slX_find hD]
  rw [slX_find hD] at hs
  show(X.l ++ [slN k0 w v y t sp sr fm am bm]).find? _=_
  rw [List.find?_append]
  by_cases e:k=k0
  · subst e
    rw [if_pos rfl,hs]
    show(none:Option Slot).or (List.find? _ [_])=_
    simp only [List.find?_cons]
    rw [show eqW k (slN k w v y t sp sr fm am bm).key=true from eqW_iff.2 rfl]
    rfl
  · rw [if_neg e]
    have:(List.find? (fun x=>eqW k x.key) [slN k0 w v y t sp sr fm am bm])=none:=by
      simp only [List.find?_cons]
      rw [show eqW k (slN k0 w v y t sp sr fm am bm).key=false from by
        cases h:eqW k (slN k0 w v y t sp sr fm am bm).key with
        | false=>rfl
        | true=>exact absurd (eqW_iff.1 h) e]
      rfl
    rw [this]
    cases List.find? (fun x=>eqW k x.key) X.l <;> rfl
end Go.Eng
end
section
namespace Go.Eng
structure TnR where
  n1:Nat
  a:Nat→UInt8
  b:Nat→UInt8
def bOne (x:UInt8):BytL:=bytO 0 1 1 fun _=>x
def tH (T:TnR) (k:Nat):UInt64:=if k < T.n1 then 0 else 1
def tW (T:TnR) (k:Nat):Nat:=if k < T.n1 then k else k - T.n1
def tB (T:TnR) (k:Nat):UInt8:=(if k < T.n1 then T.a k else T.b (k - T.n1)) % 2+1
def tL (T:TnR) (k:Nat):Nat:=blN (tH T k) (bOne (tB T k))
def tF (T:TnR) (k:Nat):Nat→UInt8:=blF (tH T k) (bOne (tB T k))
def tI (T:TnR) (k:Nat):Int:=(tW T k:Nat)
def accT (T:TnR) (n:Nat) (s:Nat→UInt64) (j:Nat):Bool:=decide (tW T j < n) && !(s (tW T j) == 0)
theorem tB_two (T:TnR) (k:Nat):tB T k=1∨tB T k=2:=by
  unfold tB
  generalize (if k < T.n1 then T.a k else T.b (k - T.n1))=x
  have h:(x % 2).toNat=0∨(x % 2).toNat=1:=by
    rw [UInt8.toNat_mod]
    have:=Nat.mod_lt x.toNat (show 0 < (2:UInt8).toNat by decide)
    have e:(2:UInt8).toNat=2:=rfl
    rw [e] at this ⊢
    omega
  rcases h with h | h
  · left; apply UInt8.toNat_inj.1; rw [UInt8.toNat_add,h]; rfl
  · right; apply UInt8.toNat_inj.1; rw [UInt8.toNat_add,h]; rfl
theorem tH_two (T:TnR) (k:Nat):tH T k=0∨tH T k=1:=by unfold tH; split <;> simp
theorem t_inj {T:TnR} {i j:Nat} (h:tH T i=tH T j) (hw:tW T i=tW T j):i=j:=by
  unfold tH at h
  unfold tW at hw
  split at h
  · split at h
    · rw [if_pos (by assumption),if_pos (by assumption)] at hw; exact hw
    · exact absurd h (by decide)
  · split at h
    · exact absurd h (by decide)
    · rw [if_neg (by assumption),if_neg (by assumption)] at hw; omega
structure NmT (ν:UInt64→UInt8→Nat→UInt8):Prop where
  ne:∀ H,H=0∨H=1→sR (ν H 1) (ν H 2)=false
theorem NmT.eq {ν:UInt64→UInt8→Nat→UInt8} (h:NmT ν) {H:UInt64} (hH:H=0∨H=1) {x y:UInt8} (hx:x=1∨x=2) (hy:y=1∨y=2) (e:sR (ν H x) (ν H y)=true):x=y:=by
  rcases hx with rfl | rfl
  · rcases hy with rfl | rfl
    · rfl
    · rw [h.ne H hH] at e; cases e
  · rcases hy with rfl | rfl
    · rw [sR_comm,h.ne H hH] at e; cases e
    · rfl
section
variable (T:TnR) (ν:UInt64→UInt8→Nat→UInt8)
def wtT (s:Nat→UInt64) (n:Nat) (H:UInt64) (v:Nat→UInt8) (j:Nat):Nat:=if (accT T n s j && (tH T j == H) && sR (ν (tH T j) (tB T j)) v)=true then (s (tW T j)).toNat else 0
structure InvT (X:ChR) (js:List Nat):Prop where
  ok:ChOk X
  d:X.D=[]
  key:∀ x ∈ X.l,x.key=0∨x.key=1
  no:∀ j ∈ js,accT T X.n X.s j=true→slX X (tH T j)≠none
  sum:∀ H x,slX X H=some x→∀ v,forN X.s x.F v=lsum (wtT T ν X.s X.n H v) js
  src:∀ H x,slX X H=some x→∀ e ∈ x.B,∃ j ∈ js,accT T X.n X.s j=true∧tH T j=H∧e.1=ν H (tB T j)∧e.2.wn=tL T j∧e.2.wf=tF T j
  cov:∀ H x,slX X H=some x→∀ j ∈ js,accT T X.n X.s j=true→tH T j=H→∃ e ∈ x.B,sR e.1 (ν H (tB T j))=true
  who:∀ H x,slX X H=some x→∀ w,findE eqI w x.F≠none→∃ j ∈ js,tH T j=H∧w=tI T j
end
section
variable {T:TnR} {ν:UInt64→UInt8→Nat→UInt8} {X:ChR} {js:List Nat}
theorem InvT.zero {n:Nat} {f:Nat→UInt64} (h0:0 < n) (hg:goodN n f) (p sp sr h:Nat):InvT T ν (chN n f p sp sr h) [] where
  ok:=chN_ok h0 hg p sp sr h
  d:=rfl
  key:=fun x hx=>by cases hx
  no:=fun j hj=>by cases hj
  sum:=fun H x hs=>by cases hs
  src:=fun H x hs=>by cases hs
  cov:=fun H x hs=>by cases hs
  who:=fun H x hs=>by cases hs
theorem key2_len:∀ {l:List UInt64},l.Nodup→(∀ x ∈ l,x=0∨x=1)→l.length≤2
  | [],_,_=>Nat.zero_le _
  | [_],_,_=>Nat.le_succ 1
  | [_,_],_,_=>Nat.le_refl 2
  | a :: b :: c :: r,hn,h=>by
    exfalso
    have h1:=List.nodup_cons.1 hn
    have h2:=List.nodup_cons.1 h1.2
    have ab:a≠b:=fun e=>h1.1 (e ▸ .head _)
    have ac:a≠c:=fun e=>h1.1 (e ▸ .tail _ (.head _))
    have bc:b≠c:=fun e=>h2.1 (e ▸ .head _)
    rcases h a (.head _) with rfl | rfl <;> rcases h b (.tail _ (.head _)) with rfl | rfl <;> rcases h c (.tail _ (.tail _ (.head _))) with rfl | rfl <;> first | exact ab rfl | exact ac rfl | exact bc rfl
theorem InvT.step (h:InvT T ν X js) {j:Nat} (hj:j ∉ js) {q:BytL} (hX:unX q=0) (hH:unH q=tH T j) (hl:q.wn=tL T j) (hf:q.wf=tF T j) (h3:q.wn≤3000) (a b c d e f g i:Nat):InvT T ν (hrX X (tH T j) (tI T j) q (ν (tH T j) (tB T j)) a b c d e f g i) (js ++ [j]):=by
  have hb:¬ (unX q≠0∨unH q≠tH T j):=by rw [hX,hH]; simp
  have hns:=hrX_ns X (tH T j) (tI T j) q (ν (tH T j) (tB T j)) a b c d e f g i
  have hok:=hrX_ok h.ok h.d (tH T j) (tI T j) q (ν (tH T j) (tB T j)) h3 a b c d e f g i
  have hdd:(hrX X (tH T j) (tI T j) q (ν (tH T j) (tB T j)) a b c d e f g i).D=[]:=(hrX_D ..).trans h.d
  have hlen:¬ X.l.length=20:=by
    have:=key2_len h.ok.keys fun k hk=>by
      obtain⟨x,hx,rfl⟩:=List.mem_map.1 hk
      exact h.key x hx
    rw [List.length_map] at this
    omega
  have hE:∀ F:Fst,findE eqI (tI T j) F=none→(accT T X.n X.s j=true→voteE X.n X.s F (tI T j) (ν (tH T j) (tB T j))=0)∧(accT T X.n X.s j=false→voteE X.n X.s F (tI T j) (ν (tH T j) (tB T j))=1∨voteE X.n X.s F (tI T j) (ν (tH T j) (tB T j))=51):=fun F hF=>by
    unfold accT
    constructor
    · intro hac
      rw [Bool.and_eq_true,decide_eq_true_iff] at hac
      refine vote_0 (by unfold tI; omega) (by unfold tI; simpa using hac.2) (by rw [hF]; rfl)
    · intro hac
      by_cases hw:tW T j < X.n
      · right
        rw [decide_eq_true hw,Bool.true_and] at hac
        exact vote_51 (by unfold tI; omega) (by unfold tI; simpa using hac)
      · left; exact vote_1 (by unfold tI; omega)
  have hsum0:accT T X.n X.s j=false→∀ H v,lsum (wtT T ν X.s X.n H v) (js ++ [j])=lsum (wtT T ν X.s X.n H v) js:=fun hac H v=>by
    rw [lsum_snoc]
    unfold wtT
    rw [hac]
    simp
  have same:accT T X.n X.s j=false→InvT T ν X (js ++ [j]):=fun hac=>{
    ok:=h.ok,d:=h.d,key:=h.key
    no:=fun k hk hkc=>by
      rcases List.mem_append.1 hk with hk | hk
      · exact h.no k hk hkc
      · rw [List.mem_singleton.1 hk,hac] at hkc; cases hkc
    sum:=fun H x hs v=>by rw [hsum0 hac]; exact h.sum H x hs v
    src:=fun H x hs z hz=>by
      obtain⟨k,hk,h1⟩:=h.src H x hs z hz
      exact⟨k,List.mem_append_left _ hk,h1⟩
    cov:=fun H x hs k hk hkc hkH=>by
      rcases List.mem_append.1 hk with hk | hk
      · exact h.cov H x hs k hk hkc hkH
      · rw [List.mem_singleton.1 hk,hac] at hkc; cases hkc
    who:=fun H x hs w hw=>by
      obtain⟨k,hk,h1⟩:=h.who H x hs w hw
      exact⟨k,List.mem_append_left _ hk,h1⟩ }
  cases hs:slX X (tH T j) with
  | none =>
    cases hac:accT T X.n X.s j with
    | false =>
      have he:voteE X.n X.s [] (tI T j) (ν (tH T j) (tB T j))≠0:=by
        rcases(hE [] rfl).2 hac with e | e <;> rw [e] <;> decide
      rw [(hear_4 hb hs hlen he).2]
      exact same hac
    | true =>
      have he:=(hE [] rfl).1 hac
      rw [(hear_5 hb hs hlen he).2] at hns hok hdd ⊢
      have hsl:=slX_N h.d hs (tI T j) (ν (tH T j) (tB T j)) ⟨a,q.wn,q.wn+b,q.wf⟩ c d e f g i
      have hnew:∀ H x,slX (hrN X (tH T j) (tI T j) (ν (tH T j) (tB T j)) ⟨a,q.wn,q.wn+b,q.wf⟩ c d e f g i) H=some x→(H=tH T j∧x=slN (tH T j) (tI T j) (ν (tH T j) (tB T j)) ⟨a,q.wn,q.wn+b,q.wf⟩ c d e f g i)∨(H≠tH T j∧slX X H=some x):=fun H x hx=>by
        rw [hsl] at hx
        split at hx
        · rename_i e0; injection hx with hx; exact .inl ⟨e0,hx.symm⟩
        · rename_i e0; exact .inr ⟨e0,hx⟩
      have hnone:∀ k ∈ js,accT T X.n X.s k=true→tH T k≠tH T j:=fun k hk hkc e0=>h.no k hk hkc (e0 ▸ hs)
      refine⟨hok,hdd,fun x hx=>?_,fun k hk hkc=>?_,fun H x hx v=>?_,fun H x hx z hz=>?_,fun H x hx k hk hkc hkH=>?_,fun H x hx w hw=>?_⟩
      · rcases List.mem_append.1 hx with hx | hx
        · exact h.key x hx
        · rw [List.mem_singleton.1 hx]; exact tH_two T j
      · rw [hsl]
        split
        · exact fun c=>by cases c
        · rename_i e0
          rcases List.mem_append.1 hk with hk | hk
          · exact h.no k hk hkc
          · rw [List.mem_singleton.1 hk] at e0; exact absurd rfl e0
      · rw [lsum_snoc]
        rcases hnew H x hx with ⟨rfl,rfl⟩ | ⟨e0,hx⟩
        · have hz : lsum (wtT T ν X.s X.n (tH T j) v) js = 0 := by
            have:∀ l:List Nat,(∀ k ∈ l,k ∈ js)→lsum (wtT T ν X.s X.n (tH T j) v) l=0:=fun l=>by
              induction l with
              | nil=>intro _; rfl
              | cons k l ih =>
                intro hl
                show wtT T ν X.s X.n (tH T j) v k+_=0
                rw [ih fun z hz=>hl z (.tail _ hz)]
                unfold wtT
                cases hkc:accT T X.n X.s k with
                | false=>rfl
                | true =>
                  have:=hnone k (hl k (.head _)) hkc
                  rw [show(tH T k == tH T j)=false by simpa using this]
                  rfl
            exact this js fun k hk=>hk
          show forN X.s [(tI T j,ν (tH T j) (tB T j))] v=lsum (wtT T ν X.s X.n (tH T j) v) js+wtT T ν X.s X.n (tH T j) v j
          rw [hz]
          have e1:=forN_app (s:=X.s) (F:=[]) (tI T j,ν (tH T j) (tB T j)) v
          rw [List.nil_append] at e1
          rw [e1]
          unfold wtT
          rw [hac]
          simp only [Bool.true_and,beq_self_eq_true]
          show forN X.s [] v+(if sR _ v=true then (X.s (Int.toNat ((tW T j:Nat):Int))).toNat else 0)=0+_
          rw [Int.toNat_natCast]
          rfl
        · show forN X.s x.F v=lsum (wtT T ν X.s X.n H v) js+wtT T ν X.s X.n H v j
          rw [show wtT T ν X.s X.n H v j=0 by
            unfold wtT
            rw [show(tH T j == H)=false by simpa using fun c=>e0 c.symm]
            simp]
          exact h.sum H x hx v
      · rcases hnew H x hx with ⟨rfl,rfl⟩ | ⟨e0,hx⟩
        · rw [List.mem_singleton.1 hz]
          exact⟨j,by simp,hac,rfl,rfl,hl,hf⟩
        · obtain⟨k,hk,h1⟩:=h.src H x hx z hz
          exact⟨k,List.mem_append_left _ hk,h1⟩
      · rcases hnew H x hx with ⟨rfl,rfl⟩ | ⟨e0,hx⟩
        · rcases List.mem_append.1 hk with hk | hk
          · exact absurd hkH (hnone k hk hkc)
          · rw [List.mem_singleton.1 hk]
            exact⟨_,.head _,sR_refl _⟩
        · rcases List.mem_append.1 hk with hk | hk
          · exact h.cov H x hx k hk hkc hkH
          · rw [List.mem_singleton.1 hk] at hkH; exact absurd hkH.symm e0
      · rcases hnew H x hx with ⟨rfl,rfl⟩ | ⟨e0,hx⟩
        · refine⟨j,by simp,rfl,?_⟩
          have:findE eqI w [(tI T j,ν (tH T j) (tB T j))]≠none:=hw
          simp only [findE] at this
          split at this
          · rename_i e1; exact eq_of_beq e1
          · exact absurd rfl this
        · obtain⟨k,hk,h1⟩:=h.who H x hx w hw
          exact⟨k,List.mem_append_left _ hk,h1⟩
  | some x =>
    obtain⟨m,hm,hxl,hxk,_,_⟩:=sl_at hs
    have hF:findE eqI (tI T j) x.F=none:=by
      cases hc:findE eqI (tI T j) x.F with
      | none=>rfl
      | some z =>
        exfalso
        obtain⟨k,hk,h1,h2⟩:=h.who (tH T j) x hs (tI T j) (by rw [hc]; exact fun z=>by cases z)
        have:tW T j=tW T k:=by unfold tI at h2; omega
        exact hj (t_inj h1.symm this ▸ hk)
    cases hac:accT T X.n X.s j with
    | false =>
      have he:voteE X.n X.s x.F (tI T j) (ν (tH T j) (tB T j))≠0∧voteE X.n X.s x.F (tI T j) (ν (tH T j) (tB T j))≠52:=by
        rcases(hE x.F hF).2 hac with e | e <;> rw [e] <;> exact⟨by decide,by decide⟩
      rw [(hear_3 (w:=tI T j) (v:=ν (tH T j) (tB T j)) hb hs hm).2]
      have e1:hrO X m x (tI T j) (ν (tH T j) (tB T j)) ⟨a,q.wn,q.wn+b,q.wf⟩=X:=by
        have e2:slU X x (tI T j) (ν (tH T j) (tB T j)) (rowB ⟨a,q.wn,q.wn+b,q.wf⟩)=x:=by
          unfold slU
          rw [voteF_no he.1,if_neg he.1,show voteA X.n X.s x.F x.A (tI T j) (ν (tH T j) (tB T j))=x.A from if_neg he.2]
        unfold hrO
        rw [e2,if_neg he.1,set_same hxl]
      rw [e1]
      exact same hac
    | true =>
      have he:=(hE x.F hF).1 hac
      have hvn:=(voteF_new he).1
      rw [(hear_3 (w:=tI T j) (v:=ν (tH T j) (tB T j)) hb hs hm).2] at hns hok hdd ⊢
      have hsl:=slX_O h.ok h.d hxl (tI T j) (ν (tH T j) (tB T j)) ⟨a,q.wn,q.wn+b,q.wf⟩
      have hnew:∀ H z,slX (hrO X m x (tI T j) (ν (tH T j) (tB T j)) ⟨a,q.wn,q.wn+b,q.wf⟩) H=some z→(H=tH T j∧z=slU X x (tI T j) (ν (tH T j) (tB T j)) (rowB ⟨a,q.wn,q.wn+b,q.wf⟩))∨(H≠tH T j∧slX X H=some z):=fun H z hz=>by
        rw [hsl,hxk] at hz
        split at hz
        · rename_i e0; injection hz with hz; exact .inl ⟨e0,hz.symm⟩
        · rename_i e0; exact .inr ⟨e0,hz⟩
      have hUF:(slU X x (tI T j) (ν (tH T j) (tB T j)) (rowB ⟨a,q.wn,q.wn+b,q.wf⟩)).F=x.F ++ [(tI T j,ν (tH T j) (tB T j))]:=hvn
      have hUB:(slU X x (tI T j) (ν (tH T j) (tB T j)) (rowB ⟨a,q.wn,q.wn+b,q.wf⟩)).B=putE sR (ν (tH T j) (tB T j)) (rowB ⟨a,q.wn,q.wn+b,q.wf⟩) x.B:=if_pos he
      refine⟨hok,hdd,fun z hz=>?_,fun k hk hkc=>?_,fun H z hz v=>?_,fun H z hz y hy=>?_,fun H z hz k hk hkc hkH=>?_,fun H z hz w hw=>?_⟩
      · rcases List.mem_or_eq_of_mem_set hz with h1 | h1
        · exact h.key z h1
        · rw [h1]; show x.key=0∨x.key=1
          rw [hxk]; exact tH_two T j
      · rw [hsl]
        split
        · exact fun c=>by cases c
        · rename_i e0
          rcases List.mem_append.1 hk with hk | hk
          · exact h.no k hk hkc
          · rw [List.mem_singleton.1 hk,hxk] at e0; exact absurd rfl e0
      · rw [lsum_snoc]
        rcases hnew H z hz with ⟨rfl,rfl⟩ | ⟨e0,hz⟩
        · rw [hUF]
          show forN X.s _ v=lsum (wtT T ν X.s X.n (tH T j) v) js+wtT T ν X.s X.n (tH T j) v j
          rw [forN_app,h.sum (tH T j) x hs v]
          congr 1
          unfold wtT
          rw [hac]
          simp only [Bool.true_and,beq_self_eq_true]
          show(if sR _ v=true then (X.s (Int.toNat ((tW T j:Nat):Int))).toNat else 0)=_
          rw [Int.toNat_natCast]
        · show forN X.s z.F v=lsum (wtT T ν X.s X.n H v) js+wtT T ν X.s X.n H v j
          rw [show wtT T ν X.s X.n H v j=0 by
            unfold wtT
            rw [show(tH T j == H)=false by simpa using fun c=>e0 c.symm]
            simp]
          exact h.sum H z hz v
      · rcases hnew H z hz with ⟨rfl,rfl⟩ | ⟨e0,hz⟩
        · rw [hUB] at hy
          rcases mem_put eqv_row hy with rfl | hy
          · exact⟨j,by simp,hac,rfl,rfl,hl,hf⟩
          · obtain⟨k,hk,h1⟩:=h.src _ x hs y hy
            exact⟨k,List.mem_append_left _ hk,h1⟩
        · obtain⟨k,hk,h1⟩:=h.src H z hz y hy
          exact⟨k,List.mem_append_left _ hk,h1⟩
      · rcases hnew H z hz with ⟨rfl,rfl⟩ | ⟨e0,hz⟩
        · rw [hUB]
          have hput:∀ u:Nat→UInt8,(∃ e ∈ x.B,sR e.1 u=true)∨sR (ν (tH T j) (tB T j)) u=true→∃ e ∈ putE sR (ν (tH T j) (tB T j)) (rowB ⟨a,q.wn,q.wn+b,q.wf⟩) x.B,sR e.1 u=true:=fun u hu=>by
            obtain⟨p1,hp1,hp2,_⟩:=find_mem eqv_row (find_put_same eqv_row (ν (tH T j) (tB T j)) (rowB ⟨a,q.wn,q.wn+b,q.wf⟩) x.B)
            by_cases hc:sR (ν (tH T j) (tB T j)) u=true
            · exact⟨p1,hp1,sR_trans (sR_symm hp2) hc⟩
            · rcases hu with ⟨e,he1,he2⟩ | hu
              · have h1 : findE sR u x.B = some e.2 := by
                  rw [find_congr eqv_row (sR_symm he2)]
                  exact KD.find eqv_row (h.ok.kd x (List.mem_of_getElem? hxl)) he1
                rw [← find_put_other eqv_row (by rw [sR_comm]; simpa using hc) (rowB ⟨a,q.wn,q.wn+b,q.wf⟩)] at h1
                obtain⟨p3,hp3,hp4,_⟩:=find_mem eqv_row h1
                exact⟨p3,hp3,sR_symm hp4⟩
              · exact absurd hu hc
          rcases List.mem_append.1 hk with hk | hk
          · exact hput _ (.inl (h.cov _ x hs k hk hkc hkH))
          · rw [List.mem_singleton.1 hk]; exact hput _ (.inr (sR_refl _))
        · rcases List.mem_append.1 hk with hk | hk
          · exact h.cov H z hz k hk hkc hkH
          · rw [List.mem_singleton.1 hk] at hkH; exact absurd hkH.symm e0
      · rcases hnew H z hz with ⟨rfl,rfl⟩ | ⟨e0,hz⟩
        · rw [hUF] at hw
          by_cases hc:w=tI T j
          · exact⟨j,by simp,rfl,hc⟩
          · have h1 : findE eqI w x.F ≠ none := fun h2 => hw (by
              rw [← put_none hF,find_put_other eqvI (by simpa [eqI] using hc)]; exact h2)
            obtain⟨k,hk,h3⟩:=h.who _ x hs w h1
            exact⟨k,List.mem_append_left _ hk,h3⟩
        · obtain⟨k,hk,h1⟩:=h.who H z hz w hw
          exact⟨k,List.mem_append_left _ hk,h1⟩
theorem lst_found {s:Nat→UInt64} {n:Nat} {F:Fst} {B:Bks} {i:Nat} (hi:i < B.length) (h:thB s n F B i=true):(lstB s n F B).2=true:=by
  rcases lst_is (s:=s) (n:=n) (F:=F) (B:=B) (List.range B.length) with ⟨_,a2⟩ | ⟨a1,_⟩
  · rw [a2 i (List.mem_range.2 hi)] at h; cases h
  · exact a1
theorem lst_min {s:Nat→UInt64} {n:Nat} {F:Fst} {B:Bks} (h:(lstB s n F B).2=true):∀ i,i < B.length→thB s n F B i=true→¬ LtR (nmB B i) (lstB s n F B).1:=by
  rcases lst_is (s:=s) (n:=n) (F:=F) (B:=B) (List.range B.length) with ⟨a1,_⟩ | ⟨_,k,_,_,a4,a5⟩
  · change lstB s n F B=_ at a1; rw [a1] at h; cases h
  · intro i hi ht
    change (lstB s n F B).1=nmB B k at a4
    rw [a4]; exact a5 i (List.mem_range.2 hi) ht
theorem bv_half {Y : ChR} {ks : List Nat} (h : InvT T ν X js) (h' : InvT T ν Y ks) (hn : X.n = Y.n) (hS : X.s = Y.s) (hm : ∀ j, j ∈ js → j ∈ ks) (hl : ∀ g : Nat → Nat, lsum g js = lsum g ks) {H : UInt64} {x : Slot} (hx : slX X H = some x) {i : Nat} (hi : i < x.B.length) (ht : thB X.s X.n x.F x.B i = true) :
    ∃ y,slX Y H=some y∧∃ k,k < y.B.length∧thB Y.s Y.n y.F y.B k=true∧sR (nmB y.B k) (nmB x.B i)=true:=by
  obtain⟨j,hj,hac,hH,he1,_⟩:=h.src H x hx _ (at_mem (d:=rB0) hi)
  have hac':accT T Y.n Y.s j=true:=by rw [← hn,← hS]; exact hac
  cases hy:slX Y H with
  | none=>exact absurd (hH ▸ hy) (h'.no j (hm j hj) hac')
  | some y =>
    refine⟨y,rfl,?_⟩
    obtain⟨e,he,hse⟩:=h'.cov H y hy j (hm j hj) hac' hH
    obtain⟨k,hk,hke⟩:=mem_at rB0 he
    have hsr:sR (nmB y.B k) (nmB x.B i)=true:=by
      show sR (kvAt rB0 y.B k).1 (kvAt rB0 x.B i).1=true
      rw [hke,he1]; exact hse
    refine⟨k,hk,?_,hsr⟩
    have hxl:x ∈ X.l:=by obtain⟨_,_,z,_⟩:=sl_at hx; exact List.mem_of_getElem? z
    have hyl:y ∈ Y.l:=by obtain⟨_,_,z,_⟩:=sl_at hy; exact List.mem_of_getElem? z
    have hV:=h.ok.vok x hxl
    have hV':=h'.ok.vok y hyl
    have e1:forN Y.s y.F (nmB y.B k)=forN X.s x.F (nmB x.B i):=by
      rw [forN_congr hsr,h'.sum H y hy,h.sum H x hx,hl,hn,hS]
    have e2:forV Y.s y.F (nmB y.B k)=forV X.s x.F (nmB x.B i):=by unfold forV; rw [e1]
    unfold thB at ht ⊢
    rw [e2,← hn,← hS]; exact ht
theorem bv_one {Y:ChR} {ks:List Nat} (h:InvT T ν X js) (h':InvT T ν Y ks) (hn:X.n=Y.n) (hS:X.s=Y.s) (hm:∀ j,j ∈ js→j ∈ ks) (hl:∀ g:Nat→Nat,lsum g js=lsum g ks) {H:UInt64} (hb:bvF X H=true):bvF Y H=true:=by
  obtain⟨x,hx,hf⟩:=bv_slot hb
  obtain⟨i,hi,ht,_⟩:=lst_yes hf
  obtain⟨y,hy,k,hk,hkt,_⟩:=bv_half h h' hn hS hm hl hx hi ht
  unfold bvF; rw [hy]; exact lst_found hk hkt
end
end Go.Eng
end
section
namespace Go.Eng
section
variable {T:TnR} {ν:UInt64→UInt8→Nat→UInt8} {X Y:ChR} {js ks:List Nat}
theorem look_half (hν : NmT ν) (h : InvT T ν X js) (h' : InvT T ν Y ks) (hn : X.n = Y.n) (hS : X.s = Y.s) (hm : ∀ j, j ∈ js → j ∈ ks) {H : UInt64} {x : Slot} (hx : slX X H = some x) {v : Nat → UInt8} {e : BytL} (he : findE sR v x.B = some e) :
    ∃ y e',slX Y H=some y∧findE sR v y.B=some e'∧e.wn=e'.wn∧e.wf=e'.wf:=by
  obtain⟨p,hp,hpv,rfl⟩:=find_mem eqv_row he
  obtain⟨j,hj,hac,hH,e1,e2,e3⟩:=h.src H x hx p hp
  have hac':accT T Y.n Y.s j=true:=by rw [← hn,← hS]; exact hac
  cases hy:slX Y H with
  | none=>exact absurd (hH ▸ hy) (h'.no j (hm j hj) hac')
  | some y =>
    obtain⟨q,hq,hqv⟩:=h'.cov H y hy j (hm j hj) hac' hH
    have hyl:y ∈ Y.l:=by obtain⟨_,_,z,_⟩:=sl_at hy; exact List.mem_of_getElem? z
    have h1:sR v q.1=true:=sR_trans hpv (sR_symm (by rw [e1]; exact hqv))
    have h2:findE sR v y.B=some q.2:=by rw [find_congr eqv_row h1]; exact KD.find eqv_row (h'.ok.kd y hyl) hq
    obtain⟨m,_,_,m1,m2,m3,m4⟩:=h'.src H y hy q hq
    have hB:tB T j=tB T m:=by
      refine hν.eq (H:=H) (hH ▸ tH_two T j) (tB_two T j) (tB_two T m) ?_
      rw [m2] at hqv; exact sR_symm hqv
    refine⟨y,q.2,rfl,h2,?_,?_⟩
    · rw [e2,m3]; unfold tL; rw [hB,hH,m1]
    · rw [e3,m4]; unfold tF; rw [hB,hH,m1]
theorem least_eq (h : InvT T ν X js) (h' : InvT T ν Y ks) (hn : X.n = Y.n) (hS : X.s = Y.s) (hm : ∀ j, j ∈ js ↔ j ∈ ks) (hl : ∀ g : Nat → Nat, lsum g js = lsum g ks) {H : UInt64} {x y : Slot} (hx : slX X H = some x) (hy : slX Y H = some y) :
    sR (lstB X.s X.n x.F x.B).1 (lstB Y.s Y.n y.F y.B).1=true:=by
  have hf:(lstB X.s X.n x.F x.B).2=bvF X H:=by unfold bvF; rw [hx]
  have hg:(lstB Y.s Y.n y.F y.B).2=bvF Y H:=by unfold bvF; rw [hy]
  have hff:bvF X H=bvF Y H:=Bool.eq_iff_iff.2 ⟨bv_one h h' hn hS (fun j=>(hm j).1) hl,bv_one h' h hn.symm hS.symm (fun j=>(hm j).2) fun g=>(hl g).symm⟩
  cases hb:bvF X H with
  | false =>
    have z1:∀ {s:Nat→UInt64} {n:Nat} {F:Fst} {B:Bks},(lstB s n F B).2=false→(lstB s n F B).1=fun _=>0:=fun {s n F B} h0=>by
      rcases lst_is (s:=s) (n:=n) (F:=F) (B:=B) (List.range B.length) with ⟨a1,_⟩ | ⟨a1,_⟩
      · change lstB s n F B=_ at a1; rw [a1]
      · change (lstB s n F B).2=true at a1; rw [h0] at a1; cases a1
    rw [z1 (hf.trans hb),z1 (hg.trans (hff ▸ hb))]
    exact sR_refl _
  | true =>
    have hf':=hf.trans hb
    have hg':=hg.trans (hff ▸ hb)
    obtain⟨i,hi,ht,hit⟩:=lst_yes hf'
    obtain⟨k,hk,hkt,hkk⟩:=lst_yes hg'
    rcases LtR.tri (lstB X.s X.n x.F x.B).1 (lstB Y.s Y.n y.F y.B).1 with h1 | h1 | h1
    · obtain⟨y2,hy2,m,hm1,hm2,hm3⟩:=bv_half h h' hn hS (fun j=>(hm j).1) hl hx hi ht
      rw [hy] at hy2; injection hy2 with hy2; subst hy2
      rw [hit] at h1
      exact absurd (h1.congr_l (sR_symm hm3)) (lst_min hg' m hm1 hm2)
    · exact h1
    · obtain⟨x2,hx2,m,hm1,hm2,hm3⟩:=bv_half h' h hn.symm hS.symm (fun j=>(hm j).2) (fun g=>(hl g).symm) hy hk hkt
      rw [hx] at hx2; injection hx2 with hx2; subst hx2
      rw [hkk] at h1
      exact absurd (h1.congr_l (sR_symm hm3)) (lst_min hf' m hm1 hm2)
structure BelA (X Y:ChR) (H:UInt64):Prop where
  f:bvF X H=bvF Y H
  n:(bvB X H).wn=(bvB Y H).wn
  w:(bvB X H).wf=(bvB Y H).wf
theorem bv_all (hν:NmT ν) (h:InvT T ν X js) (h':InvT T ν Y ks) (hn:X.n=Y.n) (hS:X.s=Y.s) (hm:∀ j,j ∈ js ↔ j ∈ ks) (hl:∀ g:Nat→Nat,lsum g js=lsum g ks) (H:UInt64):BelA X Y H:=by
  have hff:bvF X H=bvF Y H:=Bool.eq_iff_iff.2 ⟨bv_one h h' hn hS (fun j=>(hm j).1) hl,bv_one h' h hn.symm hS.symm (fun j=>(hm j).2) fun g=>(hl g).symm⟩
  have hb:∀ {Z:ChR} {z:Slot},slX Z H=some z→bvB Z H=(findE sR (lstB Z.s Z.n z.F z.B).1 z.B).getD (bytZ none 0):=fun {Z z} hz=>by unfold bvB; rw [hz]
  have hz:∀ {Z:ChR},slX Z H=none→bvB Z H=bytZ none 0:=fun {Z} hz=>by unfold bvB; rw [hz]
  have key:(bvB X H).wn=(bvB Y H).wn∧(bvB X H).wf=(bvB Y H).wf:=by
    cases hx:slX X H with
    | none =>
      cases hy:slX Y H with
      | none=>rw [hz hx,hz hy]; exact⟨rfl,rfl⟩
      | some y =>
        rw [hz hx,hb hy]
        cases hf:findE sR (lstB Y.s Y.n y.F y.B).1 y.B with
        | none=>exact⟨rfl,rfl⟩
        | some e =>
          obtain⟨x,_,hx2,_⟩:=look_half hν h' h hn.symm hS.symm (fun j=>(hm j).2) hy hf
          rw [hx] at hx2; cases hx2
    | some x =>
      cases hy:slX Y H with
      | none =>
        rw [hz hy,hb hx]
        cases hf:findE sR (lstB X.s X.n x.F x.B).1 x.B with
        | none=>exact⟨rfl,rfl⟩
        | some e =>
          obtain⟨y,_,hy2,_⟩:=look_half hν h h' hn hS (fun j=>(hm j).1) hx hf
          rw [hy] at hy2; cases hy2
      | some y =>
        have hs:=least_eq h h' hn hS hm hl hx hy
        rw [hb hx,hb hy,← find_congr eqv_row hs]
        cases hf:findE sR (lstB X.s X.n x.F x.B).1 x.B with
        | none =>
          cases hg:findE sR (lstB X.s X.n x.F x.B).1 y.B with
          | none=>exact⟨rfl,rfl⟩
          | some e =>
            obtain⟨x2,e2,hx2,h3,_⟩:=look_half hν h' h hn.symm hS.symm (fun j=>(hm j).2) hy hg
            rw [hx] at hx2; injection hx2 with hx2; subst hx2
            rw [hf] at h3; cases h3
        | some e =>
          obtain⟨y2,e2,hy2,h3,h4,h5⟩:=look_half hν h h' hn hS (fun j=>(hm j).1) hx hf
          rw [hy] at hy2; injection hy2 with hy2; subst hy2
          rw [h3]; exact⟨h4,h5⟩
  exact⟨hff,key.1,key.2⟩
end
theorem run_eq {X Y:ChR} (hX:ChOk X) (hB:∀ H,BelA X Y H) (k:UInt64):rnN X k=rnN Y k:=by
  unfold rnN
  rw [show(fun j=>!bvF X (upK k j))=fun j=>!bvF Y (upK k j) from funext fun j=>by rw [(hB (upK k j)).f]]
noncomputable def hrY (X:ChR) (k:UInt64) (w:Int) (y:BytL) (v:Nat→UInt8) (a b c d e f g i:Nat):ChR:=⟨X.p,X.h,X.sp,X.sr,X.n,X.s,X.D,(hrX X k w y v a b c d e f g i).l,(hrX X k w y v a b c d e f g i).R⟩
theorem hrY_eq (X:ChR) (k:UInt64) (w:Int) (y:BytL) (v:Nat→UInt8) (a b c d e f g i:Nat):hrY X k w y v a b c d e f g i=hrX X k w y v a b c d e f g i:=by
  unfold hrY hrX
  split
  · rfl
  · split
    · rfl
    · split
      · rfl
      · split <;> rfl
structure WrdL where
  wa:Option Addr
  wn:Nat
  wc:Nat
  wb:Nat
  wo:Nat
  wf:Nat→UInt64
def slqU (q:WrdL):Value:=.slice q.wa q.wn q.wc
def wrdB (q:WrdL):Blk:=⟨q.wb,false,q.wo,tabF q.wn fun k=>u64 (q.wf k)⟩
structure OkU (q:WrdL):Prop where
  cap:q.wn≤q.wc
  ad:0 < q.wn→q.wa=some ⟨q.wb,q.wo,none⟩
  len:q.wn≤9223372036854775807
def famU (q:WrdL) (b:Blk):Prop:=0 < q.wn∧b=wrdB q
section
open Go.RowKit Go.WideShapes Go.ChangeShapes Go.ChangeAt Go.Deep
variable {H:Type} {enc:TypeId × Value→H} {P:Program}
theorem open_words {r : Reach} {b0 : Nat} {W : World} {base : Nat} {sp : Nat → Bool} {held : Bool} {t e : TypeId} {v : Value} {d : DataW H} {ps : List MemPlace} (ht : P.underlying t = some (.slice e)) (he : P.underlying e = some (.int .u64))
    (hc:P.cellsOf e=1) (hval:Value.okWide P W r b0 t v) (hd:DataW.Trod enc P W base sp held t v d ps):∃ q:WrdL,v = .slice q.wa q.wn q.wc∧OkU q∧FamH (famU q) W:=by
  obtain⟨a1,len,cap,rfl⟩:=okWide_slice ht hval
  obtain⟨fuel,hf⟩:=hd
  obtain⟨wa,wn,wc,wb,wo,f,e1,e2,e3,e4,_,e6⟩:=slice1_cell (α:=UInt64) u64 (fun _=>True) ht hc (fun n v x hx=>by
    obtain⟨z,hz⟩:=u64_cell he hx
    exact⟨z,hz,trivial⟩) hf
  injection e1 with h1 h2 h3
  subst h1 h2 h3
  exact⟨⟨a1,len,cap,wb,wo,f⟩,rfl,⟨e2,e3,e4⟩,fun b ⟨h0,hb⟩=>by subst hb; exact⟨e6 h0,rfl⟩⟩
end
def tnR (y z:BytL):TnR:=⟨y.wn,y.wf,z.wf⟩
section
variable {y z:BytL} {i:Nat}
theorem tn_1 (h:i < y.wn):blN 0 (bOne (y.wf i % 2+1))=tL (tnR y z) i∧blF 0 (bOne (y.wf i % 2+1))=tF (tnR y z) i∧(0:UInt64)=tH (tnR y z) i∧((i:Nat):Int)=tI (tnR y z) i:=by
  have h':i < (tnR y z).n1:=h
  unfold tL tF tI tH tW tB
  simp only [if_pos h']
  exact⟨rfl,rfl,trivial,trivial⟩
theorem tn_2:blN 1 (bOne (z.wf i % 2+1))=tL (tnR y z) (y.wn+i)∧blF 1 (bOne (z.wf i % 2+1))=tF (tnR y z) (y.wn+i)∧(1:UInt64)=tH (tnR y z) (y.wn+i)∧((i:Nat):Int)=tI (tnR y z) (y.wn+i):=by
  have h':¬ (y.wn+i < (tnR y z).n1):=fun c=>by
    have:y.wn+i < y.wn:=c
    omega
  have e:y.wn+i - (tnR y z).n1=i:=Nat.add_sub_cancel_left ..
  unfold tL tF tI tH tW tB
  simp only [if_neg h',e]
  exact⟨rfl,rfl,trivial,trivial⟩
end
theorem tL_3000 (T:TnR) (k:Nat):tL T k≤3000:=Nat.le_trans (blN_rng (show(1:Nat)≤1000 by decide)).2 (by decide)
end Go.Eng
namespace Go.Eng
theorem rn_le (X:ChR) (k:UInt64):rnN X k≤20:=by
  unfold rnN
  cases h:(List.range 21).find? fun j=>!bvF X (upK k j) with
  | none=>exact Nat.zero_le _
  | some j =>
    have:=List.mem_range.1 (List.mem_of_find?_eq_some h)
    show j≤20; omega
theorem bv_ok {X:ChR} (hX:ChOk X) (k:UInt64) (a r:Nat):(clG (bvB X k) a r).ok:=fun hz=>by
  show(bvB X k).wn=0
  have h1:OkB (bvB X k):=by
    unfold bvB
    cases hs:slX X k with
    | none=>exact okb_nil
    | some x =>
      obtain⟨i,_,hi,_⟩:=sl_at hs
      exact(hX.look_ok (List.mem_of_getElem? hi) _).1
  refine Nat.eq_zero_of_not_pos fun h0=>?_
  have h2:=h1.ad h0
  have hz':(bvB X k).wa.isNone=true:=hz
  rw [h2] at hz'; cases hz'
end Go.Eng
namespace Go.Eng
theorem is_eqBB {P:Program} {t t':TypeId} {x y:Operand} (hb:P.underlying t=some .bool) {a b:Bool} (h:a=b):IsOp P (.binOp .eql t x y t') [.bool a,.bool b] (.bool true):=by
  subst h
  have h2:=@is_eqlB P t t' x y hb a a
  rwa [beq_self_eq_true] at h2
theorem turn_10 {a b c:Nat} (h:¬ (a≤10∧b≤10∧c≤10)):selB (selB (selB false true (decide (10 < a))) true (decide (10 < b))) true (decide (10 < c))=true:=by
  rw [selB_or,selB_or,selB_or]
  simp only [Bool.false_or,Bool.or_eq_true,decide_eq_true_iff]
  omega
theorem turn_11 {a b c:Nat} (h:a≤10∧b≤10∧c≤10):selB (selB (selB false true (decide (10 < a))) true (decide (10 < b))) true (decide (10 < c))=false:=by
  rw [selB_or,selB_or,selB_or]
  simp only [Bool.false_or,Bool.or_eq_false_iff,decide_eq_false_iff_not]
  omega
theorem turn_bel {T:TnR} {ν:UInt64→UInt8→Nat→UInt8} (hν:NmT ν) {X Y:ChR} {m i:Nat} (e:i=m) (h:InvT T ν X (List.range i)) (h':InvT T ν Y (revL m i)) (hn:X.n=Y.n) (hS:X.s=Y.s) (H:UInt64):BelA X Y H:=by
  subst e
  exact bv_all hν h h' hn hS (fun j=>by rw [List.mem_range,rev_mem]) (fun g=>(lsum_rev g i).symm) H
end Go.Eng
end
