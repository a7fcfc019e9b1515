/-
  Many in one: Maps2, Share, Share2, ShareSm, Share3, ShareOp, LendQ, Share4.
-/
import Derived.Test.YtmhhdnfidbednaaGreatZShareSums11
import Derived.ChangeSame
import Derived.Maps.RangeRun
set_option linter.unusedVariables false
set_option linter.unusedSimpArgs false
set_option maxRecDepth 100000
set_option maxHeartbeats 1000000
section
namespace Go.Eng
open Go.WideShapes Go.ChangeShapes Go.ChangeAt
section
variable {α β:Type} {P:Program} {mt kt et:TypeId} {kv:α→Value} {ev:β→Value} {z:β} {eqb:α→α→Bool}
theorem findNow_eq {kd:TypeDesc} (hs:∀ k h,Instr.sameNow kd (kv k) (kv h)=some (eqb k h)) (k:α):∀ (l:List (α × β)) (n i:Nat),Instr.findNow kd (kv k) (entsL kv ev l n) i=some ((findI eqb k l i).map fun p=>(p.1,ev p.2))
  | [],_,_=>rfl
  | (h,x) :: r,n,i=>by
    simp only [entsL,Instr.findNow,hs,findI]
    cases e:eqb k h with
    | true=>simp
    | false=>simpa using findNow_eq hs k r (n+1) (i+1)
theorem mapT_now {kd : TypeDesc} (hm : P.underlying mt = some (.map kt et)) (hk : P.underlying kt = some kd) (hs : ∀ k h, Instr.sameNow kd (kv k) (kv h) = some (eqb k h))
    (chk:∀ em k w,(Instr.checkKey em 10000 kt (kv k)).run P w = .ok () w) (eqr:∀ k h w,(Op.equal kt (kv k) (kv h)).run P w = .ok (eqb k h) w) (eqv:∀ k h,eqb k h=true→Instr.sameBits 10000 (kv h) (kv k)=true) (zer:∀ w,(zeroValue et).run P w = .ok (ev z) w) :
    MapT P mt kt et kv ev z eqb:=⟨hm,chk,fun k l n w=>MapKept.run_findKey hk (findNow_eq hs k l n 0),eqr,eqv,zer⟩
end
section
variable {P:Program} {mt kt et:TypeId} {β:Type} {ev:β→Value} {z:β}
theorem int_keys (hm:P.underlying mt=some (.map kt et)) (hk:P.underlying kt=some (.int .i64)) (hz:∀ w,(zeroValue et).run P w = .ok (ev z) w):MapT P mt kt et int ev z (fun a b:Int=>a == b) :=
  mapT_now hm hk (fun _ _=>rfl) (fun em k w=>by unfold Instr.checkKey; simp [run_underlying hk,int]) (fun k h w=>by
    have:pureRun P (Op.equal kt (int k) (int h))=some (k == h):=by
      show pureRun P (Op.equalIn (9999+1) kt (.int .i64 k) (.int .i64 h))=_
      unfold Op.equalIn; rw [pureRun_bind',pureRun_underlying hk]; rfl
    exact pureRun_run this w) (fun k h e=>by rw [eq_of_beq e]; simp [Instr.sameBits,int]) hz
end
end Go.Eng
end
section
namespace Go.Eng
def dN (d:Bool) (n:Nat):Bool:=match n with
  | 0=>d
  | _+1=>true
def horK (m z:N4) (f:Nat→N4) (n k:Nat):N4:=(cameL n k).foldl (stepV m z f) ⟨0,0,0,0⟩
theorem horK_none (m z:N4) (f:Nat→N4) (n:Nat):horK m z f n n=⟨0,0,0,0⟩:=by unfold horK; rw [cameL_none]; rfl
theorem horK_step {m z v:N4} {f:Nat→N4} {n k:Nat} (hk:0 < k) (hn:k≤n) (hv:v=horK m z f n k):sumM m (nrow2 (timesM m z v) (f (k - 1))) 2=horK m z f n (k - 1):=by
  subst hv
  have h:=cameL_next (n:=n) (k:=k - 1) (by omega)
  rw [show k - 1+1=k by omega] at h
  unfold horK
  rw [h,List.foldl_append]
  rfl
theorem dN_step {d e:Bool} {n k:Nat} (hk:0 < k) (hn:k≤n):true=dN d (n - (k - 1)):=by
  rw [show n - (k - 1)=(n - k)+1 by omega]; rfl
theorem famN_at {x:NumL} {i:Nat} (h:i < x.ln):famN x (numB x):=⟨by omega,rfl⟩
def placeN (x:Int):N4:=⟨UInt64.ofNat x.toNat+1,0,0,0⟩
def pwN (Q a:N4):Nat→N4
  | 0=>N4.mk 1 0 0 0
  | k+1=>timesM Q (pwN Q a k) a
structure PieR where
  s:Int
  h:N4
instance:Inhabited PieR:=⟨⟨0,⟨0,0,0,0⟩⟩⟩
def pieC (x:PieR):List Value:=[int x.s,u64 x.h.a,u64 x.h.b,u64 x.h.c,u64 x.h.d]
def tabC (n:Nat) (f:Nat→PieR):Cont:=.tab n 5 fun k=>pieC (f k)
structure PieL where
  la:Option Addr
  ln:Nat
  lc:Nat
  lb:Nat
  lo:Nat
  lf:Nat→PieR
def pieB (q:PieL):Blk:=⟨q.lb,false,q.lo,tabC q.ln q.lf⟩
structure OkC (q:PieL):Prop where
  cap:q.ln≤q.lc
  ad:0 < q.ln→q.la=some ⟨q.lb,q.lo,none⟩
  len:q.ln≤9223372036854775807
def famC (q:PieL) (b:Blk):Prop:=0 < q.ln∧b=pieB q
def famNC (x:NumL) (y:PieL) (b:Blk):Prop:=famN x b∨famC y b
theorem famC_at {x:PieL} {i:Nat} (h:i < x.ln):famC x (pieB x):=⟨by omega,rfl⟩
theorem famNC_y {x:NumL} {y:PieL} {i:Nat} (h:i < y.ln):famNC x y (pieB y):=.inr ⟨by omega,rfl⟩
theorem famNC_l {x:NumL} {y:PieL}:∀ b,famN x b→famNC x y b:=fun _ h=>.inl h
theorem famNC_r {x:NumL} {y:PieL}:∀ b,famC y b→famNC x y b:=fun _ h=>.inr h
def fewB (n:Nat):Bool:=selB (decide (1≤n)) (decide (n≤20)) false
def belB (Q a:N4):Bool:=decide ((cmp4 a Q:Int) < 0)
def askA (Q:N4) (n:Nat) (s:Int):Bool:=selB (selB (selB (fewB n) (decide ((s:Int) ≥ 0)) false) (decide ((s:Int) < 40)) false) (belB Q (placeN s)) false
def boundV (P Q:N4) (l:Nat→N4) (n:Nat) (s:Int):N4:=multiV P Q l (cutN n (pwN Q (placeN s))) n n
def boundE (P Q:N4) (l:Nat→N4) (n:Nat) (s:Int):Int:=multiE P Q l n n
def askC (P Q G:N4) (h v:N4):Bool:=selB (belB Q h) (eq4 (powM P G h) v) false
def rightE (P Q G:N4) (l:Nat→N4) (n:Nat) (x:PieR):Int:=match askA Q n x.s with
  | false=>1
  | true=>match boundE P Q l n x.s != 0 with
    | true=>boundE P Q l n x.s
    | false=>match askC P Q G x.h (boundV P Q l n x.s) with
      | true=>0
      | false=>40
def unlE (b:Bool) (e:Int):Int:=match b with
  | true=>0
  | false=>e
section
open Go.WideShapes
variable {α β:Type} {P:Program} {mt kt et ty:TypeId} {kv:α→Value} {ev:β→Value}
def lenMSem (t ty:TypeId) (x:Value):Sem Next:=do pure (.value (← Builtin.len_ #[t] ty #[x]))
theorem srun_lenM (hm:P.underlying mt=some (.map kt et)) (b:Nat) (own:Bool) (l:List (α × β)):SRuns P (lenMSem mt ty (.map (some b))) [⟨b,own,0,mapC kv ev l⟩] 0 (fun _=>nat l.length) (fun _=>[none]):=by
  intro w hall ha
  have hb:=(hall _ (List.mem_singleton.2 rfl)).objm rfl
  refine⟨[],w,rfl,.inl (run_value ?_),⟨fun p c hpc=>?_,fun p p' c d hpp hc hd ho=>?_,⟨rfl,rfl,rfl,Nat.le_refl _,fun _ _ _=>rfl,fun j hj=>?_,fun p c hpc ho=>?_⟩⟩⟩
  · simp only at hb
    unfold Builtin.len_
    simp only [List.getElem?_toArray,List.getElem?_cons_zero,Sem.run_bind,run_underlying hm,Result.andThen_ok,run_gm hb,Sem.run_pure]
    simp [entsL_len,goInt,nat,int]
  · rcases p with _ | p <;> simp [listMem] at hpc
  · rcases p with _ | p <;> simp [listMem] at hc
  · obtain⟨p,c,hpc,_,_⟩:=hj
    rcases p with _ | p <;> simp [listMem] at hpc
  · rcases p with _ | p <;> simp [listMem] at hpc
end
def eqS (a b:Int):Bool:=a == b
def kysC (f:Nat→PieR):Nat→List (Int × Unit)
  | 0=>[]
  | k+1=>putE eqS (f k).s () (kysC f k)
def twiceB (f:Nat→PieR) (n:Nat):Bool:=decide ((kysC f n).length < n)
theorem putE_len {k:Int}:∀ l:List (Int × Unit),(putE eqS k () l).length=if k ∈ l.map (·.1) then l.length else l.length+1
  | []=>rfl
  | (h,x) :: r=>by
    have ih:=putE_len (k:=k) r
    by_cases e:k=h
    · subst e; simp [putE,eqS]
    · have e':(k == h)=false:=by simpa using e
      simp only [putE,eqS,e',Bool.false_eq_true,if_false,List.length_cons,ih,List.map_cons,List.mem_cons,e,false_or]
      split <;> rfl
theorem putE_mem {k a:Int}:∀ l:List (Int × Unit),a ∈ (putE eqS k () l).map (·.1) ↔ a=k∨a ∈ l.map (·.1)
  | []=>by simp [putE]
  | (h,x) :: r=>by
    have ih:=putE_mem (k:=k) (a:=a) r
    by_cases e:k=h
    · subst e; simp [putE,eqS]
    · have e':(k == h)=false:=by simpa using e
      simp only [putE,eqS,e',Bool.false_eq_true,if_false,List.map_cons,List.mem_cons,ih]
      constructor
      · rintro(h | h | h)
        · exact .inr (.inl h)
        · exact .inl h
        · exact .inr (.inr h)
      · rintro(h | h | h)
        · exact .inr (.inl h)
        · exact .inl h
        · exact .inr (.inr h)
theorem kys_mem (f:Nat→PieR) (a:Int):∀ n,a ∈ (kysC f n).map (·.1) ↔ ∃ k,k < n∧(f k).s=a
  | 0=>by simp [kysC]
  | n+1=>by
    rw [kysC,putE_mem,kys_mem f a n]
    constructor
    · rintro(rfl | ⟨k,hk,e⟩)
      · exact⟨n,by omega,rfl⟩
      · exact⟨k,by omega,e⟩
    · rintro⟨k,hk,e⟩
      by_cases h:k=n
      · subst h; exact .inl e.symm
      · exact .inr ⟨k,by omega,e⟩
theorem kys_le (f:Nat→PieR):∀ n,(kysC f n).length≤n
  | 0=>Nat.le_refl _
  | n+1=>by
    have:=kys_le f n
    rw [kysC,putE_len]
    split <;> omega
theorem twice_iff (f:Nat→PieR):∀ n,twiceB f n=true ↔ ∃ i,i < n∧∃ k,k < i∧(f k).s=(f i).s
  | 0=>by simp [twiceB,kysC]
  | n+1=>by
    have ih:=twice_iff f n
    have hl:=kys_le f n
    rw [twiceB,decide_eq_true_eq] at ih ⊢
    rw [kysC,putE_len]
    have hm:=kys_mem f (f n).s n
    split
    · rename_i h
      obtain⟨k,hk,e⟩:=hm.1 h
      exact⟨fun _=>⟨n,by omega,k,hk,e⟩,fun _=>by omega⟩
    · rename_i h
      constructor
      · intro h2
        obtain⟨i,hi,k,hk,e⟩:=ih.1 (by omega)
        exact⟨i,by omega,k,hk,e⟩
      · rintro⟨i,hi,k,hk,e⟩
        by_cases h3:i=n
        · subst h3; exact absurd (hm.2 ⟨k,hk,e⟩) h
        · have:=ih.2 ⟨i,by omega,k,hk,e⟩; omega
theorem is_maxZ {P:Program} {x y:Operand} {ts:Array TypeId} (a:Int):IsOp P (.call { callee:=.builtin .max,args:=#[x,y],argTypes:=ts }) [int a,int 0] (nat a.toNat):=by
  intro ρ o ho hv
  rw [ho] at hv
  have hv':ρ x=int a∧ρ y=int 0:=by simpa [Op.operands,Call.operands] using hv
  unfold execOp
  rw [ho]
  show pureRun P ((Builtin.max_ ts o.type (#[x,y].map ρ)) >>= fun v=>(pure (Next.value v):Sem Next))=_
  have e1:(#[x,y].map ρ:Array Value) = #[int a,int 0]:=by simp [hv'.1,hv'.2]
  have e2:pureRun P (Builtin.max_ ts o.type #[int a,int 0])=some (nat a.toNat):=by
    show some (Value.int .i64 (if (a < (0:Int)) then (0:Int) else a))=_
    unfold nat
    congr 2
    split <;> omega
  rw [e1,pureRun_bind',e2]
  rfl
theorem few_iff {n:Nat}:fewB n=true ↔ 1≤n∧n≤20:=by
  unfold fewB
  rw [selB_and,Bool.and_eq_true,decide_eq_true_eq,decide_eq_true_eq]
theorem unl_ne {b:Bool} {e:Int} (he:e≠0):(unlE b e != 0) = !b:=by
  cases b <;> simp [unlE,he]
section
variable {P Q G:N4} {l:Nat→N4} {n:Nat} {x:PieR}
theorem right_1 (h:(unlE (askA Q n x.s) 1 != 0)=true):unlE (askA Q n x.s) 1=rightE P Q G l n x:=by
  rw [unl_ne (by decide)] at h
  have h':askA Q n x.s=false:=by simpa using h
  unfold rightE; rw [h']; rfl
theorem right_2 (h1:(unlE (askA Q n x.s) 1 != 0)=false) (h2:(boundE P Q l n x.s != 0)=true):boundE P Q l n x.s=rightE P Q G l n x:=by
  rw [unl_ne (by decide)] at h1
  have h':askA Q n x.s=true:=by simpa using h1
  unfold rightE; rw [h',h2]
theorem right_3 (h1:(unlE (askA Q n x.s) 1 != 0)=false) (h2:(boundE P Q l n x.s != 0)=false) (h3:(unlE (askC P Q G x.h (boundV P Q l n x.s)) 40 != 0)=true):unlE (askC P Q G x.h (boundV P Q l n x.s)) 40=rightE P Q G l n x:=by
  rw [unl_ne (by decide)] at h1 h3
  have h':askA Q n x.s=true:=by simpa using h1
  have h3':askC P Q G x.h (boundV P Q l n x.s)=false:=by simpa using h3
  unfold rightE; rw [h',h2,h3']; rfl
theorem right_0 (h1:(unlE (askA Q n x.s) 1 != 0)=false) (h2:(boundE P Q l n x.s != 0)=false) (h3:(unlE (askC P Q G x.h (boundV P Q l n x.s)) 40 != 0)=false):0=rightE P Q G l n x:=by
  rw [unl_ne (by decide)] at h1 h3
  have h':askA Q n x.s=true:=by simpa using h1
  have h3':askC P Q G x.h (boundV P Q l n x.s)=true:=by simpa using h3
  unfold rightE; rw [h',h2,h3']
end
theorem ownN_has {nm n c:Nat} {f:Nat→N4} {x:Blk} (hx:famN (ownN nm n c f) x) (j:Nat) (hj:x.has j):(Blk.mk nm false 0 (tabN n f)).has j:=by
  obtain⟨_,rfl⟩:=hx; exact hj
def ownC (nm n c:Nat) (f:Nat→PieR):PieL:=⟨some ⟨nm,0,none⟩,n,c,nm,0,f⟩
theorem okc_own {nm n c:Nat} {f:Nat→PieR} (h1:n≤c) (h2:n≤9223372036854775807):OkC (ownC nm n c f):=⟨h1,fun _=>rfl,h2⟩
theorem holdC_own {nm n c:Nat} {f:Nat→PieR} {w:World} (h:Holds ⟨nm,false,0,tabC n f⟩ w):FamH (famC (ownC nm n c f)) w:=fun b hb=>by
  obtain⟨_,rfl⟩:=hb; exact⟨h,rfl⟩
theorem holdNC {x:NumL} {y:PieL} {w:World} (h1:FamH (famN x) w) (h2:FamH (famC y) w):FamH (famNC x y) w:=fun b hb=>hb.elim (h1 b) (h2 b)
def cutP (n:Nat) (h:Nat→N4 × N4):Nat→N4 × N4:=fun k=>if k < n then h k else (N4.mk 0 0 0 0,N4.mk 0 0 0 0)
theorem cutP_zero (h:Nat→N4 × N4):(fun _=>(N4.mk 0 0 0 0,N4.mk 0 0 0 0))=cutP 0 h:=by funext k; simp [cutP]
theorem cutP_eq {n:Nat} {h:Nat→N4 × N4} (k:Nat) (hk:k < n):cutP n h k=h k:=if_pos hk
theorem cutP_next {h:Nat→N4 × N4} {k:Nat} {w:N4 × N4} (hw:w=h k):upd (cutP k h) k w=cutP (k+1) h:=by
  subst hw
  funext j
  unfold upd cutP
  by_cases h1:j=k
  · subst h1; simp
  · by_cases h2:j < k
    · simp [h1,h2,show j < k+1 by omega]
    · simp [h1,h2,show ¬ j < k+1 by omega]
def opensB (P Q G:N4) (l:Nat→N4) (n:Nat) (a:N4):Bool:=selB (selB (decide (0 < n)) (belB Q a) false) (eq4 (powM P G a) (l 0)) false
end Go.Eng
end
section
namespace Go.Eng
theorem n4_small (q:UInt64):(N4.mk q 0 0 0).val=q.toNat:=by
  simp [N4.val]
theorem place_val {s:Int} (h0:0≤s) (h1:s < 1000000000):(placeN s).val=s.toNat+1:=by
  unfold placeN
  rw [n4_small,UInt64.toNat_add,UInt64.toNat_ofNat']
  have h2:s.toNat < 1000000000:=by omega
  have h3:(1:UInt64).toNat=1:=rfl
  rw [h3,Nat.mod_eq_of_lt (show s.toNat < 2 ^ 64 by omega),Nat.mod_eq_of_lt (by omega)]
theorem bel_iff {Q a:N4}:belB Q a=true ↔ a.val < Q.val:=by
  unfold belB
  rw [decide_eq_true_eq,cmp4_val]
theorem ask_parts {Q:N4} {n:Nat} {s:Int}:askA Q n s=true ↔ (1≤n∧n≤20)∧0≤s∧s < 40∧(placeN s).val < Q.val:=by
  unfold askA
  simp only [selB_and,Bool.and_eq_true,few_iff,decide_eq_true_eq,bel_iff]
  constructor
  · rintro⟨⟨⟨h1,h2⟩,h3⟩,h4⟩; exact⟨h1,by omega,h3,h4⟩
  · rintro⟨h1,h2,h3,h4⟩; exact⟨⟨⟨h1,by omega⟩,h3⟩,h4⟩
theorem right_parts {P Q G:N4} {l:Nat→N4} {n:Nat} {x:PieR}:rightE P Q G l n x=0 ↔ askA Q n x.s=true∧boundE P Q l n x.s=0∧askC P Q G x.h (boundV P Q l n x.s)=true:=by
  unfold rightE
  cases h1:askA Q n x.s with
  | false=>simp
  | true =>
    cases h2:boundE P Q l n x.s != 0 with
    | true =>
      have h3:boundE P Q l n x.s≠0:=by simpa using h2
      simp [h3]
    | false =>
      have h3:boundE P Q l n x.s=0:=by simpa using h2
      cases h4:askC P Q G x.h (boundV P Q l n x.s) <;> simp [h3]
def firE (E:Nat→Int):Nat→Int
  | 0=>0
  | i+1=>if firE E i=0 then E i else firE E i
theorem firE_at {E:Nat→Int} {i:Nat} (h:∀ a,a < i→E a=0):firE E i=0:=by
  induction i with
  | zero=>rfl
  | succ i ih=>rw [firE,if_pos (ih fun a ha=>h a (by omega)),h i (by omega)]
theorem firE_bad {E:Nat→Int} {i m:Nat} (h:∀ a,a < i→E a=0) (hi:i < m) (he:E i≠0):firE E m=E i:=by
  have h1:firE E (i+1)=E i:=by rw [firE,if_pos (firE_at h)]
  have:∀ d,firE E (i+1+d)=E i:=by
    intro d
    induction d with
    | zero=>exact h1
    | succ d ih=>rw [← Nat.add_assoc,firE,ih,if_neg he]
  have:=this (m - (i+1))
  rwa [show i+1+(m - (i+1))=m by omega] at this
def ptsF (f:Nat→PieR):Nat→N4 × N4:=fun k=>(placeN (f k).s,(f k).h)
def recE (P Q G:N4) (l:Nat→N4) (n:Nat) (f:Nat→PieR) (m:Nat):Int :=
  if firE (fun k=>rightE P Q G l n (f k)) m≠0 then firE (fun k=>rightE P Q G l n (f k)) m else if twiceB f m=true then 13 else if m < n then 3 else 0
noncomputable def recV (P Q G:N4) (l:Nat→N4) (n:Nat) (f:Nat→PieR) (m:Nat):N4:=if recE P Q G l n f m=0 then zV Q (ptsF f) m else N4.mk 0 0 0 0
theorem pr_gcd {p d:Nat} (hp:IsPr p) (h0:0 < d) (h1:d < p):Nat.gcd d p=1:=by
  rcases hp.2 _ (Nat.gcd_dvd_right d p) with h | h
  · exact h
  · have:=Nat.le_of_dvd h0 (Nat.gcd_dvd_left d p)
    omega
theorem wE_pieces {Q:N4} (hQ:OddM Q) (hp:IsPr Q.val) {f:Nat→PieR} {m:Nat} (h1:∀ k,k < m→0≤(f k).s∧(f k).s < 40∧(placeN (f k).s).val < Q.val) (h2:∀ i,i < m→∀ k,k < i→(f k).s≠(f i).s):wE Q (xsP (ptsF f)) m=0:=by
  have hne:∀ i,i < m→∀ k,k < m→k≠i→(plM Q (xsP (ptsF f)) i).val≠(plM Q (xsP (ptsF f)) k).val:=fun i hi k hk hki e=>by
    rw [plM_val hQ,plM_val hQ] at e
    obtain⟨a1,a2,a3⟩:=h1 i hi
    obtain⟨b1,b2,b3⟩:=h1 k hk
    rw [show(xsP (ptsF f) i).val=(placeN (f i).s).val from rfl,show(xsP (ptsF f) k).val=(placeN (f k).s).val from rfl,Nat.mod_eq_of_lt a3,Nat.mod_eq_of_lt b3,place_val a1 (by omega),place_val b1 (by omega)] at e
    have e2:(f k).s=(f i).s:=by omega
    rcases Nat.lt_or_gt_of_ne hki with h | h
    · exact h2 i hi k h e2
    · exact h2 k hk i h e2.symm
  have hi:∀ i,i < m→∀ k,k < m→k≠i→invE Q (minusM Q (xsP (ptsF f) k) (xsP (ptsF f) i))=0:=fun i hi k hk hki=>by
    rw [invE_iff]
    refine pr_gcd hp ?_ (by rw [minusM_val hQ]; exact Nat.mod_lt _ hQ.pos)
    rcases Nat.eq_zero_or_pos (minusM Q (xsP (ptsF f) k) (xsP (ptsF f) i)).val with h0 | h0
    · exfalso
      have h3:=same_pl hQ (f:=xsP (ptsF f)) (i:=k) (k:=i)
      have h4:eq4 (minusM Q (xsP (ptsF f) k) (xsP (ptsF f) i)) (N4.mk 0 0 0 0)=true:=(eq4_iff _ _).2 (N4.ext_val h0)
      rw [h4] at h3
      exact hne i hi k hk hki (of_decide_eq_true h3.symm).symm
    · exact h0
  rw [wE_iff hQ,if_neg (fun⟨i,h1,k,hk,hki,e⟩=>hne i h1 k hk hki e),if_neg (fun⟨i,h1,k,hk,hki,e⟩=>e (hi i h1 k hk hki))]
section
variable {P Q G:N4} {l:Nat→N4} {n m:Nat} {f:Nat→PieR}
theorem twice_no (h:twiceB f m=false):∀ i,i < m→∀ k,k < i→(f k).s≠(f i).s:=fun i hi k hk e=>by
  rw [(twice_iff f m).2 ⟨i,hi,k,hk,e⟩] at h; cases h
theorem wE_right (hQ:OddM Q) (hp:IsPr Q.val) (h1:∀ k,k < m→rightE P Q G l n (f k)=0) (h2:twiceB f m=false):wE Q (xsP (ptsF f)) m=0 :=
  wE_pieces hQ hp (fun k hk=>(ask_parts.1 (right_parts.1 (h1 k hk)).1).2) (twice_no h2)
theorem rec_bad {i:Nat} (h:∀ a,a < i→rightE P Q G l n (f a)=0) (hi:i < m) (he:(rightE P Q G l n (f i) != 0)=true):recE P Q G l n f m=rightE P Q G l n (f i)∧recV P Q G l n f m=N4.mk 0 0 0 0:=by
  have he':rightE P Q G l n (f i)≠0:=by simpa using he
  have h1:=firE_bad (E:=fun k=>rightE P Q G l n (f k)) h hi he'
  have h2:recE P Q G l n f m=rightE P Q G l n (f i):=by unfold recE; rw [h1,if_pos he']
  exact⟨h2,by unfold recV; rw [h2,if_neg he']⟩
theorem rec_same (h:∀ a,a < m→rightE P Q G l n (f a)=0) (h2:twiceB f m=true):recE P Q G l n f m=13∧recV P Q G l n f m=N4.mk 0 0 0 0:=by
  have h1:=firE_at (E:=fun k=>rightE P Q G l n (f k)) h
  have h3:recE P Q G l n f m=13:=by unfold recE; rw [h1,if_neg (by simp),if_pos h2]
  exact⟨h3,by unfold recV; rw [h3,if_neg (by decide)]⟩
theorem rec_short (h:∀ a,a < m→rightE P Q G l n (f a)=0) (h2:twiceB f m=false) (h3:m < n):recE P Q G l n f m=3∧recV P Q G l n f m=N4.mk 0 0 0 0:=by
  have h1:=firE_at (E:=fun k=>rightE P Q G l n (f k)) h
  have h4:recE P Q G l n f m=3:=by unfold recE; rw [h1,if_neg (by simp),if_neg (by rw [h2]; decide),if_pos h3]
  exact⟨h4,by unfold recV; rw [h4,if_neg (by decide)]⟩
theorem rec_ok (h:∀ a,a < m→rightE P Q G l n (f a)=0) (h2:twiceB f m=false) (h3:¬ m < n):recE P Q G l n f m=0∧recV P Q G l n f m=zV Q (ptsF f) m:=by
  have h1:=firE_at (E:=fun k=>rightE P Q G l n (f k)) h
  have h4:recE P Q G l n f m=0:=by unfold recE; rw [h1,if_neg (by simp),if_neg (by rw [h2]; decide),if_neg h3]
  exact⟨h4,by unfold recV; rw [h4,if_pos rfl]⟩
theorem right_next {i:Nat} (h:∀ a,a < i→rightE P Q G l n (f a)=0) (he:(rightE P Q G l n (f i) != 0)=false):∀ a,a < i+1→rightE P Q G l n (f a)=0:=fun a ha=>by
  by_cases e:a=i
  · rw [e]; simpa using he
  · exact h a (by omega)
end
theorem zV_congr {Q:N4} {f g:Nat→N4 × N4} {m:Nat} (h:∀ k,k < m→f k=g k):zV Q f m=zV Q g m:=by
  unfold zV
  have hx:∀ k,k < m→xsP f k=xsP g k:=fun k hk=>congrArg Prod.fst (h k hk)
  exact sumM_congr fun k hk=>by rw [show wV Q (fun k=>(f k).1) m=wV Q (fun k=>(g k).1) m from wV_congr hx,h k hk]
def prowC2 (a b:PieR):Nat→PieR:=fun k=>match k with
  | 0=>a
  | _=>b
theorem own_hasL {nm n c:Nat} {f:Nat→N4} {l:List Value} {x:Blk} (hx:famN (ownN nm n c f) x) (j:Nat) (hj:x.has j):(Blk.mk nm false 0 (.lit l)).has j:=by
  obtain⟨_,rfl⟩:=hx; exact hj
theorem own_hasM {nm n c:Nat} {f:Nat→PieR} {l:List Value} {x:Blk} (hx:famC (ownC nm n c f) x) (j:Nat) (hj:x.has j):(Blk.mk nm false 0 (.lit l)).has j:=by
  obtain⟨_,rfl⟩:=hx; exact hj
section
variable {nm:Nat} {w:World}
theorem hold_lit2 {a b:N4} (h:Holds ⟨nm,false,0,.lit [u64 a.a,u64 a.b,u64 a.c,u64 a.d,u64 b.a,u64 b.b,u64 b.c,u64 b.d]⟩ w):FamH (famN (ownN nm 2 2 (nrow2 a b))) w:=hold_own (h.recont (c:=tabN 2 (nrow2 a b)) rfl (to_row2 a b))
theorem to_prowC2 (a b:PieR):∀ o v,(tabC 2 (prowC2 a b)).get o=some v→(Cont.lit [int a.s,u64 a.h.a,u64 a.h.b,u64 a.h.c,u64 a.h.d,int b.s,u64 b.h.a,u64 b.h.b,u64 b.h.c,u64 b.h.d]).get o=some v:=fun o v h=>by
  have ho:o < 2*5:=Decidable.byContradiction fun hn=>by unfold tabC at h; rw [Cont.get_tab_out hn] at h; cases h
  unfold tabC at h
  rw [Cont.get_tab ho] at h
  rcases o with _ | _ | _ | _ | _ | _ | _ | _ | _ | _ | o
  all_goals first | exact h | omega
theorem holdC_lit2 {a b:PieR} (h:Holds ⟨nm,false,0,.lit [int a.s,u64 a.h.a,u64 a.h.b,u64 a.h.c,u64 a.h.d,int b.s,u64 b.h.a,u64 b.h.b,u64 b.h.c,u64 b.h.d]⟩ w):FamH (famC (ownC nm 2 2 (prowC2 a b))) w:=holdC_own (h.recont (c:=tabC 2 (prowC2 a b)) rfl (to_prowC2 a b))
end
section
variable {F:Blk→Prop} {P:Program} {f:FuncId} {args:List Value} {bs:List Blk} {k:Nat} {out:List Nat→List (Option Blk)}
theorem RunsF.vint {a b:Int} (e:a=b) (h:RunsF F P f args bs k (fun _=>int a) out):RunsF F P f args bs k (fun _=>int b) out:=e ▸ h
theorem RunsF.vrec {V V':N4} {a b:Int} (e:V=V'∧a=b) (h:RunsF F P f args bs k (fun _=>.tuple #[nat4 V,int a]) out):RunsF F P f args bs k (fun _=>.tuple #[nat4 V',int b]) out:=by obtain⟨rfl,rfl⟩:=e; exact h
theorem RunsF.vbool {a b:Bool} (e:a=b) (h:RunsF F P f args bs k (fun _=>.bool a) out):RunsF F P f args bs k (fun _=>.bool b) out:=e ▸ h
theorem Runs.vbool {a b:Bool} (e:a=b) (h:Runs P f args bs k (fun _=>.bool a) out):Runs P f args bs k (fun _=>.bool b) out:=e ▸ h
end
end Go.Eng
end
section
namespace Go.Eng
def gP (w:Int):N4:=if w=1 then N4.mk 2039 0 0 0 else if w=2 then N4.mk 167 0 0 0 else if w=3 then N4.mk 107 0 0 0 else N4.mk 23 0 0 0
def gQ (w:Int):N4:=if w=1 then N4.mk 1019 0 0 0 else if w=2 then N4.mk 83 0 0 0 else if w=3 then N4.mk 53 0 0 0 else N4.mk 11 0 0 0
def gG (w:Int):N4:=N4.mk 4 0 0 0
def gN (w:Int):Nat:=if w=1 then 5 else if w=2 then 3 else if w=3 then 3 else 2
theorem gw_0 {w:Int} (h:w≠1∧w≠2∧w≠3):gP w=N4.mk 23 0 0 0∧gQ w=N4.mk 11 0 0 0∧gN w=2:=by
  unfold gP gQ gN
  simp [h.1,h.2.1,h.2.2]
theorem by_which {p:Int→Prop} (h1:p 1) (h2:p 2) (h3:p 3) (h0:∀ w,w≠1∧w≠2∧w≠3→p w) (w:Int):p w:=by
  by_cases e1:w=1
  · rw [e1]; exact h1
  by_cases e2:w=2
  · rw [e2]; exact h2
  by_cases e3:w=3
  · rw [e3]; exact h3
  exact h0 w ⟨e1,e2,e3⟩
end Go.Eng
end
section
namespace Go.Eng
def sumK (a b:Nat→Nat):Nat→Nat
  | 0=>0
  | k+1=>sumK a b k+a k*b k
theorem prod_pow {P g:Nat} (hP:0 < P) (a b:Nat→Nat):∀ n,prodG (fun i=>(g ^ a i % P) ^ b i) n % P=g ^ sumK a b n % P
  | 0=>rfl
  | n+1=>by
    rw [prodG,sumK,Nat.mul_mod,prod_pow hP a b n,← Nat.pow_mod,← Nat.pow_mul,← Nat.mul_mod,← Nat.pow_add]
theorem pwN_powR (Q a:N4):∀ k,pwN Q a k=powR Q a k
  | 0=>rfl
  | k+1=>by rw [pwN,powR,pwN_powR Q a k]
theorem sumK_cg {Q:N4} (hQ:OddM Q) (f:Nat→N4) (z:N4):∀ n,Cg Q.val ((sumK (fun k=>(f k).val) (fun k=>(pwN Q z k).val) n:Nat):Int) (polI f z.val n)
  | 0=>Cg.rfl'
  | n+1=>by
    rw [sumK,polI]
    have h1:=sumK_cg hQ f z n
    have h2:Cg Q.val ((pwN Q z n).val:Int) ((z.val:Int) ^ n):=by rw [pwN_powR]; exact powR_cg hQ z n
    have h3:=h1.add (h2.mul_l ((f n).val:Int))
    rw [Int.natCast_add,Int.natCast_mul]
    exact h3
theorem mulL_congr {P:N4} {l l' y y':Nat→N4}:∀ {n:Nat},(∀ i,i < n→l i=l' i∧y i=y' i)→mulL P l y n=mulL P l' y' n
  | 0,_=>rfl
  | n+1,h=>by rw [mulL,mulL,mulL_congr fun i hi=>h i (by omega),(h n (by omega)).1,(h n (by omega)).2]
section
variable {P Q G:N4} {l f:Nat→N4} {n:Nat} {s:Int}
theorem bound_base (h:GoodG P Q G) (hn:n≤40) (hl:∀ k,k < n→l k=powM P G (f k)) (z:N4):multiE P Q l n n=0∧multiV P Q l (cutN n (pwN Q z)) n n=powM P G (horM Q z f n):=by
  have hall:allM P Q l n=true:=allM_iff.2 fun i hi=>by rw [hl i hi]; exact base_mem h _
  obtain⟨e1,e2⟩:=multi_ok (P:=P) (Q:=Q) (l:=l) (n:=cutN n (pwN Q z)) (nl:=n) (nn:=n) (by omega) hall
  refine⟨e2,?_⟩
  rw [e1,mulL_congr (l':=fun k=>powM P G (f k)) (y':=pwN Q z) fun i hi=>⟨hl i hi,cut_eq i hi⟩]
  apply N4.ext_val
  rw [mulL_val h.op,powM_val h.op]
  have e3:prodG (fun i=>(powM P G (f i)).val ^ (pwN Q z i).val) n=prodG (fun i=>(G.val ^ (f i).val % P.val) ^ (pwN Q z i).val) n:=prodG_congr fun i _=>by rw [powM_val h.op]
  rw [e3,prod_pow h.op.pos]
  have h1:=(sumK_cg h.oq f z n).trans (horM_cg h.oq z f n).symm
  have h2:=h1.to_mod
  rw [← pow_mod_ord h.op.big h.pow (sumK _ _ n),h2,pow_mod_ord h.op.big h.pow]
theorem pow_same (h:GoodG P Q G) (hp:IsPr Q.val) (hg:G.val % P.val≠1) {a b:N4} (ha:a.val < Q.val) (hb:b.val < Q.val) (e:powM P G a=powM P G b):a=b:=by
  have e2:G.val ^ a.val % P.val=G.val ^ b.val % P.val:=by rw [← powM_val h.op,← powM_val h.op,e]
  apply N4.ext_val
  rcases Nat.lt_trichotomy a.val b.val with h1 | h1 | h1
  · exact absurd e2 (ord_unlike h.op.big hp h.pow hg h1 hb)
  · exact h1
  · exact absurd e2.symm (ord_unlike h.op.big hp h.pow hg h1 ha)
theorem ask_base (h:GoodG P Q G) (hp:IsPr Q.val) (hg:G.val % P.val≠1) {a v:N4} (hv:v.val < Q.val):askC P Q G a (powM P G v)=eq4 v a:=by
  unfold askC
  rw [selB_and]
  cases e:eq4 v a with
  | true =>
    have e':=(eq4_iff v a).1 e
    subst e'
    rw [bel_iff.2 hv,eq4_self']; rfl
  | false =>
    cases e2:belB Q a with
    | false=>rfl
    | true =>
      cases e3:eq4 (powM P G a) (powM P G v) with
      | false=>rfl
      | true =>
        have:=pow_same h hp hg (bel_iff.1 e2) hv ((eq4_iff _ _).1 e3)
        subst this
        rw [eq4_self'] at e; cases e
theorem right_base (h : GoodG P Q G) (hp : IsPr Q.val) (hg : G.val % P.val ≠ 1) {c : PieR} (hn : 1 ≤ n ∧ n ≤ 20) (hs : 0 ≤ c.s ∧ c.s < 40 ∧ (placeN c.s).val < Q.val) (hl : ∀ k, k < n → l k = powM P G (f k)) :
    rightE P Q G l n c=if eq4 (horM Q (placeN c.s) f n) c.h=true then 0 else 40:=by
  have h1:askA Q n c.s=true:=ask_parts.2 ⟨hn,hs⟩
  obtain⟨h2,h3⟩:=bound_base (l:=l) h (show n≤40 by omega) hl (placeN c.s)
  have h4:=ask_base h hp hg (a:=c.h) (v:=horM Q (placeN c.s) f n) (horM_lt h.oq _ _ _)
  unfold rightE boundE boundV
  rw [h1,h2,h3,h4]
  cases eq4 (horM Q (placeN c.s) f n) c.h <;> rfl
theorem opens_base {v:N4} (h:GoodG P Q G) (hn:0 < n) (h0:l 0=powM P G v) (hv:v.val < Q.val):opensB P Q G l n v=true:=by
  unfold opensB
  rw [selB_and,selB_and,h0,eq4_self',bel_iff.2 hv,decide_eq_true hn]; rfl
end
theorem gQ_11 (w:Int):11≤(gQ w).val:=by_which (p:=fun w=>11≤(gQ w).val) (by decide) (by decide) (by decide) (fun w h=>by rw [(gw_0 h).2.1]; decide) w
theorem gG_ne (w:Int):(gG w).val % (gP w).val≠1:=by_which (p:=fun w=>(gG w).val % (gP w).val≠1) (by decide) (by decide) (by decide) (fun w h=>by rw [(gw_0 h).1]; show(N4.mk 4 0 0 0).val % _≠1; decide) w
theorem place_ten {w s:Int} (h0:0≤s) (h1:s < 10):(placeN s).val < (gQ w).val:=by
  rw [place_val h0 (by omega)]
  have:=gQ_11 w
  omega
end Go.Eng
end
section
namespace Go.Eng
section
open Go.RowKit Go.WideShapes Go.ChangeShapes Go.ChangeAt Go.Deep
variable {H:Type} {enc:TypeId × Value→H} {P:Program}
def pieT (P:Program) (e i a:TypeId):Bool:=match P.underlying e with
  | some (.struct fs)=>match fs.toList with
    | [f0,f1]=>Nat.beq f0.type i && (Nat.beq f0.offset 0 && (Nat.beq f1.type a && Nat.beq f1.offset 1))
    | _=>false
  | _=>false
structure PieT (P:Program) (e i a u:TypeId):Prop where
  he:pieT P e i a=true
  hi:P.underlying i=some (.int .i64)
  ha:P.underlying a=some (.array 4 u)
  hu:P.underlying u=some (.int .u64)
  ci:P.cellsOf i=1
  ca:P.cellsOf a=4
  cu:P.cellsOf u=1
  ce:P.cellsOf e=5
end
end Go.Eng
end
section
namespace Go.Eng
theorem noneO_get {α:Type} (cs:List α) (p:Nat) (b:Blk):listMem (cs.map fun _=>(none:Option Blk)) p≠some b:=fun h=>by
  unfold listMem at h
  rw [List.getElem?_map] at h
  cases hc:cs[p]? <;> rw [hc] at h <;> simp at h
theorem RunsO.lendQ {F F' : Blk → Prop} {P : Program} {f : FuncId} {args : List Value} {bs cs : List (Option Blk)} {k : Nat} {v : List Nat → Value} {o nw : List Nat → List (Option Blk)} (h : RunsO F P f args bs k v (fun ns => o ns ++ nw ns)) (ho : ∀ ns, (o ns).length = bs.length)
    (hF:∀ w:World,FamH F' w→(∀ b,some b ∈ cs→Holds b w)→FamH F w) (hn:∀ x,F x→∀ j,x.has j→(∃ y,F' y∧y.has j)∨∃ c,some c ∈ cs∧c.has j) :
    RunsO F' P f args (bs ++ cs) k v (fun ns=>o ns ++ (cs.map (fun _=>none) ++ nw ns)):=by
  intro w hm ha hF'
  have hin:∀ (l:List (Option Blk)) p b,listMem l p=some b→p < l.length∧some b ∈ l:=fun l p b hp=>by
    unfold listMem at hp
    cases hc:l[p]? with
    | none=>rw [hc] at hp; cases hp
    | some x =>
      rw [hc] at hp
      obtain⟨h1,h2⟩:=List.getElem?_eq_some_iff.1 hc
      have h3:x=some b:=hp
      exact⟨h1,by rw [← h3,← h2]; exact List.getElem_mem h1⟩
  have hsub:∀ p b,listMem bs p=some b→p < bs.length∧listMem (bs ++ cs) p=some b:=fun p b hp=>by
    have hl:=(hin bs p b hp).1
    exact⟨hl,by rw [listMem_left hl]; exact hp⟩
  have hcs:∀ b,some b ∈ cs→∃ q,bs.length≤q∧listMem (bs ++ cs) q=some b:=fun b hb=>by
    obtain⟨i,hi⟩:=List.getElem?_of_mem hb
    refine⟨bs.length+i,by omega,?_⟩
    rw [listMem_right (by omega),Nat.add_sub_cancel_left]
    unfold listMem; rw [hi]
  have ho1:∀ k,Owns (listMem bs) k→Owns (listMem (bs ++ cs)) k:=fun k ⟨p,b,h1,h2,h3⟩=>⟨p,b,(hsub p b h1).2,h2,h3⟩
  have hw:=hF w (fun b hb'=>⟨(hF' b hb').1,(hF' b hb').2.1⟩) (fun b hb'=>by
    obtain⟨q,_,hq⟩:=hcs b hb'
    exact hm q b hq)
  refine Calls.mono (h w (fun p b hp=>hm p b (hsub p b hp).2) (fun p q b c hpq hpb hqc hown=>ha p q b c hpq (hsub p b hpb).2 (hsub q c hqc).2 hown) (fun b hFb=>⟨(hw b hFb).1,(hw b hFb).2,fun j hj ⟨p,b',h1,h2,h3⟩=>?_⟩)) ?_
  · obtain⟨hl,hp'⟩:=hsub p b' h1
    rcases hn b hFb j hj with ⟨y,hy,he⟩ | ⟨c,hcm,he⟩
    · exact(hF' y hy).2.2 j he ⟨p,b',hp',h2,h3⟩
    · obtain⟨q,hq1,hq⟩:=hcs c hcm
      exact ha p q b' c (by omega) hp' hq h2 j h3 he
  · rintro e w' ⟨ns,hns,he,hp⟩
    have hpos:∀ p b,listMem (o ns ++ (cs.map (fun _=>none) ++ nw ns)) p=some b→∃ p',listMem (o ns ++ nw ns) p'=some b∧((p < bs.length∧p'=p)∨(bs.length+cs.length≤p∧p'=p - cs.length)):=fun p b hpb=>by
      rcases listMem_app hpb with ⟨h1,h2⟩ | ⟨h1,h2⟩
      · rw [ho] at h1
        exact⟨p,by rw [listMem_left (by rw [ho]; exact h1)]; exact h2,.inl ⟨h1,rfl⟩⟩
      · rw [ho] at h1 h2
        rcases listMem_app h2 with ⟨h3,h4⟩ | ⟨h3,h4⟩
        · exact absurd h4 (noneO_get _ _ _)
        · rw [List.length_map] at h3 h4
          refine⟨p - cs.length,?_,.inr ⟨by omega,rfl⟩⟩
          rw [listMem_right (by rw [ho]; omega),ho,show p - cs.length - bs.length=p - bs.length - cs.length by omega]; exact h4
    refine⟨ns,hns,he,⟨fun p b hpb=>?_,fun p q b c hpq hpb hqc=>?_,⟨hp.adv.os,hp.adv.output,hp.adv.tape,hp.adv.size,fun k hk hno=>hp.adv.heap k hk (fun hk'=>hno (ho1 k hk')),fun k ⟨p,b,h1,h2,h3⟩=>?_,fun p b hpb hob=>?_⟩⟩⟩
    · obtain⟨p',h1,_⟩:=hpos p b hpb
      exact hp.holds p' b h1
    · obtain⟨p',h1,h2⟩:=hpos p b hpb
      obtain⟨q',h3,h4⟩:=hpos q c hqc
      exact hp.apart p' q' b c (by omega) h1 h3
    · obtain⟨p',h4,_⟩:=hpos p b h1
      rcases hp.adv.names k ⟨p',b,h4,h2,h3⟩ with h5 | h5
      · exact .inl (ho1 k h5)
      · exact .inr h5
    · obtain⟨p',h1,h2⟩:=hpos p b hpb
      have h3:=hp.adv.ro p' b h1 hob
      exact(hsub p' b h3).2 |> fun h4=>by
        rcases h2 with ⟨_,rfl⟩ | ⟨h5,rfl⟩
        · exact h4
        · have:=(hsub _ b h3).1
          omega
def recN (D:Grw N4):NumL:=⟨gsA D,D.n,gsC D,D.nm,0,D.f⟩
theorem recN_ok {D:Grw N4} (h:D.ok) (hl:D.n≤9223372036854775807):OkN (recN D):=⟨gs_le h,fun h0=>gsA_own (h.pos h0),hl⟩
abbrev grN (D:Grw N4):Option Blk:=gsE cellsN [u64 0,u64 0,u64 0,u64 0] 4 D
theorem recN_fam {D:Grw N4} (h:D.ok) {w:World} (hb:∀ b,roO (grN D)=some b→Holds b w):FamH (famN (recN D)) w:=fun b hb'=>by
  obtain⟨h0,rfl⟩:=hb'
  have hz:=h.pos h0
  have h1:=hb ⟨D.nm,false,0,sprE 4 (D.n+D.r) D.n (fun k=>cellsN (D.f k)) [u64 0,u64 0,u64 0,u64 0]⟩ (by unfold grN; rw [gsE_own hz]; rfl)
  exact⟨h1.recont (c:=tabN D.n D.f) rfl (to_noroomE (by omega) fun _ _=>rfl),rfl⟩
theorem recN_has {D:Grw N4} (h:D.ok) {x:Blk} (hx:famN (recN D) x):∃ c,roO (grN D)=some c∧∀ j,x.has j→c.has j:=by
  obtain⟨h0,rfl⟩:=hx
  have hz:=h.pos h0
  exact⟨⟨D.nm,false,0,sprE 4 (D.n+D.r) D.n (fun k=>cellsN (D.f k)) [u64 0,u64 0,u64 0,u64 0]⟩,by unfold grN; rw [gsE_own hz]; rfl,fun j hj=>hj⟩
theorem mem_of {cs:List (Option Blk)} {X:Option Blk} {b:Blk} (h:X=some b) (hX:X ∈ cs):some b ∈ cs:=h ▸ hX
theorem has_in {cs:List (Option Blk)} {X:Option Blk} {x:Blk} {F':Blk→Prop} (hX:X ∈ cs) (h:∃ c,X=some c∧∀ j,x.has j→c.has j) (j:Nat) (hj:x.has j):(∃ y,F' y∧y.has j)∨∃ c,some c ∈ cs∧c.has j:=by
  obtain⟨c,h1,h2⟩:=h
  exact .inr ⟨c,h1 ▸ hX,h2 j hj⟩
end Go.Eng
end
section
namespace Go.Eng
section
variable {P Q G:N4} {l f:Nat→N4} {n m:Nat} {g:Nat→PieR}
structure RecI (Q:N4) (f:Nat→N4) (n:Nat) (g:Nat→PieR) (m:Nat) (S:Nat→Bool):Prop where
  slot:∀ k,k < m→0≤(g k).s∧(g k).s < 10
  val:∀ k,k < m→(g k).h=horM Q (placeN (g k).s) f n
  one:∀ i,i < m→∀ k,k < i→(g k).s≠(g i).s
  seen:∀ k,k < m→S (g k).s.toNat=true
theorem RecI.none {S:Nat→Bool}:RecI Q f n g 0 S:=⟨fun k h=>absurd h (by omega),fun k h=>absurd h (by omega),fun k h=>absurd h (by omega),fun k h=>absurd h (by omega)⟩
theorem RecI.push {S:Nat→Bool} {x:PieR} (h:RecI Q f n g m S) (hs:0≤x.s∧x.s < 10) (hv:x.h=horM Q (placeN x.s) f n) (hn:S x.s.toNat=false):RecI Q f n (catU g m fun _=>x) (m+1) (upd S x.s.toNat true):=by
  have e0:∀ k,k < m→catU g m (fun _=>x) k=g k:=fun k hk=>by unfold catU; rw [if_pos hk]
  have e1:catU g m (fun _=>x) m=x:=by unfold catU; rw [if_neg (by omega)]
  have hc:∀ k,k < m+1→k < m∨k=m:=fun k hk=>by omega
  refine⟨fun k hk=>?_,fun k hk=>?_,fun i hi k hk=>?_,fun k hk=>?_⟩
  · rcases hc k hk with h1 | rfl
    · rw [e0 k h1]; exact h.slot k h1
    · rw [e1]; exact hs
  · rcases hc k hk with h1 | rfl
    · rw [e0 k h1]; exact h.val k h1
    · rw [e1]; exact hv
  · rcases hc i hi with h1 | rfl
    · rw [e0 i h1,e0 k (by omega)]; exact h.one i h1 k hk
    · rw [e1,e0 k hk]
      intro e
      have:=h.seen k hk
      rw [e,hn] at this; cases this
  · rcases hc k hk with h1 | rfl
    · rw [e0 k h1]
      unfold upd
      split
      · rfl
      · exact h.seen k h1
    · rw [e1]; unfold upd; rw [if_pos rfl]
theorem RecI.all (h:GoodG P Q G) (hp:IsPr Q.val) (hg:G.val % P.val≠1) (hn:1≤n∧n≤20) (hQ:∀ s:Int,0≤s→s < 10→(placeN s).val < Q.val) (hl:∀ k,k < n→l k=powM P G (f k)) {S:Nat→Bool} (hr:RecI Q f n g m S):∀ k,k < m→rightE P Q G l n (g k)=0:=fun k hk=>by
  obtain⟨s1,s2⟩:=hr.slot k hk
  rw [right_base h hp hg hn ⟨s1,by omega,hQ _ s1 s2⟩ hl,← hr.val k hk,eq4_self']; rfl
theorem sum_val (hQ:OddM Q) (z:N4) {a b:Nat→N4}:horM Q z (fun k=>plusM Q (a k) (b k)) n=plusM Q (horM Q z a n) (horM Q z b n):=by
  refine n4_of_cg (horM_lt hQ _ _ _) (plM_lt hQ _ _) ?_
  refine(horM_cg hQ z _ n).trans (Cg.trans ?_ (plus_cg hQ _ _).symm)
  refine Cg.trans ?_ ((horM_cg hQ z a n).symm.add (horM_cg hQ z b n).symm)
  have:∀ n,Cg Q.val (polI (fun k=>plusM Q (a k) (b k)) z.val n) (polI a z.val n+polI b z.val n):=fun n=>by
    induction n with
    | zero=>exact Cg.of_eq (by simp [polI])
    | succ n ih =>
      simp only [polI]
      have h1:=ih.add ((plus_cg hQ (a n) (b n)).mul_r ((z.val:Int) ^ n))
      refine h1.trans (Cg.of_eq ?_)
      rw [Int.add_mul]
      omega
  exact this n
end
end Go.Eng
end
