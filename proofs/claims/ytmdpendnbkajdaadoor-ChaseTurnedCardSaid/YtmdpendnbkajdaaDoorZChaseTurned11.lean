/-
  Many in one: Maps2, Maps3, Votes, Votes2, Maps4, Votes3, Votes4, Votes5.
-/
import Derived.Test.YtmdpendnbkajdaaDoorZChaseTurned10
import Derived.ChangeSame
import Derived.Maps.RangeRun
set_option linter.unusedVariables false
set_option linter.unusedSimpArgs false
set_option maxRecDepth 100000
set_option maxHeartbeats 1000000
section
namespace Go.Eng
open Go.WideShapes Go.ChangeShapes Go.ChangeAt
section
variable {α β:Type} {P:Program} {mt kt et:TypeId} {kv:α→Value} {ev:β→Value} {z:β} {eqb:α→α→Bool}
theorem findNow_eq {kd:TypeDesc} (hs:∀ k h,Instr.sameNow kd (kv k) (kv h)=some (eqb k h)) (k:α):∀ (l:List (α × β)) (n i:Nat),Instr.findNow kd (kv k) (entsL kv ev l n) i=some ((findI eqb k l i).map fun p=>(p.1,ev p.2))
  | [],_,_=>rfl
  | (h,x) :: r,n,i=>by
    simp only [entsL,Instr.findNow,hs,findI]
    cases e:eqb k h with
    | true=>simp
    | false=>simpa using findNow_eq hs k r (n+1) (i+1)
theorem mapT_now {kd : TypeDesc} (hm : P.underlying mt = some (.map kt et)) (hk : P.underlying kt = some kd) (hs : ∀ k h, Instr.sameNow kd (kv k) (kv h) = some (eqb k h))
    (chk:∀ em k w,(Instr.checkKey em 10000 kt (kv k)).run P w = .ok () w) (eqr:∀ k h w,(Op.equal kt (kv k) (kv h)).run P w = .ok (eqb k h) w) (eqv:∀ k h,eqb k h=true→Instr.sameBits 10000 (kv h) (kv k)=true) (zer:∀ w,(zeroValue et).run P w = .ok (ev z) w) :
    MapT P mt kt et kv ev z eqb:=⟨hm,chk,fun k l n w=>MapKept.run_findKey hk (findNow_eq hs k l n 0),eqr,eqv,zer⟩
end
section
variable {P:Program} {mt kt et:TypeId} {β:Type} {ev:β→Value} {z:β}
theorem int_keys (hm:P.underlying mt=some (.map kt et)) (hk:P.underlying kt=some (.int .i64)) (hz:∀ w,(zeroValue et).run P w = .ok (ev z) w):MapT P mt kt et int ev z (fun a b:Int=>a == b) :=
  mapT_now hm hk (fun _ _=>rfl) (fun em k w=>by unfold Instr.checkKey; simp [run_underlying hk,int]) (fun k h w=>by
    have:pureRun P (Op.equal kt (int k) (int h))=some (k == h):=by
      show pureRun P (Op.equalIn (9999+1) kt (.int .i64 k) (.int .i64 h))=_
      unfold Op.equalIn; rw [pureRun_bind',pureRun_underlying hk]; rfl
    exact pureRun_run this w) (fun k h e=>by rw [eq_of_beq e]; simp [Instr.sameBits,int]) hz
theorem bool_keys (hm:P.underlying mt=some (.map kt et)) (hk:P.underlying kt=some .bool) (hz:∀ w,(zeroValue et).run P w = .ok (ev z) w):MapT P mt kt et Value.bool ev z (fun a b:Bool=>a == b) :=
  mapT_now hm hk (fun _ _=>rfl) (fun em k w=>by unfold Instr.checkKey; simp [run_underlying hk]) (fun k h w=>by
    have:pureRun P (Op.equal kt (.bool k) (.bool h))=some (k == h):=by
      show pureRun P (Op.equalIn (9999+1) kt (.bool k) (.bool h))=_
      unfold Op.equalIn; rw [pureRun_bind',pureRun_underlying hk]; rfl
    exact pureRun_run this w) (fun k h e=>by rw [eq_of_beq e]; simp [Instr.sameBits]) hz
end
def sR (f g:Nat→UInt8):Bool:=(List.range 32).all fun i=>f i == g i
def rowV (f:Nat→UInt8):Value:=vecV 32 fun k=>u8 (f k)
theorem sR_iff {f g:Nat→UInt8}:sR f g=true ↔ ∀ i,i < 32→f i=g i:=by
  simp [sR,List.all_eq_true]
theorem sR_refl (f:Nat→UInt8):sR f f=true:=sR_iff.2 fun _ _=>rfl
theorem sR_symm {f g:Nat→UInt8} (h:sR f g=true):sR g f=true:=sR_iff.2 fun i hi=>(sR_iff.1 h i hi).symm
theorem sR_trans {f g h:Nat→UInt8} (a:sR f g=true) (b:sR g h=true):sR f h=true:=sR_iff.2 fun i hi=>(sR_iff.1 a i hi).trans (sR_iff.1 b i hi)
theorem sR_comm (f g:Nat→UInt8):sR f g=sR g f:=Bool.eq_iff_iff.2 ⟨sR_symm,sR_symm⟩
theorem rowV_eq {f g:Nat→UInt8} (h:sR f g=true):rowV f=rowV g:=by
  unfold rowV vecV
  congr 1
  rw [show(List.range 32).map (fun k=>u8 (f k))=(List.range 32).map (fun k=>u8 (g k)) from List.map_congr_left fun k hk=>by rw [sR_iff.1 h k (List.mem_range.1 hk)]]
theorem forIn_ok {P:Program} {α:Type} {f:α→PUnit→Sem (ForInStep PUnit)} (w:World):∀ (l:List α),(∀ x ∈ l,(f x ⟨⟩).run P w = .ok (.yield ⟨⟩) w)→(forIn l PUnit.unit f).run P w = .ok PUnit.unit w
  | [],_=>rfl
  | x :: l,h=>by
    rw [List.forIn_cons]
    simp only [Sem.run_bind,h x (.head _),Result.andThen_ok]
    exact forIn_ok w l fun y hy=>h y (.tail _ hy)
theorem chk_row {P:Program} {t e:TypeId} (ht:P.underlying t=some (.array 32 e)) (he:P.underlying e=some (.int .u8)) (hs:sizeB P e=some 1) (em:Bool) (x:Nat→UInt8) (w:World):(Instr.checkKey em 10000 t (rowV x)).run P w = .ok () w:=by
  have hsz:(sizeOf e).run P w = .ok 1 w:=pureRun_run (pureRun_sizeOf hs) w
  have hc:∀ k a,(Instr.checkKey em 9999 e (.int k a)).run P w = .ok () w:=fun k a=>by
    unfold Instr.checkKey; simp [run_underlying he]
  have hp:∀ i,i < 32→(part e ((List.range 32).map fun k=>u8 (x k)).toArray i).run P w = .ok (u8 (x i)) w:=fun i hi=>run_part_int w he (by simp [hi])
  unfold Instr.checkKey
  simp only [Sem.run_bind,run_underlying ht,Result.andThen_ok,rowV,vecV,Std.Legacy.Range.forIn_eq_forIn_range',Std.Legacy.Range.size]
  rw [forIn_ok w _ fun i hi=>?_]
  · rfl
  have hi':i < 32:=by
    simpa using hi
  simp only [Sem.run_bind,hsz,Result.andThen_ok,Nat.mul_one,hp i hi']
  unfold u8
  simp only [hc,Result.andThen_ok]
  rfl
theorem equal_row {P : Program} {t e : TypeId} (ht : P.underlying t = some (.array 32 e)) (he : P.underlying e = some (.int .u8)) (hs : sizeB P e = some 1) (f g : Nat → UInt8) :
    pureRun P (Op.equal t (rowV f) (rowV g))=some (sR f g):=by
  have h:=pureRun_equalIn_arr (P:=P) 9998 ((List.range 32).map fun k=>((f k).toNat:Int)) ((List.range 32).map fun k=>((g k).toNat:Int)) ht he hs (by simp) (by simp)
  have e1:∀ q:Nat→UInt8,(((List.range 32).map fun k=>((q k).toNat:Int)).map (Value.int .u8)).toArray=((List.range 32).map fun k=>u8 (q k)).toArray:=fun q=>by
    rw [List.map_map]; rfl
  rw [e1,e1] at h
  show pureRun P (Op.equalIn (9998+2) t (vecV 32 _) (vecV 32 _))=_
  rw [show(vecV 32 fun k=>u8 (f k)) = .agg ((List.range 32).map fun k=>u8 (f k)).toArray from rfl,show(vecV 32 fun k=>u8 (g k)) = .agg ((List.range 32).map fun k=>u8 (g k)).toArray from rfl,h]
  congr 1
  rw [Bool.eq_iff_iff,List.all_eq_true,sR_iff]
  constructor
  · intro h1 k hk
    have h2:=h1 k (List.mem_range.2 hk)
    simp [List.getD,hk] at h2
    exact UInt8.toNat_inj.1 (by omega)
  · intro h1 k hk
    have hk':=List.mem_range.1 hk
    simp [List.getD,hk',h1 k hk']
theorem sameBits_row (f:Nat→UInt8):Instr.sameBits 10000 (rowV f) (rowV f)=true:=by
  have h:∀ l:List Value,(∀ v ∈ l,Instr.sameBits 9999 v v=true)→(l.zip l).all (fun(x,y)=>Instr.sameBits 9999 x y)=true:=fun l=>by
    induction l with
    | nil=>intro _; rfl
    | cons v l ih=>intro hv; simp only [List.zip_cons_cons,List.all_cons,hv v (.head _),Bool.true_and]; exact ih fun u hu=>hv u (.tail _ hu)
  show(_ == _ && (List.zip _ _).all _)=true
  rw [beq_self_eq_true,Bool.true_and]
  refine h _ fun v hv=>?_
  obtain⟨k,_,rfl⟩:=List.mem_map.1 hv
  simp [Instr.sameBits,u8]
theorem row_keys {P:Program} {mt kt et e:TypeId} {β:Type} {ev:β→Value} {z:β} (hm:P.underlying mt=some (.map kt et)) (ht:P.underlying kt=some (.array 32 e)) (he:P.underlying e=some (.int .u8)) (hs:sizeB P e=some 1) (hz:∀ w,(zeroValue et).run P w = .ok (ev z) w):MapT P mt kt et rowV ev z sR :=
  have eqr:∀ k h w,(Op.equal kt (rowV k) (rowV h)).run P w = .ok (sR k h) w:=fun k h w=>pureRun_run (equal_row ht he hs k h) w
  ⟨hm,fun em k w=>chk_row ht he hs em k w,fun k l n w=>(run_findKey_eq w (by rw [ht]) _ _).trans (run_asking eqr k w l n 0),eqr,fun k h e=>by rw [rowV_eq e]; exact sameBits_row h,hz⟩
theorem is_eqlR {P : Program} {t e t' : TypeId} {x y : Operand} (ht : P.underlying t = some (.array 32 e)) (he : P.underlying e = some (.int .u8)) (hs : sizeB P e = some 1) (hg : P.eqGuardType P.depth t = false) (f g : Nat → UInt8) :
    IsOp P (.binOp .eql t x y t') [rowV f,rowV g] (.bool (sR f g)):=isOp_bin (guard_arr hg) (by
  show pureRun P (do pure (Value.bool (← Op.equal t (rowV f) (rowV g))))=_
  rw [pureRun_bind',equal_row ht he hs]; rfl)
end Go.Eng
end
section
namespace Go.Eng
open Go.WideShapes Go.ChangeMaps
def unseen (o:List Nat) (n:Nat):Bool:=(List.range n).any fun i=>!o.contains i
def pk (o:List Nat) (n c:Nat):Nat:=if c < n∧o.contains c=false then c else ((List.range n).find? fun i=>!o.contains i).getD 0
theorem pk_ok {o:List Nat} {n:Nat} (h:unseen o n=true) (c:Nat):pk o n c < n∧o.contains (pk o n c)=false:=by
  unfold pk
  split
  · rename_i hc; exact hc
  · obtain⟨i,h1,h2⟩:=List.any_eq_true.1 h
    cases hf:(List.range n).find? (fun i=>!o.contains i) with
    | none=>have:=List.find?_eq_none.1 hf i h1; exact absurd h2 this
    | some j =>
      have h3:=List.find?_some hf
      have h4:=List.mem_of_find?_eq_some hf
      exact⟨List.mem_range.1 h4,by simpa using h3⟩
theorem pk_self {o:List Nat} {n c:Nat} (h:c < n) (h2:o.contains c=false):pk o n c=c:=if_pos ⟨h,h2⟩
theorem unseen_f {o:List Nat} {n:Nat} (h:unseen o n=false):∀ i,i < n→o.contains i=true:=fun i hi=>by
  cases hc:o.contains i with
  | true=>rfl
  | false =>
    have:unseen o n=true:=List.any_eq_true.2 ⟨i,List.mem_range.2 hi,by rw [hc]; rfl⟩
    rw [h] at this; cases this
def leftN (o:List Nat) (n:Nat):Nat:=((List.range n).filter fun i=>!o.contains i).length
theorem leftN_lt {o:List Nat} {n j:Nat} (h:j < n) (h2:o.contains j=false):leftN (o ++ [j]) n < leftN o n:=by
  unfold leftN
  refine filter_lt (fun i=>!o.contains i) (fun i=>!(o ++ [j]).contains i) (fun x hx=>?_) j (by rw [h2]; rfl) (by simp) _ (List.mem_range.2 h)
  simp at hx ⊢; exact hx.1
def itC (bm n:Nat) (o:List Nat):Cont:=.map (.o (.mapIter (some bm) n o.toArray n)) 0
def Cont.clk:Cont→Nat
  | .map _ c=>c
  | _=>0
def itB:List Blk→Cont
  | b :: _=>itC b.name b.cont.clk []
  | []=>.lit []
theorem RunsO.darkV {F : Blk → Prop} {P : Program} {f : FuncId} {args : List Value} {bs : List (Option Blk)} {k : Nat} {v : List Nat → Value} {out : List Nat → List (Option Blk)} (fl : List Bool) (h : RunsO F P f args bs k v out) :
    RunsO F P f args bs k v (fun ns=>dkn fl (out ns)):=fun w hb ha hF=>Calls.mono (h w hb ha hF) fun _ _ ⟨ns,h1,h2,h3⟩=>⟨ns,h1,h2,h3.sub (dkn_sub fl (out ns))⟩
theorem SRuns.valE {P:Program} {s:Sem Next} {bs:List Blk} {k:Nat} {a b:Value} {out:List Nat→List (Option Blk)} (h:SRuns P s bs k (fun _=>a) out) (e:a=b):SRuns P s bs k (fun _=>b) out:=e ▸ h
def kvAt {α β:Type} (d:α × β) (l:List (α × β)) (i:Nat):α × β:=l.getD i d
section
variable {α β:Type} {P:Program} {mt kt et:TypeId} {kv:α→Value} {ev:β→Value} {z:β} {eqb:α→α→Bool}
theorem ents_born:∀ (l:List (α × β)) (n:Nat),(entsL kv ev l n).map (·.born)=List.range' n l.length
  | [],_=>rfl
  | (h,x) :: r,n=>by simp [entsL,List.range'_succ,ents_born r (n+1)]
theorem ents_mem {l:List (α × β)} {e:MapEntry} (he:e ∈ entsL kv ev l 0):∃ j h x,l[j]? = some (h,x)∧e=⟨kv h,ev x,j⟩:=by
  obtain⟨j,hj,he⟩:=List.getElem_of_mem he
  have hl:j < l.length:=by rw [← entsL_len (kv:=kv) (ev:=ev) l 0]; exact hj
  refine⟨j,l[j].1,l[j].2,by simp [hl],?_⟩
  have:=entsL_get (kv:=kv) (ev:=ev) l 0 j l[j].1 l[j].2 (by simp [hl])
  rw [List.getElem?_eq_getElem hj] at this
  rw [← he]; simpa using Option.some.inj this
def rngSem (t:TypeId) (x:Value):Sem Next:=do pure (.value (← Instr.range t x))
def nxtSem (x:Value) (ty:TypeId):Sem Next:=do pure (.value (← Instr.next x false ty))
def entSem (x:Value):Sem Next:=do pure (.value (← Instr.entry x))
theorem srun_rng (hm : P.underlying mt = some (.map kt et)) (b : Nat) (own : Bool) (l : List (α × β)) :
    SRuns P (rngSem mt (.map (some b))) [⟨b,own,0,mapC kv ev l⟩] 1 (fun ns=>ptr (ns.getD 0 0) 0) (fun ns=>[none,some ⟨ns.getD 0 0,true,0,itC b l.length []⟩]):=by
  intro w hall ha
  have hb:=(hall _ (List.mem_singleton.2 rfl)).objm rfl
  obtain⟨h1,h2⟩:=heap_alloc' w (.mapIter (some b) l.length #[] l.length)
  refine⟨[w.heap.size],w.alloc (.mapIter (some b) l.length #[] l.length),rfl,.inl (run_value ?_),⟨fun p c hpc=>?_,fun p p' c d hpp hc hd ho=>?_,⟨rfl,rfl,rfl,by simp,fun j hj _=>h2 j hj,fun j hj=>?_,fun p c hpc ho=>?_⟩⟩⟩
  · exact run_range_map w mt kt et b _ _ hm hb
  · rcases p with _ | _ | p
    · simp [lM] at hpc
    · injection hpc with hpc; subst hpc
      exact⟨by simp,(fun o v ho=>by cases ho),(fun _ o v ho=>by cases ho),h1⟩
    · simp [lM] at hpc
  · rcases p with _ | _ | p
    · simp [lM] at hc
    · rcases p' with _ | _ | p'
      · simp [lM] at hd
      · exact absurd rfl hpp
      · simp [lM] at hd
    · simp [lM] at hc
  · obtain⟨p,c,hpc,ho,hjk⟩:=hj
    rcases p with _ | _ | p
    · simp [lM] at hpc
    · injection hpc with hpc; subst hpc; exact .inr (Nat.le_of_eq hjk)
    · simp [lM] at hpc
  · rcases p with _ | _ | p
    · simp [lM] at hpc
    · injection hpc with hpc; subst hpc; cases ho
    · simp [lM] at hpc
theorem post_two {r : Nat} {x x' : Cont} {B : Blk} {w w' : World} (hr : Holds ⟨r, true, 0, x⟩ w) (h1 : w'.os = w.os) (h2 : w'.output = w.output) (h3 : w'.tape = w.tape) (h4 : w.heap.size ≤ w'.heap.size) (h5 : ∀ j, j ≠ r → w'.heap[j]? = w.heap[j]?)
    (hx:Holds ⟨r,true,0,x'⟩ w') (hh:∀ k,(Blk.mk r true 0 x).has k ↔ r=k:=by intro k; exact Iff.rfl) (hh':∀ k,(Blk.mk r true 0 x').has k ↔ r=k:=by intro k; exact Iff.rfl):Post (lM ([⟨r,true,0,x⟩,B].map some)) w (lM [some ⟨r,true,0,x'⟩,none]) w':=by
  refine⟨fun p c hpc=>?_,fun p p' c d hpp hc hd ho=>?_,⟨h1,h2,h3,h4,fun j hj hn=>h5 j fun e=>hn ⟨0,_,rfl,rfl,(hh j).2 e.symm⟩,fun j hj=>?_,fun p c hpc ho=>?_⟩⟩
  · rcases p with _ | _ | p
    · injection hpc with hpc; subst hpc; exact hx
    · simp [lM] at hpc
    · simp [lM] at hpc
  · rcases p with _ | _ | p
    · rcases p' with _ | _ | p'
      · exact absurd rfl hpp
      · simp [lM] at hd
      · simp [lM] at hd
    · simp [lM] at hc
    · simp [lM] at hc
  · obtain⟨p,c,hpc,ho,hjk⟩:=hj
    rcases p with _ | _ | p
    · injection hpc with hpc; subst hpc; exact .inl ⟨0,_,rfl,rfl,(hh j).2 ((hh' j).1 hjk)⟩
    · simp [lM] at hpc
    · simp [lM] at hpc
  · rcases p with _ | _ | p
    · injection hpc with hpc; subst hpc; cases ho
    · simp [lM] at hpc
    · simp [lM] at hpc
theorem post_none {bs:List Blk} {w:World} (k:Nat):Post (lM (bs.map some)) w (lM (List.replicate k none)) w :=
  have hn:∀ p c,lM (List.replicate k (none:Option Blk)) p≠some c:=fun p c h=>by
    unfold lM at h
    rw [List.getElem?_replicate] at h
    by_cases hk:p < k
    · rw [if_pos hk] at h; cases h
    · rw [if_neg hk] at h; cases h
  ⟨fun p c hpc=>absurd hpc (hn p c),fun p p' c d hpp hc=>absurd hc (hn p c),⟨rfl,rfl,rfl,Nat.le_refl _,fun _ _ _=>rfl,fun j hj=>by obtain⟨p,c,hpc,_⟩:=hj; exact absurd hpc (hn p c),fun p c hpc=>absurd hpc (hn p c)⟩⟩
theorem left_iff {l:List (α × β)} {o:List Nat}:(leftOf (entsL kv ev l 0).toArray o.toArray).size=0 ↔ unseen o l.length=false:=by
  unfold leftOf
  constructor
  · intro h
    have h2:Array.filter (fun e=>!o.toArray.contains e.born) (entsL kv ev l 0).toArray = #[]:=Array.eq_empty_of_size_eq_zero h
    rw [Array.filter_eq_empty_iff] at h2
    cases hu:unseen o l.length with
    | false=>rfl
    | true =>
      obtain⟨i,h3,h4⟩:=List.any_eq_true.1 hu
      have hi:=List.mem_range.1 h3
      have:=entsL_get (kv:=kv) (ev:=ev) l 0 i l[i].1 l[i].2 (by simp [hi])
      have hm:(⟨kv l[i].1,ev l[i].2,0+i⟩:MapEntry) ∈ (entsL kv ev l 0).toArray:=by simpa using List.mem_of_getElem? this
      have h5:=h2 _ hm
      simp at h5 h4
      exact absurd h5 h4
  · intro h
    have hs:=unseen_f h
    have:Array.filter (fun e=>!o.toArray.contains e.born) (entsL kv ev l 0).toArray = #[]:=by
      rw [Array.filter_eq_empty_iff]
      intro e he
      obtain⟨j,h',x,h1,rfl⟩:=ents_mem (by simpa using he)
      have hj:j < l.length:=(List.getElem?_eq_some_iff.1 h1).1
      have:=hs j hj
      simp at this ⊢
      exact this
    rw [this]; rfl
theorem srun_nxt (ty r b : Nat) (own : Bool) (l : List (α × β)) (o : List Nat) (d : α × β) (hu : unseen o l.length = true) :
    SRuns P (nxtSem (ptr r 0) ty) [⟨r,true,0,itC b l.length o⟩,⟨b,own,0,mapC kv ev l⟩] 1
      (fun ns=>.tuple #[.bool true,kv (kvAt d l (pk o l.length (ns.getD 0 0))).1,ev (kvAt d l (pk o l.length (ns.getD 0 0))).2]) (fun ns=>[some ⟨r,true,0,itC b l.length (o ++ [pk o l.length (ns.getD 0 0)])⟩,none]):=by
  intro w hall ha
  have hH:=hall _ (List.mem_cons_self ..)
  have hr:=hH.objm rfl
  have hb:=(hall _ (List.mem_cons_of_mem _ (List.mem_singleton.2 rfl))).objm rfl
  have hr':w.heap[r]? = some (.mapIter (some b) l.length o.toArray l.length):=hr
  have hb':w.heap[b]? = some (.map (entsL kv ev l 0).toArray l.length):=hb
  have hold:∀ x ∈ (entsL kv ev l 0).toArray.toList,x.born < l.length:=fun x hx=>by
    obtain⟨j,h,y,h1,rfl⟩:=ents_mem (by simpa using hx)
    exact(List.getElem?_eq_some_iff.1 h1).1
  rcases run_next_at (P:=P) w ty r b l.length l.length o.toArray _ _ hr' hb' hold (Nat.le_refl _) with ⟨h0,_⟩ | ⟨e,he,w1,hw1,hrun⟩
  · rw [left_iff.1 h0] at hu; cases hu
  obtain⟨he1,he2⟩:=mem_left he
  obtain⟨j,h,x,hj,rfl⟩:=ents_mem (by simpa using he1)
  have hjl:j < l.length:=(List.getElem?_eq_some_iff.1 hj).1
  have hjo:o.contains j=false:=by simpa using he2
  have hpk:=pk_self hjl hjo
  have hat:kvAt d l j=(h,x):=by unfold kvAt; rw [List.getD_eq_getElem?_getD,hj]; rfl
  have hb1:w1.heap=w.heap:=by rcases hw1 with rfl | rfl <;> rfl
  have hro:w1.heap[r]? = some (.mapIter (some b) l.length o.toArray l.length):=by rw [hb1]; exact hr'
  obtain⟨s1,s2⟩:=heap_set' (o':=.mapIter (some b) l.length (o.toArray.push j) l.length) hro
  refine⟨[j],setBlock w1 r (.mapIter (some b) l.length (o.toArray.push j) l.length),rfl,.inl (run_value (hrun.trans ?_)),post_two hH ?_ ?_ ?_ ?_ (fun i hi=>?_) ?_⟩
  · show _=Result.ok (Value.tuple #[Value.bool true,kv (kvAt d l (pk o l.length j)).1,ev (kvAt d l (pk o l.length j)).2]) _
    rw [hpk,hat]
  · rcases hw1 with rfl | rfl <;> rfl
  · rcases hw1 with rfl | rfl <;> rfl
  · rcases hw1 with rfl | rfl <;> rfl
  · simp [setBlock,hb1]
  · have:=s2 i hi
    rw [hb1] at this
    simpa [setBlock,hb1] using this
  · refine⟨?_,(fun o v ho=>by cases ho),(fun _ o v ho=>by cases ho),?_⟩
    · have:=hH.lt; simpa [setBlock,hb1] using this
    · show(w1.heap.setIfInBounds r _)[r]? = _
      rw [s1]
      show _=some (Obj.mapIter (some b) l.length (o ++ [pk o l.length j]).toArray l.length)
      rw [hpk]; simp
theorem srun_nxt0 (ty r b : Nat) (ow own : Bool) (l : List (α × β)) (o : List Nat) (hu : unseen o l.length = false) :
    SRuns P (nxtSem (ptr r 0) ty) [⟨r,ow,0,itC b l.length o⟩,⟨b,own,0,mapC kv ev l⟩] 0 (fun _=>.tuple #[.bool false]) (fun _=>[none,none]):=by
  intro w hall ha
  have hr:=(hall _ (List.mem_cons_self ..)).objm rfl
  have hb:=(hall _ (List.mem_cons_of_mem _ (List.mem_singleton.2 rfl))).objm rfl
  have hold:∀ x ∈ (entsL kv ev l 0).toArray.toList,x.born < l.length:=fun x hx=>by
    obtain⟨j,h,y,h1,rfl⟩:=ents_mem (by simpa using hx)
    exact(List.getElem?_eq_some_iff.1 h1).1
  have h0:(leftOf (entsL kv ev l 0).toArray o.toArray).size=0:=left_iff.2 hu
  rcases run_next_at (P:=P) w ty r b l.length l.length o.toArray _ _ hr hb hold (Nat.le_refl _) with ⟨_,h1⟩ | ⟨e,he,_⟩
  · exact⟨[],w,rfl,.inl (run_value h1),post_none 2⟩
  · have:(leftOf (entsL kv ev l 0).toArray o.toArray) = #[]:=Array.eq_empty_of_size_eq_zero h0
    rw [this] at he; simp at he
theorem srun_ent (r b : Nat) (ow own : Bool) (l : List (α × β)) (o : List Nat) (j : Nat) (d : α × β) (hj : j < l.length) :
    SRuns P (entSem (ptr r 0)) [⟨r,ow,0,itC b l.length (o ++ [j])⟩,⟨b,own,0,mapC kv ev l⟩] 0 (fun _=>.tuple #[kv (kvAt d l j).1,ev (kvAt d l j).2]) (fun _=>[none,none]):=by
  intro w hall ha
  have hr:=(hall _ (List.mem_cons_self ..)).objm rfl
  have hb:=(hall _ (List.mem_cons_of_mem _ (List.mem_singleton.2 rfl))).objm rfl
  have he:=entsL_get (kv:=kv) (ev:=ev) l 0 j l[j].1 l[j].2 (by simp [hj])
  have hat:kvAt d l j=l[j]:=by unfold kvAt; simp [List.getD_eq_getElem?_getD,hj]
  have hr2:w.heap[r]? = some (.mapIter (some b) l.length (o.toArray.push (⟨kv l[j].1,ev l[j].2,0+j⟩:MapEntry).born) l.length):=by
    have:w.heap[r]? = some (.mapIter (some b) l.length (o ++ [j]).toArray l.length):=hr
    rw [this]; simp
  refine⟨[],w,rfl,.inl (run_value ?_),post_none 2⟩
  rw [hat]
  exact run_entry_at (P:=P) w r b l.length o.toArray _ _ _ hr2 hb (List.mem_of_getElem? he) (by rw [show(entsL kv ev l 0).toArray.toList=entsL kv ev l 0 by simp,ents_born]; exact List.nodup_range')
theorem srun_look1 (M : MapT P mt kt et kv ev z eqb) (b : Nat) (own : Bool) (l : List (α × β)) (k : α) :
    SRuns P (lookSem mt (.map (some b)) (kv k) false) [⟨b,own,0,mapC kv ev l⟩] 0 (fun _=>ev ((findE eqb k l).getD z)) (fun _=>[none]):=by
  intro w hall ha
  have hb:=(hall _ (List.mem_singleton.2 rfl)).objm rfl
  refine⟨[],w,rfl,.inl (run_value ?_),post_none 1⟩
  simp only at hb
  unfold Instr.lookup
  simp only [Sem.run_bind,run_underlying M.hm,Result.andThen_ok,run_gm hb,Sem.run_pure,M.chk,run_findKeyM M]
  have hE:=findI_E (eqb:=eqb) k l 0
  cases hf:findI eqb k l 0 with
  | none =>
    rw [hf] at hE; simp only [Option.map_none] at hE
    rw [← hE]
    simp [M.zer]
  | some q =>
    rw [hf] at hE; simp only [Option.map_some] at hE
    rw [← hE]
    simp
theorem put_len (k:α) (x:β) (l:List (α × β)):(putE eqb k x l).length=match findI eqb k l 0 with | some _=>l.length | none=>l.length+1:=by
  cases hf:findI eqb k l 0 with
  | none=>exact(entsL_new (kv:=fun _=>Value.bool true) (ev:=fun _=>Value.bool true) k x l 0 0 hf).2
  | some q=>exact(entsL_put (kv:=fun _=>Value.bool true) (ev:=fun _=>Value.bool true) k x l 0 0 q.1 q.2 hf).2
end
end Go.Eng
end
section
namespace Go.Eng
set_option linter.unusedSectionVars false
def sumN (f:Nat→Nat):Nat→Nat
  | 0=>0
  | k+1=>sumN f k+f k
theorem sumN_congr {f g:Nat→Nat}:∀ n,(∀ i,i < n→f i=g i)→sumN f n=sumN g n
  | 0,_=>rfl
  | n+1,h=>by simp only [sumN]; rw [sumN_congr n fun i hi=>h i (by omega),h n (by omega)]
theorem sumN_le {f g:Nat→Nat}:∀ n,(∀ i,i < n→f i≤g i)→sumN f n≤sumN g n
  | 0,_=>Nat.le_refl _
  | n+1,h=>by simp only [sumN]; have:=sumN_le n fun i hi=>h i (by omega); have:=h n (by omega); omega
theorem sumU_N (s:Nat→UInt64):∀ n,sumU s n=sumN (fun i=>(s i).toNat) n
  | 0=>rfl
  | n+1=>by simp only [sumU,sumN]; rw [sumU_N s n]
def lsum (f:Nat→Nat):List Nat→Nat
  | []=>0
  | i :: o=>f i+lsum f o
theorem lsum_perm {f:Nat→Nat} {a b:List Nat} (h:a.Perm b):lsum f a=lsum f b:=by
  induction h with
  | nil=>rfl
  | cons x _ ih=>simp only [lsum,ih]
  | swap x y l=>simp only [lsum]; omega
  | trans _ _ i1 i2=>exact i1.trans i2
theorem lsum_erase {f:Nat→Nat} {a:Nat} {l:List Nat} (h:a ∈ l):lsum f l=f a+lsum f (l.erase a):=(lsum_perm (List.perm_cons_erase h)).trans rfl
theorem lsum_le (f:Nat→Nat):∀ (n:Nat) (l:List Nat),l.Nodup→(∀ x ∈ l,x < n)→lsum f l≤sumN f n
  | 0,l,_,h=>by
    cases l with
    | nil=>exact Nat.le_refl _
    | cons x l=>exact absurd (h x (.head _)) (by omega)
  | n+1,l,hn,h=>by
    simp only [sumN]
    by_cases hm:n ∈ l
    · rw [lsum_erase hm]
      have:=lsum_le f n (l.erase n) (hn.erase n) fun x hx=>by
        have h1:=h x (List.mem_of_mem_erase hx)
        have h2:x≠n:=fun e=>by subst e; exact(hn.mem_erase_iff.1 hx).1 rfl
        omega
      omega
    · have := lsum_le f n l hn fun x hx => by
        have h1:=h x hx
        have h2:x≠n:=fun e=>hm (e ▸ hx)
        omega
      omega
theorem lsum_eq (f:Nat→Nat):∀ (n:Nat) (l:List Nat),l.Nodup→(∀ x,x ∈ l ↔ x < n)→lsum f l=sumN f n
  | 0,l,_,h=>by
    cases l with
    | nil=>rfl
    | cons x l=>exact absurd ((h x).1 (.head _)) (by omega)
  | n+1,l,hn,h=>by
    have hm:n ∈ l:=(h n).2 (by omega)
    rw [lsum_erase hm,lsum_eq f n (l.erase n) (hn.erase n) fun x=>by
      rw [hn.mem_erase_iff,h x]; omega]
    simp only [sumN]; omega
def decO:Nat→Nat→List Nat
  | 0,_=>[]
  | k+1,c=>if c=0 then [] else (c % 64 - 1) :: decO k (c / 64)
def codO:List Nat→Nat
  | []=>0
  | x :: l=>(x+1)+64*codO l
theorem dec_cod:∀ (l:List Nat) (k:Nat),l.length≤k→(∀ x ∈ l,x < 63)→decO k (codO l)=l
  | [],k,_,_=>by cases k <;> rfl
  | x :: l,0,h,_=>by simp at h
  | x :: l,k+1,h,hx=>by
    have h1:=hx x (.head _)
    have e:codO (x :: l)=(x+1)+64*codO l:=rfl
    rw [e]
    unfold decO
    rw [if_neg (by omega),show((x+1)+64*codO l) % 64 - 1=x by omega,show((x+1)+64*codO l) / 64=codO l by omega,dec_cod l k (by simpa using h) fun y hy=>hx y (.tail _ hy)]
structure OrdN (n:Nat) (o:List Nat):Prop where
  nd:o.Nodup
  lt:∀ x ∈ o,x < n
structure OrdA (n:Nat) (o:List Nat):Prop extends OrdN n o where
  all:unseen o n=false
theorem OrdA.mem {n:Nat} {o:List Nat} (h:OrdA n o) (x:Nat):x ∈ o ↔ x < n:=⟨h.lt x,fun hx=>by simpa using unseen_f h.all x hx⟩
theorem OrdN.nil (n:Nat):OrdN n []:=⟨List.nodup_nil,by simp⟩
theorem OrdN.snoc {n:Nat} {o:List Nat} (h:OrdN n o) (hu:unseen o n=true) (c:Nat):OrdN n (o ++ [pk o n c]):=by
  obtain⟨h1,h2⟩:=pk_ok hu c
  refine⟨List.nodup_append.2 ⟨h.nd,by simp,fun a ha b hb=>?_⟩,fun x hx=>?_⟩
  · simp at hb h2; subst hb
    exact fun e=>h2 (e ▸ ha)
  · rcases List.mem_append.1 hx with hx | hx
    · exact h.lt x hx
    · simp at hx; omega
open Classical in
noncomputable def ordD (n c:Nat):List Nat:=if OrdA n (decO n c) then decO n c else List.range n
theorem ordA_range (n:Nat):OrdA n (List.range n):=⟨⟨List.nodup_range,fun x hx=>List.mem_range.1 hx⟩,by
  cases h:unseen (List.range n) n with
  | false=>rfl
  | true =>
    obtain⟨i,h1,h2⟩:=List.any_eq_true.1 h
    simp at h1 h2; omega⟩
theorem ordD_ok (n c:Nat):OrdA n (ordD n c):=by
  unfold ordD
  split
  · assumption
  · exact ordA_range n
theorem nodup_len {n:Nat} {o:List Nat} (h:OrdN n o):o.length≤n:=by
  have h1:=lsum_le (fun _=>1) n o h.nd h.lt
  have h2:∀ l:List Nat,lsum (fun _=>1) l=l.length:=fun l=>by
    induction l with
    | nil=>rfl
    | cons x l ih=>simp only [lsum,ih,List.length_cons]; omega
  have h3:∀ k,sumN (fun _=>1) k=k:=fun k=>by
    induction k with
    | zero=>rfl
    | succ k ih=>simp only [sumN,ih]
  rw [h2,h3] at h1; exact h1
theorem ordD_cod {n:Nat} {o:List Nat} (h:OrdA n o) (hn:n≤63):ordD n (codO o)=o:=by
  unfold ordD
  rw [dec_cod o n (nodup_len h.toOrdN) fun x hx=>by have:=h.lt x hx; omega,if_pos h]
section
variable {κ:Type} (eqb:κ→κ→Bool) (key:Nat→κ) (st:Nat→UInt64)
def gm (o:List Nat):List (κ × UInt64):=o.foldl (fun m i=>putE eqb (key i) ((findE eqb (key i) m).getD 0+st i) m) []
theorem gm_snoc (o:List Nat) (j:Nat):gm eqb key st (o ++ [j])=putE eqb (key j) ((findE eqb (key j) (gm eqb key st o)).getD 0+st j) (gm eqb key st o):=by
  unfold gm; rw [List.foldl_append]; rfl
end
structure Eqv {κ:Type} (eqb:κ→κ→Bool):Prop where
  refl:∀ a,eqb a a=true
  symm:∀ a b,eqb a b=true→eqb b a=true
  trans:∀ a b c,eqb a b=true→eqb b c=true→eqb a c=true
theorem eqv_beq {κ:Type} [BEq κ] [LawfulBEq κ]:Eqv (fun a b:κ=>a == b):=⟨fun a=>by simp,fun a b h=>by simpa using (eq_of_beq h).symm,fun a b c h k=>by simpa using (eq_of_beq h).trans (eq_of_beq k)⟩
theorem eqv_row:Eqv sR:=⟨sR_refl,fun _ _=>sR_symm,fun _ _ _=>sR_trans⟩
section
variable {κ β:Type} {eqb:κ→κ→Bool} (E:Eqv eqb)
include E
theorem Eqv.comm (a b:κ):eqb a b=eqb b a:=Bool.eq_iff_iff.2 ⟨E.symm a b,E.symm b a⟩
theorem Eqv.left {a b:κ} (h:eqb a b=true) (c:κ):eqb a c=eqb b c:=Bool.eq_iff_iff.2 ⟨fun k=>E.trans b a c (E.symm a b h) k,fun k=>E.trans a b c h k⟩
theorem find_congr {a b:κ} (h:eqb a b=true):∀ m:List (κ × β),findE eqb a m=findE eqb b m
  | []=>rfl
  | (k,x) :: m=>by simp only [findE,E.left h k,find_congr h m]
theorem find_put_same (k:κ) (x:β):∀ m:List (κ × β),findE eqb k (putE eqb k x m)=some x
  | []=>by simp [putE,findE,E.refl]
  | (h,y) :: m=>by
    simp only [putE]
    by_cases e:eqb k h=true
    · simp [e,findE,E.refl]
    · simp [e,findE,find_put_same k x m]
theorem find_put_other {a k:κ} (h:eqb a k=false) (x:β):∀ m:List (κ × β),findE eqb a (putE eqb k x m)=findE eqb a m
  | []=>by simp [putE,findE,h]
  | (b,y) :: m=>by
    simp only [putE]
    by_cases e:eqb k b=true
    · have : eqb a b = false := by
        cases hc:eqb a b with
        | false=>rfl
        | true=>rw [E.trans a b k hc (E.symm k b e)] at h; cases h
      simp [e,findE,h,this]
    · simp only [e,findE]
      by_cases e2:eqb a b=true
      · simp [e2,findE]
      · simp [e2,findE,find_put_other h x m]
theorem gm_find (key:Nat→κ) (st:Nat→UInt64) (k:κ):∀ o:List Nat,((findE eqb k (gm eqb key st o)).getD 0).toNat=lsum (fun i=>if eqb k (key i)=true then (st i).toNat else 0) o % 2 ^ 64:=by
  have key':∀ (o:List Nat) (m:List (κ × UInt64)),((findE eqb k (o.foldl (fun m i=>putE eqb (key i) ((findE eqb (key i) m).getD 0+st i) m) m)).getD 0).toNat=(((findE eqb k m).getD 0).toNat+lsum (fun i=>if eqb k (key i)=true then (st i).toNat else 0) o) % 2 ^ 64:=by
    intro o
    induction o with
    | nil=>intro m; simp only [List.foldl_nil,lsum,Nat.add_zero]; exact(Nat.mod_eq_of_lt (UInt64.toNat_lt _)).symm
    | cons i o ih =>
      intro m
      rw [List.foldl_cons,ih]
      simp only [lsum]
      by_cases e:eqb k (key i)=true
      · rw [find_congr E e,find_put_same E,← find_congr E e,if_pos e]
        simp only [Option.getD_some,UInt64.toNat_add]
        omega
      · rw [find_put_other E (by simpa using e),if_neg e,Nat.zero_add]
  intro o
  have:=key' o []
  rw [show findE eqb k ([]:List (κ × UInt64))=none from rfl,show((none:Option UInt64).getD 0).toNat=0 from rfl,Nat.zero_add] at this
  exact this
def KD (eqb:κ→κ→Bool) (m:List (κ × β)):Prop:=m.Pairwise fun a b=>eqb a.1 b.1=false
theorem mem_put {k:κ} {x:β} {m:List (κ × β)} {p:κ × β} (h:p ∈ putE eqb k x m):p=(k,x)∨p ∈ m:=by
  induction m with
  | nil=>simp [putE] at h; exact .inl h
  | cons q m ih =>
    obtain⟨b,y⟩:=q
    simp only [putE] at h
    by_cases e:eqb k b=true
    · simp only [e,if_true] at h
      rcases List.mem_cons.1 h with h | h
      · exact .inl h
      · exact .inr (.tail _ h)
    · simp only [e] at h
      rcases List.mem_cons.1 h with h | h
      · exact .inr (h ▸ .head _)
      · rcases ih h with h | h
        · exact .inl h
        · exact .inr (.tail _ h)
theorem KD.put {k:κ} {x:β} {m:List (κ × β)} (h:KD eqb m):KD eqb (putE eqb k x m):=by
  induction m with
  | nil=>simp [putE,KD]
  | cons q m ih =>
    obtain⟨b,y⟩:=q
    obtain⟨h1,h2⟩:=List.pairwise_cons.1 h
    simp only [putE]
    by_cases e:eqb k b=true
    · simp only [e,if_true]
      refine List.pairwise_cons.2 ⟨fun p hp=>?_,h2⟩
      show eqb k p.1=false
      rw [E.left e]; exact h1 p hp
    · simp only [e]
      refine List.pairwise_cons.2 ⟨fun p hp=>?_,ih h2⟩
      rcases mem_put E hp with rfl | hp
      · show eqb b k=false
        rw [E.comm]; simpa using e
      · exact h1 p hp
theorem KD.find {m:List (κ × β)} (h:KD eqb m) {k:κ} {x:β} (hm:(k,x) ∈ m):findE eqb k m=some x:=by
  induction m with
  | nil=>cases hm
  | cons q m ih =>
    obtain⟨b,y⟩:=q
    obtain⟨h1,h2⟩:=List.pairwise_cons.1 h
    rcases List.mem_cons.1 hm with e | hm
    · injection e with e1 e2; subst e1; subst e2
      simp [findE,E.refl]
    · have:=h1 _ hm
      simp only at this
      simp [findE,E.comm k b,this,ih h2 hm]
theorem find_mem {m:List (κ × β)} {k:κ} {x:β} (h:findE eqb k m=some x):∃ p ∈ m,eqb k p.1=true∧p.2=x:=by
  induction m with
  | nil=>cases h
  | cons q m ih =>
    obtain⟨b,y⟩:=q
    simp only [findE] at h
    by_cases e:eqb k b=true
    · simp [e] at h; exact⟨(b,y),.head _,e,h⟩
    · simp [e] at h
      obtain⟨p,hp,h⟩:=ih h
      exact⟨p,.tail _ hp,h⟩
end
end Go.Eng
end
section
namespace Go.Eng
def eqI (a b:Int):Bool:=a == b
def eqT (a b:Bool):Bool:=a == b
theorem eqvI:Eqv eqI:=eqv_beq
theorem eqvT:Eqv eqT:=eqv_beq
abbrev Fst:=List (Int × (Nat→UInt8))
def d0:Int × (Nat→UInt8):=(0,fun _=>0)
def kF (F:Fst) (i:Nat):Int:=(kvAt d0 F i).1
def vF (F:Fst) (i:Nat):Nat→UInt8:=(kvAt d0 F i).2
def sF (s:Nat→UInt64) (F:Fst) (i:Nat):UInt64:=s (kF F i).toNat
def firC (l:Fst):Cont:=mapC int rowV l
def agaC (l:List (Int × Unit)):Cont:=mapC int ev0 l
def bitC (l:List (Bool × UInt64)):Cont:=mapC Value.bool u64 l
def moreU (p a:UInt64):Bool:=decide (a.toNat < 3*p.toNat)
def forN (s:Nat→UInt64) (F:Fst) (v:Nat→UInt8):Nat:=sumN (fun i=>if sR (vF F i) v=true then (sF s F i).toNat else 0) F.length
def anyN (s:Nat→UInt64) (F:Fst):Nat:=sumN (fun i=>(sF s F i).toNat) F.length
def forV (s:Nat→UInt64) (F:Fst) (v:Nat→UInt8):UInt64:=UInt64.ofNat (forN s F v)
def bitM (s:Nat→UInt64) (F:Fst) (v:Nat→UInt8) (o:List Nat):=gm eqT (fun i=>sR (vF F i) v) (sF s F) o
structure VOk (n:Nat) (s:Nat→UInt64) (F:Fst):Prop where
  good:n≤40∧sumU s n < 2 ^ 63
  key:∀ i,i < F.length→0≤kF F i∧(kF F i).toNat < n
  inj:∀ i j,i < F.length→j < F.length→kF F i=kF F j→i=j
theorem VOk.nil {n:Nat} {s:Nat→UInt64} (h:n≤40∧sumU s n < 2 ^ 63):VOk n s []:=⟨h,fun i hi=>by simp at hi,fun i j hi=>by simp at hi⟩
def voteE (n:Nat) (s:Nat→UInt64) (F:Fst) (who:Int) (v:Nat→UInt8):Int :=
  if who < 0∨(n:Int)≤who then 1 else if s who.toNat=0 then 51 else match findE eqI who F with
  | none=>0
  | some w=>if sR w v=true then 13 else 52
def voteF (n:Nat) (s:Nat→UInt64) (F:Fst) (who:Int) (v:Nat→UInt8):Fst:=if voteE n s F who v=0 then putE eqI who v F else F
def voteA (n:Nat) (s:Nat→UInt64) (F:Fst) (A:List (Int × Unit)) (who:Int) (v:Nat→UInt8):List (Int × Unit):=if voteE n s F who v=52 then putE eqI who () A else A
theorem put_none {α β:Type} {eqb:α→α→Bool} {k:α} {x:β}:∀ {m:List (α × β)},findE eqb k m=none→putE eqb k x m=m ++ [(k,x)]
  | [],_=>rfl
  | (h,y) :: m,e=>by
    simp only [findE] at e
    by_cases c:eqb k h=true
    · simp [c] at e
    · simp [c] at e
      simp [putE,c,put_none e]
theorem find_none {α β:Type} {eqb:α→α→Bool} {k:α}:∀ {m:List (α × β)},findE eqb k m=none→∀ p ∈ m,eqb k p.1=false
  | [],_,p,hp=>by cases hp
  | (h,y) :: m,e,p,hp=>by
    simp only [findE] at e
    by_cases c:eqb k h=true
    · simp [c] at e
    · simp [c] at e
      rcases List.mem_cons.1 hp with rfl | hp
      · simpa using c
      · exact find_none e p hp
theorem at_mem {α β:Type} {d:α × β} {l:List (α × β)} {i:Nat} (h:i < l.length):kvAt d l i ∈ l:=by
  unfold kvAt; rw [List.getD_eq_getElem?_getD,List.getElem?_eq_getElem h]; exact List.getElem_mem h
theorem mem_at {α β:Type} (d:α × β) {l:List (α × β)} {p:α × β} (h:p ∈ l):∃ i,i < l.length∧kvAt d l i=p:=by
  obtain⟨i,hi,e⟩:=List.getElem_of_mem h
  exact⟨i,hi,by unfold kvAt; rw [List.getD_eq_getElem?_getD,List.getElem?_eq_getElem hi]; exact e⟩
theorem at_app {α β:Type} {d:α × β} {l r:List (α × β)} {i:Nat} (h:i < l.length):kvAt d (l ++ r) i=kvAt d l i:=by
  unfold kvAt; rw [List.getD_eq_getElem?_getD,List.getD_eq_getElem?_getD,List.getElem?_append_left h]
theorem at_end {α β:Type} {d x:α × β} {l:List (α × β)}:kvAt d (l ++ [x]) l.length=x:=by
  unfold kvAt; rw [List.getD_eq_getElem?_getD]; simp
section
variable {n:Nat} {s:Nat→UInt64} {F:Fst}
theorem voteF_new {who:Int} {v:Nat→UInt8} (h:voteE n s F who v=0):voteF n s F who v=F ++ [(who,v)]∧0≤who∧who.toNat < n∧s who.toNat≠0∧findE eqI who F=none:=by
  have hF:voteF n s F who v=putE eqI who v F:=if_pos h
  unfold voteE at h
  split at h
  · cases h
  split at h
  · cases h
  split at h
  · rename_i h1 h2 _ h3
    exact⟨hF.trans (put_none h3),by omega,by omega,h2,h3⟩
  · split at h <;> cases h
theorem VOk.vote (h:VOk n s F) (who:Int) (v:Nat→UInt8):VOk n s (voteF n s F who v):=by
  by_cases e:voteE n s F who v=0
  · obtain⟨e1,h1,h2,h3,h4⟩:=voteF_new e
    rw [e1]
    have hne:∀ i,i < F.length→kF F i≠who:=fun i hi c=>by
      have:=find_none h4 _ (at_mem (d:=d0) hi)
      have h5:(kvAt d0 F i).1=who:=c
      rw [h5] at this
      simp [eqI] at this
    have hk:∀ i,i < F.length→kF (F ++ [(who,v)]) i=kF F i:=fun i hi=>by unfold kF; rw [at_app hi]
    have hl:kF (F ++ [(who,v)]) F.length=who:=by unfold kF; rw [at_end]
    refine⟨h.good,fun i hi=>?_,fun i j hi hj=>?_⟩
    · simp at hi
      by_cases c:i=F.length
      · subst c; rw [hl]; exact⟨h1,h2⟩
      · rw [hk i (by omega)]; exact h.key i (by omega)
    · simp at hi hj
      by_cases c:i=F.length
      · by_cases c2:j=F.length
        · omega
        · rw [c,hl,hk j (by omega)]; exact fun x=>absurd x.symm (hne j (by omega))
      · by_cases c2:j=F.length
        · rw [c2,hl,hk i (by omega)]; exact fun x=>absurd x (hne i (by omega))
        · rw [hk i (by omega),hk j (by omega)]; exact h.inj i j (by omega) (by omega)
  · have:voteF n s F who v=F:=if_neg e
    rw [this]; exact h
theorem lsum_map {f:Nat→Nat} {g:Nat→Nat}:∀ l:List Nat,lsum f (l.map g)=lsum (fun i=>f (g i)) l
  | []=>rfl
  | i :: l=>by simp only [List.map_cons,lsum,lsum_map l]
theorem lsum_range (f:Nat→Nat) (n:Nat):lsum f (List.range n)=sumN f n:=lsum_eq f n _ List.nodup_range fun x=>List.mem_range
theorem VOk.any_le (h:VOk n s F):anyN s F≤sumU s n:=by
  have h1:lsum (fun k=>(s k).toNat) ((List.range F.length).map fun i=>(kF F i).toNat)≤sumN (fun k=>(s k).toNat) n:=by
    refine lsum_le _ n _ (List.pairwise_map.2 (List.Pairwise.imp_of_mem (fun {a b} ha hb hab=>?_) (List.nodup_range (n:=F.length)))) fun x hx=>?_
    · have ha':=List.mem_range.1 ha; have hb':=List.mem_range.1 hb
      intro e
      have:=h.key a ha'; have:=h.key b hb'
      exact hab (h.inj a b ha' hb' (by omega))
    · obtain⟨i,hi,rfl⟩:=List.mem_map.1 hx
      exact(h.key i (List.mem_range.1 hi)).2
  rw [lsum_map,lsum_range] at h1
  rw [sumU_N]; exact h1
theorem for_le_any (v:Nat→UInt8):forN s F v≤anyN s F:=sumN_le _ fun i _=>by split <;> omega
theorem VOk.lt (h:VOk n s F):anyN s F < 2 ^ 63:=Nat.lt_of_le_of_lt h.any_le h.good.2
theorem VOk.forV (h:VOk n s F) (v:Nat→UInt8):(forV s F v).toNat=forN s F v:=by
  have:=for_le_any (s:=s) (F:=F) v; have:=h.lt
  unfold Go.Eng.forV
  rw [UInt64.toNat_ofNat']; exact Nat.mod_eq_of_lt (by omega)
theorem VOk.all (h:VOk n s F):(totN s n).a.toNat=sumU s n:=by
  have hv:=totN_val s n (by have:=h.good.1; omega)
  rw [N4.a_of_lt (by have:=h.good.2; omega),hv]
theorem lsum_ord {f:Nat→Nat} {o:List Nat} {m:Nat} (h:OrdA m o):lsum f o=sumN f m:=lsum_eq f m o h.nd h.mem
theorem for_bit (h:VOk n s F) (v:Nat→UInt8) {o:List Nat} (ho:OrdA F.length o):(findE eqT true (bitM s F v o)).getD 0=Go.Eng.forV s F v:=by
  apply UInt64.toNat_inj.1
  rw [h.forV]
  unfold bitM
  rw [gm_find eqvT,lsum_ord ho,show(fun i=>if eqT true (sR (vF F i) v)=true then (sF s F i).toNat else 0)=(fun i=>if sR (vF F i) v=true then (sF s F i).toNat else 0) from funext fun i=>by cases sR (vF F i) v <;> rfl]
  exact Nat.mod_eq_of_lt (Nat.lt_of_le_of_lt (for_le_any (s:=s) (F:=F) v) (Nat.lt_trans h.lt (by decide)))
theorem forN_congr {v w:Nat→UInt8} (h:sR v w=true):forN s F v=forN s F w:=sumN_congr _ fun i _=>by
  rw [sR_comm,sR_comm _ w,eqv_row.left h]
end
end Go.Eng
namespace Go.Eng
theorem VOk.len {n:Nat} {s:Nat→UInt64} {F:Fst} (h:VOk n s F):F.length≤40:=by
  have h1:OrdN n ((List.range F.length).map fun i=>(kF F i).toNat):=by
    refine⟨List.pairwise_map.2 (List.Pairwise.imp_of_mem (fun {a b} ha hb hab=>?_) (List.nodup_range (n:=F.length))),fun x hx=>?_⟩
    · have ha':=List.mem_range.1 ha; have hb':=List.mem_range.1 hb
      intro e
      have:=h.key a ha'; have:=h.key b hb'
      exact hab (h.inj a b ha' hb' (by omega))
    · obtain⟨i,hi,rfl⟩:=List.mem_map.1 hx
      exact(h.key i (List.mem_range.1 hi)).2
  have h2:=nodup_len h1
  have:=h.good.1
  simp at h2; omega
theorem more_val {p a:UInt64}:decide (cmp4 (mul8 (smallN p) (smallN 3)).lo (smallN a) > 0)=moreU p a:=by
  have hp:=p.toNat_lt; have ha:=a.toNat_lt
  have e:∀ x y:UInt64,(mul8 (smallN x) (smallN y)).lo.val=x.toNat*y.toNat:=fun x y=>by
    have h1:=mul8_val (smallN x) (smallN y)
    rw [smallN_val,smallN_val] at h1
    have hx:=x.toNat_lt; have hy:=y.toNat_lt
    have hm:x.toNat*y.toNat < 2 ^ 128:=Nat.lt_of_lt_of_le (Nat.mul_lt_mul'' hx hy) (by decide)
    have hl:=(mul8 (smallN x) (smallN y)).lo.val_lt
    have hv:(mul8 (smallN x) (smallN y)).val=(mul8 (smallN x) (smallN y)).lo.val+2 ^ 256*(mul8 (smallN x) (smallN y)).hi.val:=rfl
    have hz:(mul8 (smallN x) (smallN y)).hi.val=0:=by
      rcases Nat.eq_zero_or_pos (mul8 (smallN x) (smallN y)).hi.val with h0 | h0
      · exact h0
      · have:=Nat.mul_le_mul_left (2 ^ 256) h0; omega
    omega
  unfold moreU
  rw [cmp4_eq,e,smallN_val,show(3:UInt64).toNat=3 from rfl]
  have:(ord (p.toNat*3) a.toNat > 0) ↔ a.toNat < 3*p.toNat:=by
    unfold ord; split <;> (try split) <;> omega
  exact decide_eq_decide.2 this
end Go.Eng
namespace Go.Eng
section
variable {n:Nat} {s:Nat→UInt64} {F:Fst} {A:List (Int × Unit)} {who:Int} {v:Nat→UInt8}
theorem vote_res {e:Int} (h:voteE n s F who v=e) (h0:e≠0) (h52:e≠52):voteF n s F who v=F∧voteA n s F A who v=A :=
  ⟨if_neg (by rw [h]; exact h0),if_neg (by rw [h]; exact h52)⟩
theorem vote_1 (h:who < 0∨(n:Int)≤who):voteE n s F who v=1:=if_pos h
theorem vote_51 (h:¬ (who < 0∨(n:Int)≤who)) (h0:(s who.toNat == 0)=true):voteE n s F who v=51:=by
  unfold voteE; rw [if_neg h,if_pos (eq_of_beq h0)]
theorem vote_0 (h:¬ (who < 0∨(n:Int)≤who)) (h0:(s who.toNat == 0)=false) (hf:(findE eqI who F).isSome=false):voteE n s F who v=0:=by
  unfold voteE; rw [if_neg h,if_neg (by simpa using h0)]
  cases hc:findE eqI who F with
  | none=>rfl
  | some w=>rw [hc] at hf; cases hf
theorem vote_13 (h:¬ (who < 0∨(n:Int)≤who)) (h0:(s who.toNat == 0)=false) (hf:(findE eqI who F).isSome=true) (hs:sR ((findE eqI who F).getD fun _=>0) v=true):voteE n s F who v=13:=by
  unfold voteE; rw [if_neg h,if_neg (by simpa using h0)]
  cases hc:findE eqI who F with
  | none=>rw [hc] at hf; cases hf
  | some w=>rw [hc] at hs; exact if_pos hs
theorem vote_52 (h:¬ (who < 0∨(n:Int)≤who)) (h0:(s who.toNat == 0)=false) (hf:(findE eqI who F).isSome=true) (hs:sR ((findE eqI who F).getD fun _=>0) v=false):voteE n s F who v=52:=by
  unfold voteE; rw [if_neg h,if_neg (by simpa using h0)]
  cases hc:findE eqI who F with
  | none=>rw [hc] at hf; cases hf
  | some w=>rw [hc] at hs; exact if_neg (by rw [show sR w v=false from hs]; decide)
theorem voteF_0 (h:voteE n s F who v=0):voteF n s F who v=putE eqI who v F∧voteA n s F A who v=A:=⟨if_pos h,if_neg (by rw [h]; decide)⟩
theorem voteA_52 (h:voteE n s F who v=52):voteF n s F who v=F∧voteA n s F A who v=putE eqI who () A:=⟨if_neg (by rw [h]; decide),if_pos h⟩
end
end Go.Eng
namespace Go.Eng
def urowL (l:List UInt64):Nat→UInt64:=fun k=>l.getD k 0
theorem urowL_get (l:List UInt64):∀ j v,(tabF l.length fun k=>u64 (urowL l k)).get j=some v→(Cont.lit (l.map u64)).get j=some v:=fun j v hj=>by
  by_cases h:j < l.length
  · rw [tabF_in h] at hj
    injection hj with hj; subst hj
    show(l.map u64)[j]? = _
    simp [urowL,h]
  · rw [tabF_out h] at hj; cases hj
def okB (n:Nat) (s:Nat→UInt64) (F:Fst):Bool:=decide (n≤40) && decide (sumU s n < 2 ^ 63) && (List.range F.length).all (fun i=>decide (0≤kF F i) && decide ((kF F i).toNat < n)) &&
  (List.range F.length).all (fun i=>(List.range F.length).all fun j=>!decide (kF F i=kF F j) || decide (i=j))
theorem VOk.of {n:Nat} {s:Nat→UInt64} {F:Fst} (h:okB n s F=true):VOk n s F:=by
  simp only [okB,Bool.and_eq_true,List.all_eq_true,decide_eq_true_eq,Bool.or_eq_true,Bool.not_eq_true',decide_eq_false_iff_not] at h
  obtain⟨⟨⟨h1,h2⟩,h3⟩,h4⟩:=h
  exact⟨⟨h1,h2⟩,fun i hi=>h3 i (List.mem_range.2 hi),fun i j hi hj e=>by
    rcases h4 i (List.mem_range.2 hi) j (List.mem_range.2 hj) with h5 | h5
    · exact absurd e h5
    · exact h5⟩
end Go.Eng
end
section
namespace Go.Eng
open Go.WideShapes Go.ChangeShapes Go.ChangeAt Go.ChangeMaps
def eqW (a b:UInt64):Bool:=a == b
theorem eqW_iff {a b:UInt64}:eqW a b=true ↔ a=b:=beq_iff_eq
theorem intW (a b:UInt64):((a.toNat:Int) == (b.toNat:Int))=eqW a b:=by
  rw [Bool.eq_iff_iff,eqW_iff,beq_iff_eq]
  exact⟨fun h=>UInt64.toNat_inj.1 (by omega),fun h=>by rw [h]⟩
section
variable {α β:Type}
def entsP (kv:α→Value) (ev:β→Value) (D:List Nat):List (α × β)→Nat→List MapEntry
  | [],_=>[]
  | (k,x) :: r,i=>if D.contains i=true then entsP kv ev D r (i+1) else ⟨kv k,ev x,i⟩ :: entsP kv ev D r (i+1)
def mapP (kv:α→Value) (ev:β→Value) (D:List Nat) (l:List (α × β)):Cont:=.map (entsP kv ev D l 0).toArray l.length
theorem entsP_nil (kv:α→Value) (ev:β→Value):∀ (l:List (α × β)) (i:Nat),entsP kv ev [] l i=entsL kv ev l i
  | [],_=>rfl
  | (k,x) :: r,i=>by simp only [entsP,entsL]; rw [entsP_nil kv ev r (i+1)]; rfl
theorem mapP_nil (kv:α→Value) (ev:β→Value) (l:List (α × β)):mapP kv ev [] l=mapC kv ev l:=by unfold mapP mapC; rw [entsP_nil]
def findP (eqb:α→α→Bool) (k:α) (D:List Nat):List (α × β)→Nat→Nat→Option (Nat × Nat × β)
  | [],_,_=>none
  | (h,x) :: r,i,q=>if D.contains i=true then findP eqb k D r (i+1) q else if eqb k h=true then some (q,i,x) else findP eqb k D r (i+1) (q+1)
def findV (eqb:α→α→Bool) (k:α) (D:List Nat) (l:List (α × β)):Option β:=(findP eqb k D l 0 0).map fun p=>p.2.2
def numP (D:List Nat) (n:Nat):Nat:=((List.range n).filter fun i=>!D.contains i).length
variable {P:Program} {mt kt et:TypeId} {kv:α→Value} {ev:β→Value} {z:β} {eqb:α→α→Bool}
theorem findNow_P {kd:TypeDesc} (hs:∀ k h,Instr.sameNow kd (kv k) (kv h)=some (eqb k h)) (k:α) (D:List Nat):∀ (l:List (α × β)) (i q:Nat),Instr.findNow kd (kv k) (entsP kv ev D l i) q=some ((findP eqb k D l i q).map fun p=>(p.1,ev p.2.2))
  | [],_,_=>rfl
  | (h,x) :: r,i,q=>by
    simp only [entsP,findP]
    by_cases hD:D.contains i=true
    · rw [if_pos hD,if_pos hD]; exact findNow_P hs k D r (i+1) q
    · rw [if_neg hD,if_neg hD]
      simp only [Instr.findNow,hs]
      cases e:eqb k h with
      | true=>simp
      | false=>simpa using findNow_P hs k D r (i+1) (q+1)
structure MapN (P:Program) (mt kt et:TypeId) (kv:α→Value) (ev:β→Value) (z:β) (eqb:α→α→Bool):Prop extends MapT P mt kt et kv ev z eqb where
  fndP:∀ k D (l:List (α × β)) w,(Instr.findKey kt (kv k) (entsP kv ev D l 0)).run P w = .ok ((findP eqb k D l 0 0).map fun p=>(p.1,ev p.2.2)) w
theorem entsP_mem (D:List Nat):∀ {l:List (α × β)} {i:Nat} {e:MapEntry},e ∈ entsP kv ev D l i→∃ j h x,l[j]? = some (h,x)∧D.contains (i+j)=false∧e=⟨kv h,ev x,i+j⟩
  | [],_,e,he=>by cases he
  | (h,x) :: r,i,e,he=>by
    simp only [entsP] at he
    by_cases hD:D.contains i=true
    · rw [if_pos hD] at he
      obtain⟨j,h',x',h1,h2,h3⟩:=entsP_mem D he
      exact⟨j+1,h',x',by simpa using h1,by rw [show i+(j+1)=i+1+j by omega]; exact h2,by rw [show i+(j+1)=i+1+j by omega]; exact h3⟩
    · rw [if_neg hD] at he
      rcases List.mem_cons.1 he with rfl | he
      · exact⟨0,h,x,rfl,by simpa using hD,rfl⟩
      · obtain⟨j,h',x',h1,h2,h3⟩:=entsP_mem D he
        exact⟨j+1,h',x',by simpa using h1,by rw [show i+(j+1)=i+1+j by omega]; exact h2,by rw [show i+(j+1)=i+1+j by omega]; exact h3⟩
theorem entsP_in (D:List Nat):∀ {l:List (α × β)} {i j:Nat} {h:α} {x:β},l[j]? = some (h,x)→D.contains (i+j)=false→(⟨kv h,ev x,i+j⟩:MapEntry) ∈ entsP kv ev D l i
  | [],_,_,_,_,e,_=>by simp at e
  | (h0,x0) :: r,i,0,h,x,e,hD=>by
    simp at e; obtain⟨rfl,rfl⟩:=e
    simp only [entsP]
    rw [if_neg (by simpa using hD)]; exact .head _
  | (h0,x0) :: r,i,j+1,h,x,e,hD=>by
    have:=entsP_in D (l:=r) (i:=i+1) (j:=j) (by simpa using e) (by rw [show i+1+j=i+(j+1) by omega]; exact hD)
    rw [show i+1+j=i+(j+1) by omega] at this
    simp only [entsP]
    by_cases h1:D.contains i=true
    · rw [if_pos h1]; exact this
    · rw [if_neg h1]; exact .tail _ this
theorem entsP_born (D:List Nat):∀ (l:List (α × β)) (i:Nat),(entsP kv ev D l i).map (·.born)=(List.range' i l.length).filter fun j=>!D.contains j
  | [],_=>rfl
  | (h,x) :: r,i=>by
    simp only [entsP,List.length_cons,List.range'_succ,List.filter_cons]
    by_cases hD:D.contains i=true
    · rw [if_pos hD,entsP_born D r (i+1),hD]; rfl
    · rw [if_neg hD]
      have hD':D.contains i=false:=by simpa using hD
      simp only [List.map_cons,entsP_born D r (i+1),hD']
      rfl
theorem entsP_len (D:List Nat) (l:List (α × β)):(entsP kv ev D l 0).length=numP D l.length:=by
  have:=congrArg List.length (entsP_born (kv:=kv) (ev:=ev) D l 0)
  rw [List.length_map,← List.range_eq_range'] at this
  exact this
theorem srun_lookP (M : MapN P mt kt et kv ev z eqb) (b : Nat) (own : Bool) (D : List Nat) (l : List (α × β)) (k : α) :
    SRuns P (lookSem mt (.map (some b)) (kv k) true) [⟨b,own,0,mapP kv ev D l⟩] 0 (fun _=>.tuple #[ev ((findV eqb k D l).getD z),.bool (findV eqb k D l).isSome]) (fun _=>[none]):=by
  intro w hall ha
  have hb:=(hall _ (List.mem_singleton.2 rfl)).objm rfl
  refine⟨[],w,rfl,.inl (run_value ?_),post_none 1⟩
  simp only at hb
  unfold Instr.lookup findV
  simp only [Sem.run_bind,run_underlying M.hm,Result.andThen_ok,run_gm hb,Sem.run_pure,M.chk,M.fndP]
  cases hf:findP eqb k D l 0 0 with
  | none=>simp [M.zer]
  | some q=>simp
theorem srun_look1P (M : MapN P mt kt et kv ev z eqb) (b : Nat) (own : Bool) (D : List Nat) (l : List (α × β)) (k : α) :
    SRuns P (lookSem mt (.map (some b)) (kv k) false) [⟨b,own,0,mapP kv ev D l⟩] 0 (fun _=>ev ((findV eqb k D l).getD z)) (fun _=>[none]):=by
  intro w hall ha
  have hb:=(hall _ (List.mem_singleton.2 rfl)).objm rfl
  refine⟨[],w,rfl,.inl (run_value ?_),post_none 1⟩
  simp only at hb
  unfold Instr.lookup findV
  simp only [Sem.run_bind,run_underlying M.hm,Result.andThen_ok,run_gm hb,Sem.run_pure,M.chk,M.fndP]
  cases hf:findP eqb k D l 0 0 with
  | none=>simp [M.zer]
  | some q=>simp
theorem srun_look1N (M:MapT P mt kt et kv ev z eqb) (k:α):SRuns P (lookSem mt (.map none) (kv k) false) [] 0 (fun _=>ev z) (fun _=>[]):=by
  intro w hall ha
  refine⟨[],w,rfl,.inl (run_value ?_),⟨fun p b h=>?_,fun p q b c _ h=>?_,Adv.refl _ _⟩⟩
  · unfold Instr.lookup
    have h:=M.fnd k [] 0 w
    simp only [entsL] at h
    simp only [Sem.run_bind,run_underlying M.hm,Result.andThen_ok,Sem.run_pure,M.chk]
    have h':(Instr.findKey kt (kv k) (#[]:Array MapEntry).toList).run P w = .ok none w:=h
    rw [h']
    simp [M.zer]
  · simp [lM] at h
  · simp [lM] at h
def lenSem (t ty:TypeId) (x:Value):Sem Next:=do pure (.value (← Builtin.len_ #[t] ty #[x]))
theorem srun_lenP (hm : P.underlying mt = some (.map kt et)) (ty b : Nat) (own : Bool) (D : List Nat) (l : List (α × β)) :
    SRuns P (lenSem mt ty (.map (some b))) [⟨b,own,0,mapP kv ev D l⟩] 0 (fun _=>nat (numP D l.length)) (fun _=>[none]):=by
  intro w hall ha
  have hb:=(hall _ (List.mem_singleton.2 rfl)).objm rfl
  simp only at hb
  refine⟨[],w,rfl,.inl (run_value ?_),post_none 1⟩
  have hb':w.heap[b]? = some (.map (entsP kv ev D l 0).toArray l.length):=hb
  unfold Builtin.len_
  simp [run_underlying hm,run_gm hb',entsP_len,nat,goInt]
theorem srun_rngP (hm : P.underlying mt = some (.map kt et)) (b : Nat) (own : Bool) (D : List Nat) (l : List (α × β)) :
    SRuns P (rngSem mt (.map (some b))) [⟨b,own,0,mapP kv ev D l⟩] 1 (fun ns=>ptr (ns.getD 0 0) 0) (fun ns=>[none,some ⟨ns.getD 0 0,true,0,itC b l.length []⟩]):=by
  intro w hall ha
  have hb:=(hall _ (List.mem_singleton.2 rfl)).objm rfl
  obtain⟨h1,h2⟩:=heap_alloc' w (.mapIter (some b) l.length #[] l.length)
  refine⟨[w.heap.size],w.alloc (.mapIter (some b) l.length #[] l.length),rfl,.inl (run_value ?_),⟨fun p c hpc=>?_,fun p p' c d hpp hc hd ho=>?_,⟨rfl,rfl,rfl,by simp,fun j hj _=>h2 j hj,fun j hj=>?_,fun p c hpc ho=>?_⟩⟩⟩
  · exact run_range_map w mt kt et b _ _ hm hb
  · rcases p with _ | _ | p
    · simp [lM] at hpc
    · injection hpc with hpc; subst hpc
      exact⟨by simp,(fun o v ho=>by cases ho),(fun _ o v ho=>by cases ho),h1⟩
    · simp [lM] at hpc
  · rcases p with _ | _ | p
    · simp [lM] at hc
    · rcases p' with _ | _ | p'
      · simp [lM] at hd
      · exact absurd rfl hpp
      · simp [lM] at hd
    · simp [lM] at hc
  · obtain⟨p,c,hpc,ho,hjk⟩:=hj
    rcases p with _ | _ | p
    · simp [lM] at hpc
    · injection hpc with hpc; subst hpc; exact .inr (Nat.le_of_eq hjk)
    · simp [lM] at hpc
  · rcases p with _ | _ | p
    · simp [lM] at hpc
    · injection hpc with hpc; subst hpc; cases ho
    · simp [lM] at hpc
def SeenP (S D o:List Nat):Prop:=∀ i,S.contains i=(D.contains i || o.contains i)
theorem SeenP.nil (D:List Nat):SeenP D D []:=fun i=>by simp
theorem SeenP.all (o:List Nat):SeenP o [] o:=fun i=>by simp
theorem leftP_iff {l:List (α × β)} {S D o:List Nat} (hS:SeenP S D o):(leftOf (entsP kv ev D l 0).toArray o.toArray).size=0 ↔ unseen S l.length=false:=by
  unfold leftOf
  constructor
  · intro h
    have h2:Array.filter (fun e=>!o.toArray.contains e.born) (entsP kv ev D l 0).toArray = #[]:=Array.eq_empty_of_size_eq_zero h
    rw [Array.filter_eq_empty_iff] at h2
    cases hu:unseen S l.length with
    | false=>rfl
    | true =>
      obtain⟨i,h3,h4⟩:=List.any_eq_true.1 hu
      have hi:=List.mem_range.1 h3
      have h5:S.contains i=false:=by simpa using h4
      rw [hS i] at h5
      have h6:D.contains i=false:=by cases hc:D.contains i <;> rw [hc] at h5 <;> first | rfl | cases h5
      have h7:o.contains i=false:=by rw [h6] at h5; simpa using h5
      have hm:=entsP_in (kv:=kv) (ev:=ev) D (l:=l) (i:=0) (j:=i) (h:=l[i].1) (x:=l[i].2) (by simp [hi]) (by rw [Nat.zero_add]; exact h6)
      rw [Nat.zero_add] at hm
      have h8:=h2 _ (by simpa using hm)
      simp at h8 h7
      exact absurd h8 h7
  · intro h
    have hs:=unseen_f h
    have:Array.filter (fun e=>!o.toArray.contains e.born) (entsP kv ev D l 0).toArray = #[]:=by
      rw [Array.filter_eq_empty_iff]
      intro e he
      obtain⟨j,h',x,h1,h2,rfl⟩:=entsP_mem D (by simpa using he)
      have hj:j < l.length:=(List.getElem?_eq_some_iff.1 h1).1
      have h3:=hs j hj
      rw [hS j] at h3
      rw [Nat.zero_add] at h2
      rw [h2,Bool.false_or] at h3
      simp at h3 ⊢
      exact h3
    rw [this]; rfl
theorem srun_nxtP (ty r b : Nat) (own : Bool) (l : List (α × β)) (S D o : List Nat) (d : α × β) (hS : SeenP S D o) (hu : unseen S l.length = true) :
    SRuns P (nxtSem (ptr r 0) ty) [⟨r,true,0,itC b l.length o⟩,⟨b,own,0,mapP kv ev D l⟩] 1
      (fun ns=>.tuple #[.bool true,kv (kvAt d l (pk S l.length (ns.getD 0 0))).1,ev (kvAt d l (pk S l.length (ns.getD 0 0))).2]) (fun ns=>[some ⟨r,true,0,itC b l.length (o ++ [pk S l.length (ns.getD 0 0)])⟩,none]):=by
  intro w hall ha
  have hH:=hall _ (List.mem_cons_self ..)
  have hr:=hH.objm rfl
  have hb:=(hall _ (List.mem_cons_of_mem _ (List.mem_singleton.2 rfl))).objm rfl
  have hr':w.heap[r]? = some (.mapIter (some b) l.length o.toArray l.length):=hr
  have hb':w.heap[b]? = some (.map (entsP kv ev D l 0).toArray l.length):=hb
  have hold:∀ x ∈ (entsP kv ev D l 0).toArray.toList,x.born < l.length:=fun x hx=>by
    obtain⟨j,h,y,h1,_,rfl⟩:=entsP_mem D (by simpa using hx)
    have:=(List.getElem?_eq_some_iff.1 h1).1
    show 0+j < l.length; omega
  rcases run_next_at (P:=P) w ty r b l.length l.length o.toArray _ _ hr' hb' hold (Nat.le_refl _) with ⟨h0,_⟩ | ⟨e,he,w1,hw1,hrun⟩
  · rw [(leftP_iff hS).1 h0] at hu; cases hu
  obtain⟨he1,he2⟩:=mem_left he
  obtain⟨j,h,x,hj,hjD,rfl⟩:=entsP_mem D (by simpa using he1)
  have hjl:j < l.length:=(List.getElem?_eq_some_iff.1 hj).1
  have hjo:o.contains j=false:=by simpa using he2
  have hjS:S.contains j=false:=by rw [Nat.zero_add] at hjD; rw [hS j,hjD,hjo]; rfl
  have hpk:=pk_self hjl hjS
  have hat:kvAt d l j=(h,x):=by unfold kvAt; rw [List.getD_eq_getElem?_getD,hj]; rfl
  have hb1:w1.heap=w.heap:=by rcases hw1 with rfl | rfl <;> rfl
  have hro:w1.heap[r]? = some (.mapIter (some b) l.length o.toArray l.length):=by rw [hb1]; exact hr'
  obtain⟨s1,s2⟩:=heap_set' (o':=.mapIter (some b) l.length (o.toArray.push (0+j)) l.length) hro
  refine⟨[j],setBlock w1 r (.mapIter (some b) l.length (o.toArray.push (0+j)) l.length),rfl,.inl (run_value (hrun.trans ?_)),post_two hH ?_ ?_ ?_ ?_ (fun i hi=>?_) ?_⟩
  · show _=Result.ok (Value.tuple #[Value.bool true,kv (kvAt d l (pk S l.length j)).1,ev (kvAt d l (pk S l.length j)).2]) _
    rw [hpk,hat]
  · rcases hw1 with rfl | rfl <;> rfl
  · rcases hw1 with rfl | rfl <;> rfl
  · rcases hw1 with rfl | rfl <;> rfl
  · simp [setBlock,hb1]
  · have:=s2 i hi
    rw [hb1] at this
    simpa [setBlock,hb1] using this
  · refine⟨?_,(fun o v ho=>by cases ho),(fun _ o v ho=>by cases ho),?_⟩
    · have:=hH.lt; simpa [setBlock,hb1] using this
    · show(w1.heap.setIfInBounds r _)[r]? = _
      rw [s1]
      show _=some (Obj.mapIter (some b) l.length (o ++ [pk S l.length j]).toArray l.length)
      rw [hpk]; simp
theorem srun_nxt0P (ty r b : Nat) (ow own : Bool) (l : List (α × β)) (S D o : List Nat) (hS : SeenP S D o) (hu : unseen S l.length = false) :
    SRuns P (nxtSem (ptr r 0) ty) [⟨r,ow,0,itC b l.length o⟩,⟨b,own,0,mapP kv ev D l⟩] 0 (fun _=>.tuple #[.bool false]) (fun _=>[none,none]):=by
  intro w hall ha
  have hr:=(hall _ (List.mem_cons_self ..)).objm rfl
  have hb:=(hall _ (List.mem_cons_of_mem _ (List.mem_singleton.2 rfl))).objm rfl
  have hold:∀ x ∈ (entsP kv ev D l 0).toArray.toList,x.born < l.length:=fun x hx=>by
    obtain⟨j,h,y,h1,_,rfl⟩:=entsP_mem D (by simpa using hx)
    have:=(List.getElem?_eq_some_iff.1 h1).1
    show 0+j < l.length; omega
  have h0:(leftOf (entsP kv ev D l 0).toArray o.toArray).size=0:=(leftP_iff hS).2 hu
  rcases run_next_at (P:=P) w ty r b l.length l.length o.toArray _ _ hr hb hold (Nat.le_refl _) with ⟨_,h1⟩ | ⟨e,he,_⟩
  · exact⟨[],w,rfl,.inl (run_value h1),post_none 2⟩
  · have:(leftOf (entsP kv ev D l 0).toArray o.toArray) = #[]:=Array.eq_empty_of_size_eq_zero h0
    rw [this] at he; simp at he
theorem srun_entP (r b : Nat) (ow own : Bool) (l : List (α × β)) (D o : List Nat) (j : Nat) (d : α × β) (hj : j < l.length) (hD : D.contains j = false) :
    SRuns P (entSem (ptr r 0)) [⟨r,ow,0,itC b l.length (o ++ [j])⟩,⟨b,own,0,mapP kv ev D l⟩] 0 (fun _=>.tuple #[kv (kvAt d l j).1,ev (kvAt d l j).2]) (fun _=>[none,none]):=by
  intro w hall ha
  have hr:=(hall _ (List.mem_cons_self ..)).objm rfl
  have hb:=(hall _ (List.mem_cons_of_mem _ (List.mem_singleton.2 rfl))).objm rfl
  have he:=entsP_in (kv:=kv) (ev:=ev) D (l:=l) (i:=0) (j:=j) (h:=l[j].1) (x:=l[j].2) (by simp [hj]) (by rw [Nat.zero_add]; exact hD)
  have hat:kvAt d l j=l[j]:=by unfold kvAt; simp [List.getD_eq_getElem?_getD,hj]
  have hr2:w.heap[r]? = some (.mapIter (some b) l.length (o.toArray.push (⟨kv l[j].1,ev l[j].2,0+j⟩:MapEntry).born) l.length):=by
    have:w.heap[r]? = some (.mapIter (some b) l.length (o ++ [j]).toArray l.length):=hr
    rw [this]; simp
  refine⟨[],w,rfl,.inl (run_value ?_),post_none 2⟩
  rw [hat]
  refine run_entry_at (P:=P) w r b l.length o.toArray _ _ _ hr2 hb (by simpa using he) ?_
  rw [show(entsP kv ev D l 0).toArray.toList=entsP kv ev D l 0 by simp,entsP_born]
  exact List.Pairwise.filter _ List.nodup_range'
theorem findP_at {k:α} {D:List Nat}:∀ {l:List (α × β)} {i q p j:Nat} {x:β},findP eqb k D l i q=some (p,j,x)→q≤p∧i≤j∧(entsP kv ev D l i).eraseIdx (p - q)=entsP kv ev (D ++ [j]) l i∧∃ h,l[j - i]? = some (h,x)∧eqb k h=true∧D.contains j=false
  | [],_,_,_,_,_,e=>by cases e
  | (h,y) :: r,i,q,p,j,x,e=>by
    simp only [findP] at e
    by_cases hD:D.contains i=true
    · rw [if_pos hD] at e
      obtain⟨h1,h2,h3,h',h4,h5,h6⟩:=findP_at e
      refine⟨h1,by omega,?_,h',by rw [show j - i=(j - (i+1))+1 by omega]; simpa using h4,h5,h6⟩
      simp only [entsP]
      rw [if_pos hD,if_pos (by simp at hD ⊢; exact .inl hD)]; exact h3
    · rw [if_neg hD] at e
      have hD':D.contains i=false:=by simpa using hD
      by_cases he:eqb k h=true
      · rw [if_pos he] at e
        injection e with e; injection e with e1 e2; injection e2 with e2 e3; subst e1; subst e2; subst e3
        refine⟨Nat.le_refl _,Nat.le_refl _,?_,h,by simp,he,hD'⟩
        simp only [entsP]
        rw [if_neg hD,if_pos (by simp),Nat.sub_self]
        show entsP kv ev D r (i+1)=_
        have:∀ (r:List (α × β)) (m:Nat),i < m→entsP kv ev D r m=entsP kv ev (D ++ [i]) r m:=fun r=>by
          induction r with
          | nil=>intro m _; rfl
          | cons z r ih =>
            obtain⟨a,b⟩:=z
            intro m hm
            simp only [entsP]
            rw [List.contains_append,show([i]:List Nat).contains m=false by simp; omega,Bool.or_false,ih (m+1) (by omega)]
        exact this r (i+1) (by omega)
      · rw [if_neg he] at e
        obtain⟨h1,h2,h3,h',h4,h5,h6⟩:=findP_at e
        refine⟨by omega,by omega,?_,h',by rw [show j - i=(j - (i+1))+1 by omega]; simpa using h4,h5,h6⟩
        simp only [entsP]
        rw [if_neg hD,if_neg (by rw [List.contains_append,hD',show([j]:List Nat).contains i=false by simp; omega]; decide),show p - q=(p - (q+1))+1 by omega,List.eraseIdx_cons_succ,h3]
def delSem (t k ty:TypeId) (x y:Value):Sem Next:=do pure (.value (← Builtin.delete_ #[t,k] ty #[x,y]))
theorem srun_delP (M : MapN P mt kt et kv ev z eqb) (tk ty b : Nat) (D : List Nat) (l : List (α × β)) (k : α) (p j : Nat) (x : β) (hf : findP eqb k D l 0 0 = some (p, j, x)) :
    SRuns P (delSem mt tk ty (.map (some b)) (kv k)) [⟨b,true,0,mapP kv ev D l⟩] 0 (fun _=>.tuple #[]) (fun _=>[some ⟨b,true,0,mapP kv ev (D ++ [j]) l⟩]):=by
  intro w hall ha
  have hH:=hall _ (List.mem_singleton.2 rfl)
  have hb:=hH.objm rfl
  simp only at hb
  have hb':w.heap[b]? = some (.map (entsP kv ev D l 0).toArray l.length):=hb
  obtain⟨_,_,h3,_⟩:=findP_at (kv:=kv) (ev:=ev) hf
  refine⟨[],_,rfl,.inl (run_value ?_),post_map hH⟩
  unfold Builtin.delete_
  simp only [Sem.run_bind,List.getElem?_toArray,List.getElem?_cons_zero,List.getElem?_cons_succ,run_underlying M.hm,Result.andThen_ok,run_gm hb',M.chk,M.fndP,hf,Option.map_some,run_sm _ hb',Sem.run_pure]
  simp only [Nat.sub_zero] at h3
  rw [← h3]
  simp [OC.obj]
end
section
variable {P:Program} {mt kt et:TypeId} {β:Type} {ev:β→Value} {z:β}
theorem u64_keys (hm:P.underlying mt=some (.map kt et)) (hk:P.underlying kt=some (.int .u64)) (hz:∀ w,(zeroValue et).run P w = .ok (ev z) w):MapN P mt kt et u64 ev z eqW :=
  have hs:∀ k h:UInt64,Instr.sameNow (.int .u64) (u64 k) (u64 h)=some (eqW k h):=fun k h=>by rw [← intW]; rfl
  { mapT_now hm hk hs (fun em k w => by unfold Instr.checkKey; simp [run_underlying hk, u64]) (fun k h w => by
      have:pureRun P (Op.equal kt (u64 k) (u64 h))=some (eqW k h):=by
        show pureRun P (Op.equalIn (9999+1) kt (.int .u64 k.toNat) (.int .u64 h.toNat))=_
        unfold Op.equalIn; rw [pureRun_bind',pureRun_underlying hk,← intW]; rfl
      exact pureRun_run this w) (fun k h e=>by rw [eqW_iff.1 e]; simp [Instr.sameBits,u64]) hz with
    fndP:=fun k D l w=>MapKept.run_findKey hk (findNow_P hs k D l 0 0) }
end
end Go.Eng
namespace Go.Eng
open Go.WideShapes Go.ChangeShapes Go.ChangeAt Go.ChangeMaps
def itNo (_:Unit):Cont:=.map (.o (.mapIter none 0 #[] 0)) 0
theorem srun_rngN {P:Program} {mt kt et:TypeId} (hm:P.underlying mt=some (.map kt et)):SRuns P (rngSem mt (.map none)) [] 1 (fun ns=>ptr (ns.getD 0 0) 0) (fun ns=>[some ⟨ns.getD 0 0,true,0,itNo ()⟩]):=by
  intro w hall ha
  obtain⟨h1,h2⟩:=heap_alloc' w (.mapIter none 0 #[] 0)
  refine⟨[w.heap.size],w.alloc (.mapIter none 0 #[] 0),rfl,.inl (run_value ?_),⟨fun p c hpc=>?_,fun p p' c d hpp hc hd ho=>?_,⟨rfl,rfl,rfl,by simp,fun j hj _=>h2 j hj,fun j hj=>?_,fun p c hpc ho=>?_⟩⟩⟩
  · exact run_range_nilMap w mt kt et hm
  · rcases p with _ | p
    · injection hpc with hpc; subst hpc
      exact⟨by simp,(fun o v ho=>by cases ho),(fun _ o v ho=>by cases ho),h1⟩
    · simp [lM] at hpc
  · rcases p with _ | p
    · rcases p' with _ | p'
      · exact absurd rfl hpp
      · simp [lM] at hd
    · simp [lM] at hc
  · obtain⟨p,c,hpc,ho,hjk⟩:=hj
    rcases p with _ | p
    · injection hpc with hpc; subst hpc; exact .inr (Nat.le_of_eq hjk)
    · simp [lM] at hpc
  · rcases p with _ | p
    · injection hpc with hpc; subst hpc; cases ho
    · simp [lM] at hpc
theorem srun_nxtN {P:Program} (ty r:Nat) (ow:Bool):SRuns P (nxtSem (ptr r 0) ty) [⟨r,ow,0,itNo ()⟩] 0 (fun _=>.tuple #[.bool false]) (fun _=>[none]):=by
  intro w hall ha
  have hr:=(hall _ (List.mem_singleton.2 rfl)).objm rfl
  refine⟨[],w,rfl,.inl (run_value ?_),post_none 1⟩
  have hr':w.heap[r]? = some (.mapIter none 0 #[] 0):=hr
  show(Instr.next (.pointer (some ⟨r,0,none⟩)) false ty).run P w=_
  simp [Instr.next,getObj,Sem.run,hr']
theorem litF_in {n i:Nat} {g:Nat→Value} (h:i < n):(litF n g).get i=some (g i):=by
  rw [← get_tabF]; exact tabF_in h
end Go.Eng
namespace Go.Eng
open Go.WideShapes Go.ChangeShapes Go.ChangeAt Go.ChangeMaps
section
variable {α β:Type} {kv:α→Value} {ev:β→Value}
theorem entsP_congr {D E:List Nat}:∀ (l:List (α × β)) (i:Nat),(∀ j,j < i+l.length→D.contains j=E.contains j)→entsP kv ev D l i=entsP kv ev E l i
  | [],_,_=>rfl
  | (k,x) :: r,i,h=>by
    simp only [entsP]
    rw [h i (by simp),entsP_congr r (i+1) fun j hj=>h j (by simp at hj ⊢; omega)]
theorem mapP_congr {D E:List Nat} {l:List (α × β)} (h:∀ j,j < l.length→D.contains j=E.contains j):mapP kv ev D l=mapP kv ev E l:=by
  unfold mapP; rw [entsP_congr l 0 fun j hj=>h j (by omega)]
theorem numP_le (D:List Nat) (n:Nat):numP D n≤n:=by
  unfold numP
  exact Nat.le_trans (List.length_filter_le _ _) (by simp)
end
theorem seen_flt (p:Nat→Bool) (o:List Nat):SeenP o (o.filter p) o:=fun i=>by
  cases h:o.contains i with
  | true=>simp
  | false =>
    have:(o.filter p).contains i=false:=by
      simp at h ⊢
      exact fun z=>absurd z h
    rw [this]; rfl
theorem seen_off {S D o:List Nat} (h:SeenP S D o) {j:Nat} (hj:S.contains j=false):D.contains j=false:=by
  have:=h j
  rw [hj] at this
  cases hd:D.contains j with
  | false=>rfl
  | true=>rw [hd] at this; simp at this
section
variable {β:Type}
def d0W:UInt64 × Option (Nat × Nat):=(0,none)
theorem findP_key {d:UInt64 × β} {D:List Nat}:∀ {l:List (UInt64 × β)} {i q j:Nat},(l.map (·.1)).Nodup→j < l.length→D.contains (i+j)=false→∃ p,findP eqW (l.getD j d).1 D l i q=some (p,i+j,(l.getD j d).2)
  | [],_,_,_,_,h,_=>absurd h (Nat.not_lt_zero _)
  | (h,x) :: r,i,q,0,hn,_,hD=>⟨q,by
    simp only [findP,List.getD_cons_zero]
    rw [if_neg (by simpa using hD),if_pos (eqW_iff.2 rfl)]; rfl⟩
  | (h,x) :: r,i,q,j+1,hn,hj,hD=>by
    have hn':=List.nodup_cons.1 (by simpa using hn:(h :: r.map (·.1)).Nodup)
    have hj':j < r.length:=by simpa using hj
    have hne:eqW (r.getD j d).1 h=false:=by
      cases e:eqW (r.getD j d).1 h with
      | false=>rfl
      | true =>
        exfalso
        have:=eqW_iff.1 e
        refine hn'.1 (this ▸ List.mem_map.2 ⟨r[j],List.getElem_mem hj',?_⟩)
        simp [List.getD_eq_getElem?_getD,hj']
    simp only [findP,List.getD_cons_succ]
    by_cases hi:D.contains i=true
    · rw [if_pos hi]
      obtain⟨p,hp⟩:=findP_key (d:=d) (D:=D) (l:=r) (i:=i+1) (q:=q) (j:=j) hn'.2 hj' (by rw [show i+1+j=i+(j+1) by omega]; exact hD)
      exact⟨p,by rw [hp,show i+1+j=i+(j+1) by omega]⟩
    · rw [if_neg hi,if_neg (by rw [hne]; decide)]
      obtain⟨p,hp⟩:=findP_key (d:=d) (D:=D) (l:=r) (i:=i+1) (q:=q+1) (j:=j) hn'.2 hj' (by rw [show i+1+j=i+(j+1) by omega]; exact hD)
      exact⟨p,by rw [hp,show i+1+j=i+(j+1) by omega]⟩
theorem srun_delJ {P : Program} {mt kt et : TypeId} {ev : β → Value} {z : β} (M : MapN P mt kt et u64 ev z eqW) (tk ty b : Nat) (D : List Nat) (l : List (UInt64 × β)) (d : UInt64 × β) (j : Nat) (hn : (l.map (·.1)).Nodup) (hj : j < l.length) (hD : D.contains j = false) :
    SRuns P (delSem mt tk ty (.map (some b)) (u64 (kvAt d l j).1)) [⟨b,true,0,mapP u64 ev D l⟩] 0 (fun _=>.tuple #[]) (fun _=>[some ⟨b,true,0,mapP u64 ev (D ++ [j]) l⟩]):=by
  obtain⟨p,hp⟩:=findP_key (d:=d) (D:=D) (l:=l) (i:=0) (q:=0) hn hj (by rw [Nat.zero_add]; exact hD)
  rw [Nat.zero_add] at hp
  exact srun_delP M tk ty b D l _ p j _ hp
def lsK (l:List (UInt64 × Option (Nat × Nat))) (b:UInt64) (i:Nat):Bool:=decide ((kvAt d0W l i).1 < b)
def fgD (l:List (UInt64 × Option (Nat × Nat))) (b:UInt64):List Nat:=(List.range l.length).filter (lsK l b)
theorem fgD_all {l:List (UInt64 × Option (Nat × Nat))} {b:UInt64} {o:List Nat} (h:OrdA l.length o) (j:Nat):(o.filter (lsK l b)).contains j=(fgD l b).contains j:=by
  unfold fgD
  rw [Bool.eq_iff_iff]
  simp only [List.contains_iff_mem,List.mem_filter,List.mem_range]
  rw [h.mem]
end
end Go.Eng
namespace Go.Eng
theorem flt_yes {p:Nat→Bool} {o:List Nat} {j:Nat} (h:p j=true):o.filter p ++ [j]=(o ++ [j]).filter p:=by
  rw [List.filter_append]; simp [h]
theorem flt_no {p:Nat→Bool} {o:List Nat} {j:Nat} (h:p j=false):o.filter p=(o ++ [j]).filter p:=by
  rw [List.filter_append]; simp [h]
end Go.Eng
end
section
namespace Go.Eng
section
variable {n:Nat} {s:Nat→UInt64} {F:Fst}
theorem forN_app (x:Int × (Nat→UInt8)) (v:Nat→UInt8):forN s (F ++ [x]) v=forN s F v+if sR x.2 v=true then (s x.1.toNat).toNat else 0:=by
  unfold forN
  rw [List.length_append,show [x].length=1 from rfl]
  simp only [sumN]
  have e:vF (F ++ [x]) F.length=x.2:=by unfold vF; rw [at_end]
  have e2:sF s (F ++ [x]) F.length=s x.1.toNat:=by unfold sF kF; rw [at_end]
  rw [e,e2]
  congr 1
  exact sumN_congr _ fun i hi=>by
    have h1:vF (F ++ [x]) i=vF F i:=by unfold vF; rw [at_app hi]
    have h2:sF s (F ++ [x]) i=sF s F i:=by unfold sF kF; rw [at_app hi]
    rw [h1,h2]
structure Grew (n:Nat) (s:Nat→UInt64) (F G:Fst):Prop where
  f:∀ v,forN s F v≤forN s G v
  a:anyN s F≤anyN s G
variable {G:Fst}
theorem Grew.more (h:Grew n s F G) (hF:VOk n s F) (hG:VOk n s G) {v:Nat→UInt8} {a:UInt64} (hm:moreU (forV s F v) a=true):moreU (forV s G v) a=true:=by
  unfold moreU at hm ⊢
  have:=of_decide_eq_true hm
  rw [hF.forV] at this
  have:=h.f v
  exact decide_eq_true (by rw [hG.forV]; omega)
end
end Go.Eng
end
section
namespace Go.Eng
def fdV (F:Fst) (w:Nat):Nat→UInt8:=(findE eqI ((w:Nat):Int) F).getD fun _=>0
def fdB (F:Fst) (w:Nat):Bool:=(findE eqI ((w:Nat):Int) F).isSome
def hasN (F:Fst) (p:Nat→UInt8) (w:Nat):Bool:=fdB F w && sR (fdV F w) p
def whoN (s:Nat→UInt64) (F:Fst) (p:Nat→UInt8) (n:Nat):Nat:=sumN (fun w=>if hasN F p w=true then (s w).toNat else 0) n
def FW (n:Nat) (s:Nat→UInt64) (F:Fst):Prop:=∀ p,forN s F p=whoN s F p n
theorem sumN_zero:∀ n,sumN (fun _=>0) n=0
  | 0=>rfl
  | n+1=>by simp only [sumN,sumN_zero n]
theorem FW.nil (n:Nat) (s:Nat→UInt64):FW n s []:=fun p=>by
  unfold whoN
  have:(fun w=>if hasN [] p w=true then (s w).toNat else 0)=fun _=>0:=funext fun w=>by simp [hasN,fdB,findE]
  rw [this,sumN_zero]; rfl
end Go.Eng
end
section
namespace Go.Eng
def revL (m i:Nat):List Nat:=(List.range i).map fun j=>m - 1 - j
section
variable {n:Nat} {f:Nat→UInt64} {g:Nat→UInt8}
def wa (n:Nat) (f:Nat→UInt64) (j:Nat):Nat:=if j < n then (f j).toNat else 0
theorem lsum_snoc (h:Nat→Nat) (l:List Nat) (j:Nat):lsum h (l ++ [j])=lsum h l+h j:=by
  induction l with
  | nil=>simp [lsum]
  | cons x l ih=>simp only [List.cons_append,lsum,ih]; omega
theorem revL_succ (m i:Nat):revL m (i+1)=revL m i ++ [m - 1 - i]:=by
  unfold revL; rw [List.range_succ]; simp
theorem not_range (i:Nat):i ∉ List.range i:=by simp
theorem not_rev {m i:Nat} (h:i < m):m - 1 - i ∉ revL m i:=by
  unfold revL
  intro hc
  obtain⟨j,hj,e⟩:=List.mem_map.1 hc
  have:=List.mem_range.1 hj; omega
theorem rev_nodup (m:Nat):(revL m m).Nodup:=by
  unfold revL
  refine List.pairwise_map.2 (List.Pairwise.imp_of_mem (fun {a b} ha hb hab=>?_) (List.nodup_range (n:=m)))
  have:=List.mem_range.1 ha; have:=List.mem_range.1 hb; omega
theorem rev_mem (m x:Nat):x ∈ revL m m ↔ x < m:=by
  unfold revL
  rw [List.mem_map]
  exact⟨fun⟨j,hj,e⟩=>by have:=List.mem_range.1 hj; omega,fun h=>⟨m - 1 - x,List.mem_range.2 (by omega),by omega⟩⟩
theorem lsum_rev (h:Nat→Nat) (m:Nat):lsum h (revL m m)=lsum h (List.range m):=by
  rw [lsum_range,lsum_eq h m _ (rev_nodup m) (rev_mem m)]
end
end Go.Eng
end
