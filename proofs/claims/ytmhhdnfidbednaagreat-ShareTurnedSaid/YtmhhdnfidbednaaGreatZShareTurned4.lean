/-
  Many in one: EngN, EngO, LimbDiv, LimbShift, LimbLaws, LimbDigits, LimbRef, EngP, LimbRef2, MontMath, MontDefs, EngQ, MontLaws, MontRef.
-/
import Derived.Test.YtmhhdnfidbednaaGreatZShareTurned3
import Derived.Laws.IdiomArrays
import Derived.OpenShut
import Derived.ProofKit
import Derived.WalkKit
set_option linter.unusedVariables false
set_option linter.unusedSimpArgs false
set_option maxRecDepth 100000
set_option maxHeartbeats 1000000
section
namespace Go.Eng
open Go.ChangeShapes Go.WideShapes Go.ChangeAt Go.RowKit
theorem below_of_adv {m m':Nat→Option Blk} {w w':World} (h:Adv m w m' w') (hm:∀ p b,m p=some b→b.own=false):Below w.heap.size w w' :=
  ⟨h.os,h.tape,h.output,h.size,fun k hk=>h.heap k hk fun⟨p,b,h1,h2,_⟩=>by rw [hm p b h1] at h2; cases h2⟩
variable {H:Type} {enc:TypeId × Value→H} {P:Program}
def allRead (P:Program) (ts:List TypeId):Bool:=ts.all fun t=>P.readableRec t && Nat.blt t P.types.size
theorem trodAll_stays (hl : laidOutB P = true) {W W' : World} {sp : Nat → Bool} : ∀ {ts : List TypeId} {vs : List Value} {ds : List (DataW H)} {ps : List MemPlace}, allRead P ts = true →
    DataW.TrodAll enc P W 0 (fun _=>true) true ts vs ds ps→(∀ x ∈ ps,W.sameAt W' x)→(∀ x ∈ ps,sp x.block=true)→DataW.TrodAll enc P W' 0 sp true ts vs ds ps
  | [],vs,ds,ps,_,h,_,_=>by
    obtain⟨rfl,rfl,rfl⟩:=trodAll_nil h
    rfl
  | t :: ts,vs,ds,ps,hr,h,hs,hp=>by
    obtain⟨v,vs',d,ds',p,q,rfl,rfl,rfl,h1,h2⟩:=trodAll_cons h
    simp only [allRead,List.all_cons,Bool.and_eq_true] at hr
    have ht:t < P.types.size:=by have:=hr.1.2; rw [Nat.blt_eq] at this; exact this
    exact⟨p,q,WideElems.Trod_stays hl hr.1.1 ht h1 (fun x hx=>hs x (by simp [hx])) (fun x hx=>hp x (by simp [hx])),
      trodAll_stays hl hr.2 h2 (fun x hx=>hs x (by simp [hx])) (fun x hx=>hp x (by simp [hx])),rfl⟩
theorem law_post {f : Func} {s : ChangeSpec} {tb : TypeId} (hl : laidOutB P = true) (hts : allRead P f.params.toList = true) (hrt : f.resultTypes = #[tb]) (hb : P.underlying tb = some .bool) (hvars : s.vars = [])
    {W W':World} {args:Array Value} {ds gs:List (DataW H)} {before:List MemPlace} (hW:DataW.Whole enc P f.params.toList s.vars false W args.toList ds gs before)
    (hfn:(s.fn H (ds ++ gs)).results=[.lit (.bool true)]∧(s.fn H (ds ++ gs)).args=ds∧(s.fn H (ds ++ gs)).vars=[]) (hbel:Below W.heap.size W W') :
    s.post enc P f false true false false W args (.bool true) W':=by
  have hlt:=hW.lt
  obtain⟨p,q,hA,hV,hpq,hfz,hnd⟩:=hW
  rw [hvars] at hV
  obtain⟨hgs,hq⟩:=trodVars_none hV
  have hsame:∀ x ∈ p,W.sameAt W' x:=fun x hx=>hbel.same (hlt x (by rw [hpq]; simp [hx]))
  obtain⟨h1,h2,h3⟩:=hfn
  have hrl:(Value.bool true).resultList f.resultTypes.size=[.bool true]:=by rw [hrt]; rfl
  have hfree:∀ x ∈ before,x.block < W.heap.size:=fun x hx=>hlt x hx
  refine⟨ds,gs,before,[],p,[],⟨p,q,hA,by rw [hvars]; exact hV,hpq,hfz,hnd⟩,?_,?_,?_,World.keptBut_mono (fun _ h=>h.elim) (Below.frame hbel (fun _=>False)),fun h=>by cases h⟩
  · rw [h1,hrl,hrt]
    exact trodAll_cons_mk (shut_bool hb true) trodAll_mk0
  · rw [h2]
    exact trodAll_stays hl hts hA hsame (fun x hx=>by simpa using hlt x (by rw [hpq]; simp [hx]))
  · rw [h3,hvars]; rfl
theorem u64_of {n:Int} (h:(Lit.int .u64 n).wf=true):∃ x:UInt64,Value.int .u64 n=u64 x:=by
  have hx:0≤n∧n≤18446744073709551615:=by simpa [Lit.wf,IntKind.min,IntKind.max,IntKind.signed,IntKind.bits] using h
  refine⟨.ofNat n.toNat,?_⟩
  unfold u64
  rw [UInt64.toNat_ofNat',Nat.mod_eq_of_lt (by omega)]
  congr 1
  omega
theorem open_i64 {r : Reach} {b0 : Nat} {W : World} {base : Nat} {sp : Nat → Bool} {held : Bool} {t : TypeId} {v : Value} {d : DataW H} {ps : List MemPlace} (ht : P.underlying t = some (.int .i64)) (hval : Value.okWide P W r b0 t v)
    (hd:DataW.Trod enc P W base sp held t v d ps):∃ x:Int,v=int x∧-9223372036854775808≤x∧x≤9223372036854775807:=by
  obtain⟨n,rfl,_,_,hw⟩:=open_int ht hval hd
  have hx:-9223372036854775808≤n∧n≤9223372036854775807:=by simpa [Lit.wf,IntKind.min,IntKind.max,IntKind.signed,IntKind.bits] using hw
  exact⟨n,rfl,hx.1,hx.2⟩
theorem list4 {α:Type} (l:List α) (h:l.length=4):∃ a b c d,l=[a,b,c,d]:=by
  match l,h with
  | [a,b,c,d],_=>exact⟨a,b,c,d,rfl⟩
theorem nat4_of_row {W : World} {base : Nat} {sp : Nat → Bool} {held : Bool} {t e : TypeId} (ht : P.underlying t = some (.array 4 e)) (he : P.underlying e = some (.int .u64)) (hc : P.cellsOf e = 1)
    {cs:List Value} (hl:cs.length=4) {fuel:Nat} {z:DataW H × List MemPlace} (hf:DataW.trod enc P W base sp held fuel t cs=some z):∃ x:N4,cs=[u64 x.a,u64 x.b,u64 x.c,u64 x.d]:=by
  obtain⟨c0,c1,c2,c3,rfl⟩:=list4 cs hl
  obtain⟨y0,y1,y2,y3,m,hx,hy0,hy1,hy2,hy3⟩:=trod_array4 ht hc hf
  obtain⟨x0,e0,_,w0⟩:=DataW.trod_int he hy0
  obtain⟨x1,e1,_,w1⟩:=DataW.trod_int he hy1
  obtain⟨x2,e2,_,w2⟩:=DataW.trod_int he hy2
  obtain⟨x3,e3,_,w3⟩:=DataW.trod_int he hy3
  simp at e0 e1 e2 e3
  subst e0 e1 e2 e3
  obtain⟨a,ha⟩:=u64_of w0
  obtain⟨b,hb⟩:=u64_of w1
  obtain⟨c,hc⟩:=u64_of w2
  obtain⟨d,hd⟩:=u64_of w3
  rw [ha,hb,hc,hd]
  exact⟨⟨a,b,c,d⟩,rfl⟩
end Go.Eng
end
section
namespace Go.Eng
def nat (n:Nat):Value:=.int .i64 (n:Int)
section nats
variable {P:Program} {t t':TypeId} {x y:Operand} (a b:Nat)
theorem is_addn (h:a+b≤9223372036854775807):IsOp P (.binOp .add t x y t') [nat a,nat b] (nat (a+b)):=isOp_bin guard_int (by
  show some (Value.int .i64 (IntKind.i64.wrap ((a:Int)+b)))=_
  rw [wrap_i64 _ (by omega)]; rfl)
theorem is_subn (h:b≤a∧a - b≤9223372036854775807):IsOp P (.binOp .sub t x y t') [nat a,nat b] (nat (a - b)):=isOp_bin guard_int (by
  show some (Value.int .i64 (IntKind.i64.wrap ((a:Int) - b)))=_
  rw [wrap_i64 _ (by omega)]
  have:((a:Int) - b)=((a - b:Nat):Int):=by omega
  rw [this]; rfl)
theorem is_subni (h:a≤9223372036854775807∧b≤9223372036854775807):IsOp P (.binOp .sub t x y t') [nat a,nat b] (int ((a:Int) - b)):=isOp_bin guard_int (by
  show some (Value.int .i64 (IntKind.i64.wrap ((a:Int) - b)))=_
  rw [wrap_i64 _ (by omega)]; rfl)
theorem is_quon (h:0 < b∧a≤9223372036854775807):IsOp P (.binOp .quo t x y t') [nat a,nat b] (nat (a / b)):=isOp_bin guard_int (by
  show pureRun P (Op.intDiv .quo .i64 (a:Int) (b:Int))=_
  unfold Op.intDiv
  rw [if_neg (by omega)]
  show some (Value.int .i64 (IntKind.i64.wrap ((a:Int).tdiv b)))=_
  have:((a:Int).tdiv b)=((a / b:Nat):Int):=by rw [Int.tdiv_eq_ediv_of_nonneg (by omega)]; push_cast; rfl
  have h2:a / b≤a:=Nat.div_le_self _ _
  rw [this]
  generalize a / b=q at h2 ⊢
  rw [wrap_i64 _ (by omega)]; rfl)
theorem is_remn (h:0 < b):IsOp P (.binOp .rem t x y t') [nat a,nat b] (nat (a % b)):=isOp_bin guard_int (by
  show pureRun P (Op.intDiv .rem .i64 (a:Int) (b:Int))=_
  unfold Op.intDiv
  rw [if_neg (by omega)]
  show some (Value.int .i64 ((a:Int).tmod b))=_
  have:((a:Int).tmod b)=((a % b:Nat):Int):=by rw [Int.tmod_eq_emod_of_nonneg (by omega)]; push_cast; rfl
  rw [this]; rfl)
theorem is_lssn:IsOp P (.binOp .lss t x y t') [nat a,nat b] (.bool (decide (a < b))):=isOp_bin guard_int (by
  show some (Value.bool (decide ((a:Int) < b)))=_
  congr 2; simp)
theorem is_leqn:IsOp P (.binOp .leq t x y t') [nat a,nat b] (.bool (decide (a≤b))):=isOp_bin guard_int (by
  show some (Value.bool (decide ((a:Int)≤b)))=_
  congr 2; simp)
theorem is_gtrn:IsOp P (.binOp .gtr t x y t') [nat a,nat b] (.bool (decide (b < a))):=isOp_bin guard_int (by
  show some (Value.bool (decide ((a:Int) > b)))=_
  congr 2; simp)
theorem is_geqn:IsOp P (.binOp .geq t x y t') [nat a,nat b] (.bool (decide (b≤a))):=isOp_bin guard_int (by
  show some (Value.bool (decide ((a:Int) ≥ b)))=_
  congr 2; simp)
theorem is_neqn:IsOp P (.binOp .neq t x y t') [nat a,nat b] (.bool (!decide (a=b))):=isOp_bin guard_int (by
  show some (Value.bool (!((a:Int) == b)))=_
  congr 3; rw [Bool.eq_iff_iff]; simp; omega)
theorem is_quol (n:Nat) (h:0 < b∧a≤9223372036854775807∧a / b=n):IsOp P (.binOp .quo t x y t') [nat a,nat b] (nat n):=by
  rw [← h.2.2]; exact is_quon a b ⟨h.1,h.2.1⟩
theorem is_reml (n:Nat) (h:0 < b∧a % b=n):IsOp P (.binOp .rem t x y t') [nat a,nat b] (nat n):=by
  rw [← h.2]; exact is_remn a b h.1
end nats
section places
variable {P:Program} {t e:TypeId} {x y:Operand} {sz:Nat}
theorem isOp_index {vx vy v:Value} (h:pureRun P (Instr.indexAt t vx vy)=some v):IsOp P (.indexAddr t x y) [vx,vy] v:=by
  intro ρ o ho hv
  rw [ho] at hv
  simp only [Op.operands,List.map_cons,List.map_nil,List.cons.injEq,and_true] at hv
  obtain⟨rfl,rfl⟩:=hv
  unfold execOp
  rw [ho]
  simp only
  show pureRun P (Sem.bind (Instr.indexAt t (ρ x) (ρ y)) fun v=>Sem.pure (Next.value v))=_
  rw [pureRun_bind,h]
  rfl
theorem add_none (n o k:Nat):(⟨n,o,none⟩:Addr).add k=⟨n,o+k,none⟩:=by unfold Addr.add; split <;> simp_all
theorem is_ixArr {len:Nat} (ht:P.underlying t=some (.array len e)) (hs:sizeB P e=some sz) (n o i:Nat) (hi:i < len):IsOp P (.indexAddr t x y) [ptr n o,nat i] (ptr n (o+i*sz)):=isOp_index (by
  have hi':0≤(i:Int)∧(i:Int) < (len:Int):=by omega
  simp only [Instr.indexAt,ptr,nat,Instr.sureAddr,pureRun_bind',asIntOf,pureRun,pure,pureRun_underlying ht,hi',and_self,if_true,pureRun_sizeOf hs,add_none,Int.toNat_natCast])
theorem is_ixSl (ht:P.underlying t=some (.slice e)) (hs:sizeB P e=some sz) (n o len cap i:Nat) (hi:i < len):IsOp P (.indexAddr t x y) [.slice (some ⟨n,o,none⟩) len cap,nat i] (ptr n (o+i*sz)):=isOp_index (by
  have hi':0≤(i:Int)∧(i:Int) < (len:Int):=by omega
  simp only [Instr.indexAt,ptr,nat,Instr.sureAddr,pureRun_bind',asIntOf,pureRun,pure,pureRun_underlying ht,hi',and_self,if_true,pureRun_sizeOf hs,add_none,Int.toNat_natCast])
theorem is_ixStr (ht:P.underlying t=some .string) (s:ByteArray) (f:UInt8→UInt8) (hf:∀ i:UInt8,s[i.toNat]? = some (f i)) (i:UInt8):IsOp P (.index t x y) [.string s,u8 i] (u8 (f i)):=by
  intro ρ o ho hv
  rw [ho] at hv
  simp only [Op.operands,List.map_cons,List.map_nil,List.cons.injEq,and_true] at hv
  obtain⟨h1,h2⟩:=hv
  unfold execOp
  rw [ho]
  simp only
  show pureRun P (Sem.bind (Instr.index t (ρ x) (ρ y)) fun v=>Sem.pure (Next.value v))=_
  rw [pureRun_bind,h1,h2]
  have h0:(0:Int)≤(i.toNat:Int):=by omega
  have e:pureRun P (Instr.index t (.string s) (u8 i))=some (u8 (f i)):=by
    simp only [Instr.index,u8,pureRun_bind',asIntOf,pureRun,pure,pureRun_underlying ht,h0,if_true,Int.toNat_natCast,hf i]
  rw [e]
  rfl
end places
section convs
variable {P:Program} {s d:TypeId} {x:Operand}
theorem conv_int {k k':IntKind} (hs:P.underlying s=some (.int k)) (hd:P.underlying d=some (.int k')) (n:Int):IsOp P (.convert s d x) [.int k n] (.int k' (k'.wrap n)):=isOp_conv (by
  unfold convert
  rw [pureRun_bind',pureRun_underlying hs]
  simp only
  rw [pureRun_bind',pureRun_underlying hd]
  rfl)
theorem wrap_u8 (n:Int):IntKind.u8.wrap n=n % 256:=by simp [IntKind.wrap,IntKind.bits,IntKind.signed]
theorem conv_u64_u8 (hs:P.underlying s=some (.int .u64)) (hd:P.underlying d=some (.int .u8)) (a:UInt64):IsOp P (.convert s d x) [u64 a] (u8 a.toUInt8):=by
  have h:=conv_int (x:=x) hs hd a.toNat
  rw [wrap_u8] at h
  have:((a.toNat:Int) % 256)=(a.toUInt8.toNat:Int):=by simp
  rw [this] at h; exact h
theorem conv_u8_int (hs:P.underlying s=some (.int .u8)) (hd:P.underlying d=some (.int .i64)) (a:UInt8):IsOp P (.convert s d x) [u8 a] (nat a.toNat):=by
  have h1:=conv_int (x:=x) hs hd a.toNat
  have:=a.toNat_lt
  rw [wrap_i64 _ (by omega)] at h1; exact h1
theorem conv_int_u64 (hs:P.underlying s=some (.int .i64)) (hd:P.underlying d=some (.int .u64)) (n:Nat):IsOp P (.convert s d x) [nat n] (u64 (.ofNat n)):=by
  have h:=conv_int (x:=x) hs hd n
  rw [wrap_u64] at h
  have:((n:Int) % 18446744073709551616)=((UInt64.ofNat n).toNat:Int):=by rw [UInt64.toNat_ofNat']; rfl
  rw [this] at h; exact h
end convs
def N4.get (x:N4) (i:Nat):UInt64:=match i with
  | 0=>x.a
  | 1=>x.b
  | 2=>x.c
  | 3=>x.d
  | _=>0
def N4.set (x:N4) (i:Nat) (v:UInt64):N4:=match i with
  | 0=>{ x with a:=v }
  | 1=>{ x with b:=v }
  | 2=>{ x with c:=v }
  | 3=>{ x with d:=v }
  | _=>x
def N8.get (x:N8) (i:Nat):UInt64:=match i with
  | 0=>x.lo.a
  | 1=>x.lo.b
  | 2=>x.lo.c
  | 3=>x.lo.d
  | 4=>x.hi.a
  | 5=>x.hi.b
  | 6=>x.hi.c
  | 7=>x.hi.d
  | _=>0
def tab4 (x:N4):Cont:=.tab 4 1 fun k=>[u64 (x.get k)]
def lit4 (x:N4):Cont:=.lit [u64 x.a,u64 x.b,u64 x.c,u64 x.d]
def tab8 (x:N8):Cont:=.tab 8 1 fun k=>[u64 (x.get k)]
def lit8 (x:N8):Cont:=.lit [u64 x.lo.a,u64 x.lo.b,u64 x.lo.c,u64 x.lo.d,u64 x.hi.a,u64 x.hi.b,u64 x.hi.c,u64 x.hi.d]
theorem get_tab4 (x:N4) (o:Nat):(tab4 x).get o=(lit4 x).get o:=by
  rcases o with _ | _ | _ | _ | o <;> simp [tab4,lit4,Cont.get,N4.get,Nat.mod_one]
theorem get_tab8 (x:N8) (o:Nat):(tab8 x).get o=(lit8 x).get o:=by
  rcases o with _ | _ | _ | _ | _ | _ | _ | _ | o <;> simp [tab8,lit8,Cont.get,N8.get,Nat.mod_one]
theorem to_tab4 (x:N4):∀ o v,(tab4 x).get o=some v→(lit4 x).get o=some v:=fun o v h=>by rw [← get_tab4]; exact h
theorem to_lit4 (x:N4):∀ o v,(lit4 x).get o=some v→(tab4 x).get o=some v:=fun o v h=>by rw [get_tab4]; exact h
theorem to_tab8 (x:N8):∀ o v,(tab8 x).get o=some v→(lit8 x).get o=some v:=fun o v h=>by rw [← get_tab8]; exact h
theorem store_tab4 (x:N4) (i:Nat) (v:UInt64) (hi:i < 4):(tab4 x).store (.tab i 0) [u64 v]=some (tab4 (x.set i v)):=by
  show some (Cont.tab 4 1 fun k=>if k=i then [u64 v] else [u64 (x.get k)])=_
  congr 1
  unfold tab4
  congr 1
  funext k
  by_cases h:k=i
  · subst h
    rw [if_pos rfl]
    rcases k with _ | _ | _ | _ | k <;> first | rfl | omega
  · rw [if_neg h]
    rcases i with _ | _ | _ | _ | i <;> rcases k with _ | _ | _ | _ | k <;> first | rfl | omega
def upd {α:Type} (f:Nat→α) (i:Nat) (v:α):Nat→α:=fun k=>if k=i then v else f k
theorem bnot_t {b:Bool} (h:(!b)=true):b=false:=by cases b <;> first | rfl | cases h
theorem bnot_f {b:Bool} (h:(!b)=false):b=true:=by cases b <;> first | rfl | cases h
end Go.Eng
end
section
namespace Go.Eng
def N8.val (x:N8):Nat:=x.lo.val+2 ^ 256*x.hi.val
theorem N8.val_lt (x:N8):x.val < 2 ^ 512:=by
  have h1:=x.lo.val_lt
  have h2:=x.hi.val_lt
  unfold N8.val
  omega
def N4.ofNat (n:Nat):N4:=⟨.ofNat n,.ofNat (n / 2 ^ 64),.ofNat (n / 2 ^ 128),.ofNat (n / 2 ^ 192)⟩
theorem N4.val_ofNat (n:Nat):(N4.ofNat n).val=n % 2 ^ 256:=by
  simp only [N4.ofNat,N4.val,UInt64.toNat_ofNat']
  omega
theorem N4.ofNat_val (x:N4):N4.ofNat x.val=x:=N4.ext_val (by rw [N4.val_ofNat,Nat.mod_eq_of_lt x.val_lt])
theorem N4.eq_ofNat {x:N4} {n:Nat} (h:x.val=n):x=N4.ofNat n:=by rw [← h,N4.ofNat_val]
theorem and_one (x:UInt64):(x &&& 1).toNat=x.toNat % 2:=by
  rw [UInt64.toNat_and]; exact Nat.and_one_is_mod _
def bit4 (a:N4) (i:Nat):UInt64:=shr64 (a.get (i / 64)) (i % 64) &&& 1
def bit8 (a:N8) (i:Nat):UInt64:=shr64 (a.get (i / 64)) (i % 64) &&& 1
theorem div_pow_split (n k r:Nat):n / 2 ^ (64*k+r)=n / 2 ^ (64*k) / 2 ^ r:=by
  rw [Nat.pow_add,Nat.div_div_eq_div_mul]
theorem bit_low {w q r:Nat} (hr:r < 64):(w+2 ^ 64*q) / 2 ^ r % 2=w / 2 ^ r % 2:=by
  have e:2 ^ 64*q=2 ^ r*(2*(2 ^ (63 - r)*q)):=by
    rw [← Nat.mul_assoc 2,← Nat.mul_assoc,← Nat.pow_succ',← Nat.pow_add]
    congr 2; omega
  rw [e,Nat.add_mul_div_left _ _ (Nat.two_pow_pos r)]
  omega
theorem bit4_val (a:N4) (i:Nat) (hi:i < 256):(bit4 a i).toNat=a.val / 2 ^ i % 2:=by
  unfold bit4
  rw [and_one,shr64_toNat]
  have hr:i % 64 < 64:=Nat.mod_lt _ (by omega)
  have ei:i=64*(i / 64)+i % 64:=(Nat.div_add_mod i 64).symm
  have hq:i / 64 < 4:=by omega
  generalize i / 64=q at ei hq
  generalize i % 64=r at ei hr
  subst ei
  rw [div_pow_split]
  have h1:=a.a.toNat_lt
  have h2:=a.b.toNat_lt
  have h3:=a.c.toNat_lt
  have h4:=a.d.toNat_lt
  have key:∃ q',a.val / 2 ^ (64*q)=(a.get q).toNat+2 ^ 64*q':=by
    unfold N4.val
    rcases q with _ | _ | _ | _ | q
    · exact⟨a.b.toNat+2 ^ 64*a.c.toNat+2 ^ 128*a.d.toNat,by show _=a.a.toNat+_; omega⟩
    · exact⟨a.c.toNat+2 ^ 64*a.d.toNat,by show _=a.b.toNat+_; omega⟩
    · exact⟨a.d.toNat,by show _=a.c.toNat+_; omega⟩
    · exact⟨0,by show _=a.d.toNat+_; omega⟩
    · omega
  obtain⟨q',hq'⟩:=key
  rw [hq',bit_low hr]
theorem bit8_val (a:N8) (i:Nat) (hi:i < 512):(bit8 a i).toNat=a.val / 2 ^ i % 2:=by
  by_cases h:i < 256
  · have e : bit8 a i = bit4 a.lo i := by
      unfold bit8 bit4
      have:i / 64 < 4:=by omega
      congr 2
      generalize i / 64=q at this
      rcases q with _ | _ | _ | _ | q <;> first | rfl | omega
    rw [e,bit4_val _ _ h]
    unfold N8.val
    have e2:2 ^ 256*a.hi.val=2 ^ i*(2*(2 ^ (255 - i)*a.hi.val)):=by
      rw [← Nat.mul_assoc 2,← Nat.mul_assoc,← Nat.pow_succ',← Nat.pow_add]
      congr 2; omega
    rw [e2,Nat.add_mul_div_left _ _ (Nat.two_pow_pos i)]
    omega
  · obtain⟨j,rfl⟩:∃ j,i=256+j:=⟨i - 256,by omega⟩
    have e:bit8 a (256+j)=bit4 a.hi j:=by
      unfold bit8 bit4
      have h1:(256+j) / 64=j / 64+4:=by omega
      have h2:(256+j) % 64=j % 64:=by omega
      rw [h1,h2]
      have:j / 64 < 4:=by omega
      congr 2
      generalize j / 64=q at this
      rcases q with _ | _ | _ | _ | q <;> first | rfl | omega
    rw [e,bit4_val _ _ (by omega)]
    unfold N8.val
    rw [Nat.pow_add,← Nat.div_div_eq_div_mul]
    congr 2
    have:=a.lo.val_lt
    omega
def bringT (r:N4) (bit:UInt64):N4:={ add4 r r with a:=(add4 r r).a ||| bit }
def bringF (r:N4) (bit:UInt64) (m:N4):Bool:=(b2u (add4c r r) == 0) && (b2u (sub4c (bringT r bit) m) == 1)
def bringR (r:N4) (bit:UInt64) (m:N4):N4:=match bringF r bit m with
  | true=>bringT r bit
  | false=>sub4 (bringT r bit) m
def bringQ (r:N4) (bit:UInt64) (m:N4):UInt64:=match bringF r bit m with
  | true=>0
  | false=>1
theorem bring_t (r : N4) (bit : UInt64) (m : N4) (h0 : selB ((b2u (add4c r r)) == 0) ((b2u (sub4c (N4.mk ((add4 r r).a ||| bit) (add4 r r).b (add4 r r).c (add4 r r).d) m)) == 1) false = true) :
    bringR r bit m=N4.mk ((add4 r r).a ||| bit) (add4 r r).b (add4 r r).c (add4 r r).d∧bringQ r bit m=0:=by
  have h':bringF r bit m=true:=by rw [selB_and] at h0; exact h0
  unfold bringR bringQ
  rw [h']; exact⟨rfl,rfl⟩
theorem bring_f (r : N4) (bit : UInt64) (m : N4) (h0 : selB ((b2u (add4c r r)) == 0) ((b2u (sub4c (N4.mk ((add4 r r).a ||| bit) (add4 r r).b (add4 r r).c (add4 r r).d) m)) == 1) false = false) :
    bringR r bit m=sub4 (N4.mk ((add4 r r).a ||| bit) (add4 r r).b (add4 r r).c (add4 r r).d) m∧bringQ r bit m=1:=by
  have h':bringF r bit m=false:=by rw [selB_and] at h0; exact h0
  unfold bringR bringQ
  rw [h']; exact⟨rfl,rfl⟩
theorem or_low {x:Nat} {b:Nat} (hx:x % 2=0) (hb:b≤1):x ||| b=x+b:=by
  rcases(show b=0∨b=1 by omega) with rfl | rfl
  · simp
  · obtain⟨y,rfl⟩:∃ y,x=2*y:=⟨x / 2,by omega⟩
    have:=Nat.two_pow_add_eq_or_of_lt (i:=1) (b:=1) (by omega) y
    simpa using this.symm
theorem bringT_val (r:N4) (bit:UInt64) (hb:bit.toNat≤1):(bringT r bit).val+2 ^ 256*(add4c r r).toNat=2*r.val+bit.toNat:=by
  have h:=add4_val r r
  have he:((add4 r r).a).toNat % 2=0:=by
    show(addS r.a r.a false).toNat % 2=0
    rw [addS_toNat]; simp only [Bool.toNat_false]; omega
  have ho:((add4 r r).a ||| bit).toNat=((add4 r r).a).toNat+bit.toNat:=by
    rw [UInt64.toNat_or,or_low he hb]
  have:(bringT r bit).val=(add4 r r).val+bit.toNat:=by
    unfold bringT N4.val
    simp only
    rw [ho]; omega
  omega
theorem b2u_zero (b:Bool):(b2u b == 0) = !b:=by cases b <;> rfl
theorem bring_val (r : N4) (bit : UInt64) (m : N4) (hb : bit.toNat ≤ 1) (hr : r.val < m.val) :
    (bringR r bit m).val=(2*r.val+bit.toNat) % m.val∧(bringQ r bit m).toNat=(2*r.val+bit.toNat) / m.val:=by
  have h:=bringT_val r bit hb
  have h1:=(bringT r bit).val_lt
  have h2:=m.val_lt
  have hs:=sub4_val (bringT r bit) m
  have h3:=(sub4 (bringT r bit) m).val_lt
  rw [sub4c_eq] at hs
  unfold bringR bringQ bringF
  rw [b2u_zero,b2u_one,sub4c_eq]
  cases hc:add4c r r with
  | false =>
    rw [hc] at h
    simp only [Bool.toNat_false,Nat.mul_zero,Nat.add_zero] at h
    by_cases hlt:(bringT r bit).val < m.val
    · simp only [hlt,decide_true,Bool.not_false,Bool.and_true]
      rw [← h,Nat.mod_eq_of_lt hlt,Nat.div_eq_of_lt hlt]
      exact⟨rfl,rfl⟩
    · simp only [hlt,decide_false,Bool.not_false,Bool.and_false]
      simp only [hlt,decide_false,Bool.toNat_false,Nat.mul_zero,Nat.add_zero] at hs
      have hm:(2*r.val+bit.toNat) / m.val=1:=by
        rw [Nat.div_eq_iff (by omega)]; omega
      have hdm:=Nat.div_add_mod (2*r.val+bit.toNat) m.val
      rw [hm] at hdm ⊢
      exact⟨by omega,rfl⟩
  | true =>
    rw [hc] at h
    simp only [Bool.not_true,Bool.false_and]
    simp only [Bool.toNat_true] at h
    have hlt:(bringT r bit).val < m.val:=by omega
    simp only [hlt,decide_true,Bool.toNat_true] at hs
    have hm:(2*r.val+bit.toNat) / m.val=1:=by
      rw [Nat.div_eq_iff (by omega)]; omega
    have hdm:=Nat.div_add_mod (2*r.val+bit.toNat) m.val
    rw [hm] at hdm ⊢
    exact⟨by omega,rfl⟩
theorem rest_step (w m k:Nat):w / 2 ^ k % m=(2*(w / 2 ^ (k+1) % m)+w / 2 ^ k % 2) % m:=by
  have e:w / 2 ^ k=2*(w / 2 ^ (k+1))+w / 2 ^ k % 2:=by
    rw [Nat.pow_succ,← Nat.div_div_eq_div_mul]; omega
  conv=>lhs; rw [e]
  rw [Nat.add_mod,Nat.mul_mod,Nat.add_mod (2*_),Nat.mul_mod 2 (_ % m),Nat.mod_mod]
def bitLen (n:Nat):Nat:=match decide (n=0) with
  | true=>0
  | false=>n.log2+1
theorem bitLen_pos {n:Nat} (h:n≠0):bitLen n=n.log2+1:=by unfold bitLen; rw [decide_eq_false h]
theorem bitLen_lt (n:Nat):n < 2 ^ bitLen n:=by
  by_cases h:n=0
  · subst h; exact Nat.one_pos
  · rw [bitLen_pos h]; exact Nat.lt_log2_self
theorem bitLen_le {n:Nat} (h:n≠0):2 ^ (bitLen n - 1)≤n:=by
  rw [bitLen_pos h]; exact Nat.log2_self_le h
theorem bitLen_le_of_lt {n k:Nat} (h:n < 2 ^ k):bitLen n≤k:=by
  by_cases h0:n=0
  · subst h0; exact Nat.zero_le _
  · rw [bitLen_pos h0]
    have:=(Nat.log2_lt h0).2 h
    omega
theorem bitLen_unique {n k:Nat} (h1:n < 2 ^ (k+1)) (h2:2 ^ k≤n):bitLen n=k+1:=by
  have hn:n≠0:=by have:=Nat.two_pow_pos k; omega
  have a:=bitLen_le_of_lt h1
  have b:¬ bitLen n≤k:=fun hb=>by
    have c:=bitLen_lt n
    have d:=Nat.pow_le_pow_right (n:=2) (by omega) hb
    omega
  omega
theorem bitLen_shift {n k:Nat} (h:2 ^ k≤n):bitLen n=k+bitLen (n / 2 ^ k):=by
  have hp:=Nat.two_pow_pos k
  have hq:n / 2 ^ k≠0:=by
    have:=Nat.div_pos h hp
    omega
  have h1:=bitLen_lt (n / 2 ^ k)
  have h2:=bitLen_le hq
  have h0:bitLen (n / 2 ^ k)≠0:=by rw [bitLen_pos hq]; omega
  obtain⟨j,hj⟩:∃ j,bitLen (n / 2 ^ k)=j+1:=⟨bitLen (n / 2 ^ k) - 1,by omega⟩
  rw [hj] at h1 h2 ⊢
  rw [show k+(j+1)=(k+j)+1 by omega]
  refine bitLen_unique ?_ ?_
  · rw [show k+j+1=k+(j+1) by omega,Nat.pow_add,Nat.mul_comm]
    exact(Nat.div_lt_iff_lt_mul hp).1 h1
  · rw [Nat.pow_add,Nat.mul_comm]
    exact(Nat.le_div_iff_mul_le hp).1 h2
def len1 (x:UInt64):Nat:=bitLen x.toNat
theorem len1_le (x:UInt64):len1 x≤64:=bitLen_le_of_lt x.toNat_lt
def len8 (x:UInt8):UInt8:=.ofNat (bitLen x.toNat)
theorem len8_toNat (x:UInt8):(len8 x).toNat=bitLen x.toNat:=by
  have:bitLen x.toNat≤8:=bitLen_le_of_lt x.toNat_lt
  unfold len8
  rw [UInt8.toNat_ofNat']
  omega
theorem len8_le (x:UInt8):(len8 x).toNat≤8:=by rw [len8_toNat]; exact bitLen_le_of_lt x.toNat_lt
def tabLen8:ByteArray:=⟨#[0,1,2,2,3,3,3,3,4,4,4,4,4,4,4,4,5,5,5,5,5,5,5,5,5,5,5,5,5,5,5,5,6,6,6,6,6,6,6,6,6,6,6,6,6,6,6,6,6,6,6,6,6,6,6,6,6,6,6,6,6,6,6,6,7,7,7,7,7,7,7,7,7,7,7,7,7,7,7,7,7,7,7,7,7,7,7,7,7,7,7,7,7,7,7,7,7,7,7,7,7,7,7,7,7,7,7,7,7,7,7,7,7,7,7,7,7,7,7,7,7,7,7,7,7,7,7,7,8,8,8,8,8,8,8,8,8,8,8,8,8,8,8,8,8,8,8,8,8,8,8,8,8,8,8,8,8,8,8,8,8,8,8,8,8,8,8,8,8,8,8,8,8,8,8,8,8,8,8,8,8,8,8,8,8,8,8,8,8,8,8,8,8,8,8,8,8,8,8,8,8,8,8,8,8,8,8,8,8,8,8,8,8,8,8,8,8,8,8,8,8,8,8,8,8,8,8,8,8,8,8,8,8,8,8,8,8,8,8,8,8,8,8,8,8,8,8,8,8,8,8,8,8,8,8,8]⟩
theorem tabLen8_get (i:UInt8):tabLen8[i.toNat]? = some (len8 i):=by
  have h:∀ k:Fin 256,tabLen8[k.val]? = some (len8 (.ofNat k.val)):=by decide +kernel
  have:=h ⟨i.toNat,i.toNat_lt⟩
  simpa using this
theorem shr_len {x:UInt64} {k:Nat} (h:2 ^ k≤x.toNat):len1 x=k+len1 (shr64 x k):=by
  unfold len1
  rw [shr64_toNat]
  exact bitLen_shift h
theorem len1_small {x:UInt64} (h:x.toNat < 256):(len8 x.toUInt8).toNat=len1 x:=by
  rw [len8_toNat,len1,UInt64.toNat_toUInt8,Nat.mod_eq_of_lt h]
theorem le_of_dec {c x:UInt64} (h:decide (c≤x)=true):c.toNat≤x.toNat:=UInt64.le_iff_toNat_le.1 (of_decide_eq_true h)
theorem lt_of_dec {c x:UInt64} (h:decide (c≤x)=false):x.toNat < c.toNat:=by
  have:=of_decide_eq_false h
  rw [UInt64.le_iff_toNat_le] at this; omega
theorem shr_bd {x:UInt64} (k n:Nat) (h:x.toNat < 2 ^ (n+k)):(shr64 x k).toNat < 2 ^ n:=by
  rw [shr64_toNat,Nat.div_lt_iff_lt_mul (Nat.two_pow_pos k),← Nat.pow_add]; exact h
def len4 (a:N4):Nat:=match !(a.d == 0) with
  | true=>192+len1 a.d
  | false=>match !(a.c == 0) with
    | true=>128+len1 a.c
    | false=>match !(a.b == 0) with
      | true=>64+len1 a.b
      | false=>match !(a.a == 0) with
        | true=>0+len1 a.a
        | false=>0
theorem beq_zero64 {x:UInt64} (h:(!(x == 0))=false):x.toNat=0:=by
  have:(x == 0)=true:=bnot_f h
  rw [beq_iff_eq] at this; subst this; rfl
theorem bne_zero64 {x:UInt64} (h:(!(x == 0))=true):0 < x.toNat:=by
  have:(x == 0)=false:=bnot_t h
  have h2:x≠0:=by simpa using this
  rcases Nat.eq_zero_or_pos x.toNat with h0 | h0
  · exact absurd (UInt64.toNat_inj.1 (by rw [h0]; rfl)) h2
  · exact h0
theorem bitLen_two {lo hi k:Nat} (hlo:lo < 2 ^ k) (hhi:0 < hi):bitLen (lo+2 ^ k*hi)=k+bitLen hi:=by
  have hp:=Nat.two_pow_pos k
  have h:2 ^ k≤lo+2 ^ k*hi:=Nat.le_trans (Nat.le_mul_of_pos_right _ hhi) (Nat.le_add_left _ _)
  rw [bitLen_shift h,Nat.add_mul_div_left _ _ hp,Nat.div_eq_of_lt hlo,Nat.zero_add]
theorem len4_val (a:N4):len4 a=bitLen a.val:=by
  have h1:=a.a.toNat_lt
  have h2:=a.b.toNat_lt
  have h3:=a.c.toNat_lt
  unfold len4 N4.val
  cases hd:(!(a.d == 0)) with
  | true =>
    have:=bitLen_two (lo:=a.a.toNat+2 ^ 64*a.b.toNat+2 ^ 128*a.c.toNat) (hi:=a.d.toNat) (k:=192) (by omega) (bne_zero64 hd)
    simp only; rw [this]; rfl
  | false =>
    have d0:=beq_zero64 hd
    simp only
    cases hc:(!(a.c == 0)) with
    | true =>
      have:=bitLen_two (lo:=a.a.toNat+2 ^ 64*a.b.toNat) (hi:=a.c.toNat) (k:=128) (by omega) (bne_zero64 hc)
      simp only; rw [d0,Nat.mul_zero,Nat.add_zero,this]; rfl
    | false =>
      have c0:=beq_zero64 hc
      simp only
      cases hb:(!(a.b == 0)) with
      | true =>
        have:=bitLen_two (lo:=a.a.toNat) (hi:=a.b.toNat) (k:=64) (by omega) (bne_zero64 hb)
        simp only; rw [d0,c0,Nat.mul_zero,Nat.add_zero,this]; rfl
      | false =>
        have b0:=beq_zero64 hb
        simp only
        cases ha:(!(a.a == 0)) with
        | true=>simp only; rw [d0,c0,b0]; simp [len1]
        | false=>simp only; rw [d0,c0,b0,beq_zero64 ha]; rfl
theorem len4_le (a:N4):len4 a≤256:=by rw [len4_val]; exact bitLen_le_of_lt a.val_lt
theorem or_disjoint {x y k:Nat} (hx:x % 2 ^ (k+1)=0) (hy:y≤1):x ||| (y*2 ^ k)=x+y*2 ^ k:=by
  obtain⟨z,rfl⟩:∃ z,x=2 ^ (k+1)*z:=⟨x / 2 ^ (k+1),by have:=Nat.div_add_mod x (2 ^ (k+1)); omega⟩
  have hlt:y*2 ^ k < 2 ^ (k+1):=by
    rw [Nat.pow_succ]
    have:y*2 ^ k≤1*2 ^ k:=Nat.mul_le_mul_right _ hy
    have:=Nat.two_pow_pos k
    omega
  exact(Nat.two_pow_add_eq_or_of_lt hlt z).symm
theorem N4.set_val (q:N4) (j:Nat) (v:UInt64) (hj:j < 4):(q.set j v).val+2 ^ (64*j)*(q.get j).toNat=q.val+2 ^ (64*j)*v.toNat:=by
  unfold N4.val
  rcases j with _ | _ | _ | _ | j <;> first | (simp only [N4.set,N4.get]; omega) | omega
theorem get_mod (q:N4) {j r:Nat} (hj:j < 4) (hr:r < 64) (h:q.val % 2 ^ (64*j+(r+1))=0):(q.get j).toNat % 2 ^ (r+1)=0:=by
  have h1:=q.a.toNat_lt
  have h2:=q.b.toNat_lt
  have h3:=q.c.toNat_lt
  have h4:=q.d.toNat_lt
  have key:∃ q',q.val / 2 ^ (64*j)=(q.get j).toNat+2 ^ 64*q':=by
    unfold N4.val
    rcases j with _ | _ | _ | _ | j
    · exact⟨q.b.toNat+2 ^ 64*q.c.toNat+2 ^ 128*q.d.toNat,by show _=q.a.toNat+_; omega⟩
    · exact⟨q.c.toNat+2 ^ 64*q.d.toNat,by show _=q.b.toNat+_; omega⟩
    · exact⟨q.d.toNat,by show _=q.c.toNat+_; omega⟩
    · exact⟨0,by show _=q.d.toNat+_; omega⟩
    · omega
  obtain⟨q',hq'⟩:=key
  obtain⟨z,hz⟩:∃ z,q.val=2 ^ (64*j+(r+1))*z:=⟨q.val / 2 ^ (64*j+(r+1)),by have:=Nat.div_add_mod q.val (2 ^ (64*j+(r+1))); omega⟩
  rw [hz,Nat.pow_add,Nat.mul_assoc,Nat.mul_div_cancel_left _ (Nat.two_pow_pos _)] at hq'
  have e:2 ^ 64*q'=2 ^ (r+1)*(2 ^ (63 - r)*q'):=by
    rw [← Nat.mul_assoc,← Nat.pow_add]; congr 2; omega
  rw [e] at hq'
  have:=congrArg (· % 2 ^ (r+1)) hq'
  simp only [Nat.mul_mod_right,Nat.add_mul_mod_self_left] at this
  exact this.symm
theorem setbit_val (q : N4) (at_ : Nat) (f : UInt64) (ha : at_ < 256) (hf : f.toNat ≤ 1) (hq : q.val % 2 ^ (at_ + 1) = 0) :
    (q.set (at_ / 64) (q.get (at_ / 64) ||| shl64 f (at_ % 64))).val=q.val+f.toNat*2 ^ at_:=by
  have hr:at_ % 64 < 64:=Nat.mod_lt _ (by omega)
  have hj:at_ / 64 < 4:=by omega
  have ei:at_=64*(at_ / 64)+at_ % 64:=(Nat.div_add_mod at_ 64).symm
  generalize at_ / 64=j at ei hj
  generalize at_ % 64=r at ei hr
  subst ei
  have hs:=q.set_val j (q.get j ||| shl64 f r) hj
  have hm:=get_mod q hj hr (by rw [← Nat.add_assoc]; exact hq)
  have hsh:(shl64 f r).toNat=f.toNat*2 ^ r:=by
    rw [shl64_toNat,Nat.mod_eq_of_lt]
    have h1:f.toNat*2 ^ r≤1*2 ^ r:=Nat.mul_le_mul_right _ hf
    have h2:2 ^ r≤2 ^ 63:=Nat.pow_le_pow_right (by omega) (by omega)
    omega
  rw [UInt64.toNat_or,hsh,or_disjoint hm hf,Nat.mul_add] at hs
  have e:2 ^ (64*j)*(f.toNat*2 ^ r)=f.toNat*2 ^ (64*j+r):=by
    rw [Nat.pow_add,Nat.mul_left_comm]
  rw [e] at hs
  omega
theorem quo_step (w m k:Nat) (hm:0 < m):w / 2 ^ k / m=2*(w / 2 ^ (k+1) / m)+(2*(w / 2 ^ (k+1) % m)+w / 2 ^ k % 2) / m:=by
  have e:w / 2 ^ k=2*(w / 2 ^ (k+1))+w / 2 ^ k % 2:=by
    rw [Nat.pow_succ,← Nat.div_div_eq_div_mul]; omega
  have hd:=Nat.div_add_mod (w / 2 ^ (k+1)) m
  conv=>lhs; rw [e]
  generalize w / 2 ^ k % 2=b at *
  generalize w / 2 ^ (k+1)=u at *
  have:2*u+b=m*(2*(u / m))+(2*(u % m)+b):=by
    rw [Nat.mul_left_comm]; omega
  rw [this,Nat.mul_add_div hm]
end Go.Eng
end
section
namespace Go.Eng
theorem or_parts {h l k:Nat} (hl:l < 2 ^ k):l ||| (2 ^ k*h)=l+2 ^ k*h:=by
  rw [Nat.or_comm,← Nat.two_pow_add_eq_or_of_lt hl h,Nat.add_comm]
theorem shl_split (y:UInt64) (r:Nat) (hr:r≤64):(shl64 y r).toNat=2 ^ r*(y.toNat % 2 ^ (64 - r)):=by
  rw [shl64_toNat,show(18446744073709551616:Nat)=2 ^ r*2 ^ (64 - r) by rw [← Nat.pow_add,show r+(64 - r)=64 by omega],Nat.mul_comm,Nat.mul_mod_mul_left]
theorem word_up (x y:UInt64) (r:Nat) (hr:r≤64):((shr64 x (64 - r)) ||| (shl64 y r)).toNat=x.toNat / 2 ^ (64 - r)+2 ^ r*(y.toNat % 2 ^ (64 - r)):=by
  rw [UInt64.toNat_or,shl_split y r hr,shr64_toNat]
  have hx:=x.toNat_lt
  refine or_parts ?_
  rw [Nat.div_lt_iff_lt_mul (Nat.two_pow_pos _),← Nat.pow_add,show r+(64 - r)=64 by omega]
  exact hx
theorem word_down (x y:UInt64) (r:Nat) (hr:r≤64):((shr64 x r) ||| (shl64 y (64 - r))).toNat=x.toNat / 2 ^ r+2 ^ (64 - r)*(y.toNat % 2 ^ r):=by
  have h:=word_up x y (64 - r) (by omega)
  rw [show 64 - (64 - r)=r by omega] at h
  exact h
theorem word_zero (y:UInt64) (r:Nat) (hr:r≤64):((0:UInt64) ||| (shl64 y r)).toNat=2 ^ r*(y.toNat % 2 ^ (64 - r)):=by
  rw [UInt64.toNat_or,shl_split y r hr]
  show 0 ||| _=_
  exact Nat.zero_or _
theorem word_parts (x:Nat) (r:Nat) (hr:r≤64):2 ^ r*x=2 ^ r*(x % 2 ^ (64 - r))+18446744073709551616*(x / 2 ^ (64 - r)):=by
  have h:=Nat.div_add_mod x (2 ^ (64 - r))
  conv=>lhs; rw [← h]
  rw [Nat.mul_add,← Nat.mul_assoc,← Nat.pow_add,show r+(64 - r)=64 by omega]
  omega
def upR (a:N4) (r:Nat):N4:=⟨0 ||| shl64 a.a r,shr64 a.a (64 - r) ||| shl64 a.b r,shr64 a.b (64 - r) ||| shl64 a.c r,shr64 a.c (64 - r) ||| shl64 a.d r⟩
def downR (a:N4) (r:Nat):N4:=⟨shr64 a.a r ||| shl64 a.b (64 - r),shr64 a.b r ||| shl64 a.c (64 - r),shr64 a.c r ||| shl64 a.d (64 - r),shr64 a.d r⟩
theorem upR_val (a:N4) (r:Nat) (hr:r≤64):(upR a r).val+2 ^ 256*(a.d.toNat / 2 ^ (64 - r))=2 ^ r*a.val:=by
  unfold upR N4.val
  simp only
  rw [word_zero _ _ hr,word_up _ _ _ hr,word_up _ _ _ hr,word_up _ _ _ hr]
  have h1:=word_parts a.a.toNat r hr
  have h2:=word_parts a.b.toNat r hr
  have h3:=word_parts a.c.toNat r hr
  have h4:=word_parts a.d.toNat r hr
  have e : 2 ^ r * (a.a.toNat + 2 ^ 64 * a.b.toNat + 2 ^ 128 * a.c.toNat + 2 ^ 192 * a.d.toNat) =
      2 ^ r*a.a.toNat+2 ^ 64*(2 ^ r*a.b.toNat)+2 ^ 128*(2 ^ r*a.c.toNat)+2 ^ 192*(2 ^ r*a.d.toNat):=by
    rw [Nat.mul_add,Nat.mul_add,Nat.mul_add,Nat.mul_left_comm (2 ^ r) (2 ^ 64),Nat.mul_left_comm (2 ^ r) (2 ^ 128),Nat.mul_left_comm (2 ^ r) (2 ^ 192)]
  rw [e]
  omega
theorem down_parts (x:Nat) (r:Nat):x=2 ^ r*(x / 2 ^ r)+x % 2 ^ r:=(Nat.div_add_mod x (2 ^ r)).symm
theorem downR_val (a:N4) (r:Nat) (hr:r≤64):2 ^ r*(downR a r).val+a.a.toNat % 2 ^ r=a.val:=by
  unfold downR N4.val
  simp only
  rw [word_down _ _ _ hr,word_down _ _ _ hr,word_down _ _ _ hr,shr64_toNat]
  have h1:=down_parts a.a.toNat r
  have h2:=down_parts a.b.toNat r
  have h3:=down_parts a.c.toNat r
  have h4:=down_parts a.d.toNat r
  have e:∀ z,2 ^ r*(2 ^ (64 - r)*z)=18446744073709551616*z:=fun z=>by
    rw [← Nat.mul_assoc,← Nat.pow_add,show r+(64 - r)=64 by omega]
  simp only [Nat.mul_add,Nat.mul_left_comm (2 ^ r) (2 ^ 64),Nat.mul_left_comm (2 ^ r) (2 ^ 128),Nat.mul_left_comm (2 ^ r) (2 ^ 192),e]
  generalize 2 ^ r*(a.a.toNat / 2 ^ r)=p1 at *
  generalize 2 ^ r*(a.b.toNat / 2 ^ r)=p2 at *
  generalize 2 ^ r*(a.c.toNat / 2 ^ r)=p3 at *
  generalize 2 ^ r*(a.d.toNat / 2 ^ r)=p4 at *
  omega
def upW (a:N4):Nat→N4
  | 0=>a
  | 1=>⟨0,a.a,a.b,a.c⟩
  | 2=>⟨0,0,a.a,a.b⟩
  | 3=>⟨0,0,0,a.a⟩
  | _=>⟨0,0,0,0⟩
def downW (a:N4):Nat→N4
  | 0=>a
  | 1=>⟨a.b,a.c,a.d,0⟩
  | 2=>⟨a.c,a.d,0,0⟩
  | 3=>⟨a.d,0,0,0⟩
  | _=>⟨0,0,0,0⟩
theorem zero_toNat:(0:UInt64).toNat=0:=rfl
theorem upW_val (a:N4) (f:Nat) (hf:f < 4):(upW a f).val=2 ^ (64*f)*a.val % 2 ^ 256:=by
  have h1:=a.a.toNat_lt
  have h2:=a.b.toNat_lt
  have h3:=a.c.toNat_lt
  have h4:=a.d.toNat_lt
  unfold N4.val
  rcases f with _ | _ | _ | _ | f <;> first | (simp only [upW,zero_toNat]; omega) | omega
theorem downW_val (a:N4) (f:Nat) (hf:f < 4):(downW a f).val=a.val / 2 ^ (64*f):=by
  have h1:=a.a.toNat_lt
  have h2:=a.b.toNat_lt
  have h3:=a.c.toNat_lt
  have h4:=a.d.toNat_lt
  unfold N4.val
  rcases f with _ | _ | _ | _ | f <;> first | (simp only [downW,zero_toNat]; omega) | omega
theorem up_val (a:N4) (f r:Nat) (hf:f < 4) (hr:r < 64):upW (upR a r) f=N4.ofNat (a.val*2 ^ (64*f+r)):=by
  refine N4.ext_val ?_
  rw [upW_val _ _ hf,N4.val_ofNat]
  have h:=upR_val a r (by omega)
  have e:a.val*2 ^ (64*f+r)=2 ^ (64*f)*(2 ^ r*a.val):=by rw [Nat.pow_add,Nat.mul_comm,Nat.mul_assoc]
  rw [e,← h,Nat.mul_add,Nat.mul_left_comm,Nat.add_mul_mod_self_left]
theorem down_val (a:N4) (f r:Nat) (hf:f < 4) (hr:r < 64):downW (downR a r) f=N4.ofNat (a.val / 2 ^ (64*f+r)):=by
  refine N4.eq_ofNat ?_
  rw [downW_val _ _ hf]
  have h:=downR_val a r (by omega)
  have hl:=Nat.mod_lt a.a.toNat (Nat.two_pow_pos r)
  have e:a.val / 2 ^ r=(downR a r).val:=by
    rw [← h,Nat.mul_add_div (Nat.two_pow_pos r),Nat.div_eq_of_lt hl,Nat.add_zero]
  rw [Nat.add_comm,Nat.pow_add,← Nat.div_div_eq_div_mul,e]
theorem is_negn {P:Program} {t:TypeId} {x:Operand} (n:Nat) (h:n≤9223372036854775807):IsOp P (.unOp .neg t x) [int (-((n:Nat):Int))] (nat n):=isOp_un (by
  show some (Value.int .i64 (IntKind.i64.wrap (0 - -(n:Int))))=_
  rw [Int.zero_sub,Int.neg_neg,wrap_i64 _ (by omega)]; rfl)
end Go.Eng
end
section
namespace Go.Eng
theorem val_zero:(N4.mk 0 0 0 0).val=0:=rfl
theorem div_step (a m q r : N4) (L i : Nat) (hL : L ≤ 256) (hi : i < L) (hm : 0 < m.val) (hr : r.val = a.val / 2 ^ (L - i) % m.val) (hq : q.val = a.val / 2 ^ (L - i) / m.val * 2 ^ (L - i)) :
    (bringR r (bit4 a (L - 1 - i)) m).val=a.val / 2 ^ (L - (i+1)) % m.val ∧
    (q.set ((L - 1 - i) / 64) (q.get ((L - 1 - i) / 64) ||| shl64 (bringQ r (bit4 a (L - 1 - i)) m) ((L - 1 - i) % 64))).val=a.val / 2 ^ (L - (i+1)) / m.val*2 ^ (L - (i+1)):=by
  obtain⟨k,hk⟩:∃ k,L - 1 - i=k:=⟨_,rfl⟩
  have e1:L - i=k+1:=by omega
  have e2:L - (i+1)=k:=by omega
  rw [e1] at hr hq
  rw [hk,e2]
  have hb:=bit4_val a k (by omega)
  have hrm:r.val < m.val:=by rw [hr]; exact Nat.mod_lt _ hm
  obtain⟨b1,b2⟩:=bring_val r (bit4 a k) m (by omega) hrm
  rw [hb,hr] at b1 b2
  constructor
  · rw [b1]; exact(rest_step _ _ _).symm
  · have hs:=quo_step a.val m.val k hm
    rw [← b2] at hs
    have hQ:(bringQ r (bit4 a k) m).toNat≤1:=by
      unfold bringQ; cases bringF r (bit4 a k) m <;> decide
    rw [setbit_val q k _ (by omega) hQ (by rw [hq]; exact Nat.mul_mod_left _ _),hq,hs,Nat.add_mul,Nat.pow_succ,Nat.mul_comm 2 (a.val / (2 ^ k*2) / m.val),Nat.mul_assoc,Nat.mul_comm 2 (2 ^ k)]
end Go.Eng
end
section
namespace Go.Eng
def N8.set (x:N8) (i:Nat) (v:UInt64):N8:=match decide (i < 4) with
  | true=>{ x with lo:=x.lo.set i v }
  | false=>{ x with hi:=x.hi.set (i - 4) v }
theorem N8.get_lo (x:N8) {i:Nat} (h:i < 4):x.get i=x.lo.get i:=by rcases i with _ | _ | _ | _ | i <;> first | rfl | omega
theorem N8.get_hi (x:N8) {i:Nat} (h:i < 4):x.get (i+4)=x.hi.get i:=by rcases i with _ | _ | _ | _ | i <;> first | rfl | omega
theorem N8.set_val (q:N8) (j:Nat) (v:UInt64) (hj:j < 8):(q.set j v).val+2 ^ (64*j)*(q.get j).toNat=q.val+2 ^ (64*j)*v.toNat:=by
  unfold N8.set N8.val
  by_cases h:j < 4
  · rw [decide_eq_true h,q.get_lo h]
    have:=q.lo.set_val j v h
    simp only
    omega
  · obtain⟨k,rfl⟩:∃ k,j=k+4:=⟨j - 4,by omega⟩
    rw [decide_eq_false h,q.get_hi (show k < 4 by omega),Nat.add_sub_cancel]
    have:=q.hi.set_val k v (by omega)
    simp only
    rw [show 64*(k+4)=256+64*k by omega,Nat.pow_add,Nat.mul_assoc,Nat.mul_assoc]
    omega
def N8.ofNat (n:Nat):N8:=⟨N4.ofNat n,N4.ofNat (n / 2 ^ 256)⟩
theorem N8.val_ofNat (n:Nat):(N8.ofNat n).val=n % 2 ^ 512:=by
  simp only [N8.ofNat,N8.val,N4.val_ofNat]
  omega
theorem N4.eq_of_val {x y:N4} (h:x.val=y.val):x=y:=N4.ext_val h
theorem N8.eq_of_val {x y:N8} (h:x.val=y.val):x=y:=N8.ext_val h
theorem N8.eq_ofNat {x:N8} {n:Nat} (h:x.val=n):x=N8.ofNat n:=N8.eq_of_val (by rw [N8.val_ofNat,Nat.mod_eq_of_lt (by rw [← h]; exact x.val_lt),h])
end Go.Eng
end
section
namespace Go.Eng
def lessN (x y:Nat):Nat:=x+256 ^ 64 - y
theorem half_step (w i:Nat):w / 2 ^ i=2*(w / 2 ^ (i+1))+w / 2 ^ i % 2:=by
  rw [Nat.pow_succ,← Nat.div_div_eq_div_mul]; omega
end Go.Eng
namespace Go.Eng
end Go.Eng
end
section
namespace Go.Eng
theorem is_move_nat {P:Program} {x:Operand} (e:Int) (m:Nat) (he:e=(m:Int)):IsOp P (.move x) [int e] (nat m):=by
  subst he
  intro ρ o ho hv
  rw [ho] at hv
  simp only [Op.operands,List.map_cons,List.map_nil,List.cons.injEq,and_true] at hv
  unfold execOp
  rw [ho]
  simp only [hv]
  rfl
section wides
open Go.ChangeShapes Go.WideShapes Go.ChangeAt Go.RowKit
variable {H:Type} {enc:TypeId × Value→H} {P:Program}
end wides
end Go.Eng
end
section
namespace Go.Eng
def bitI (a:N4) (i:Int):UInt64:=if 0≤i∧i≤255 then .ofNat (a.val / 2 ^ i.toNat % 2) else 0
theorem ofNat_small {n:Nat} (h:n≤1):(UInt64.ofNat n).toNat=n:=by rw [UInt64.toNat_ofNat',Nat.mod_eq_of_lt (by omega)]
theorem bitI_nat (a:N4) (n:Nat) (hn:n≤255):(bitI a n).toNat=a.val / 2 ^ n % 2:=by
  unfold bitI
  rw [if_pos (by omega),Int.toNat_natCast,ofNat_small (by omega)]
theorem bitI_out {a:N4} {i:Int} (h:i < 0∨255 < i):bitI a i=0:=by unfold bitI; rw [if_neg (by omega)]
theorem bitI_bit4 (a:N4) (n:Nat) (hn:n≤255):bit4 a n=bitI a n:=UInt64.toNat_inj.1 (by rw [bit4_val a n (by omega),bitI_nat a n hn])
theorem beq_one {x:UInt64} (h:(x == 1)=true):x.toNat=1:=by rw [beq_iff_eq] at h; rw [h]; rfl
theorem bne_one {x:UInt64} (h:(x == 1)=false):¬ x.toNat=1:=fun e=>by
  have:x=1:=UInt64.toNat_inj.1 e
  rw [this] at h; cases h
theorem eq4_of {x y:N4} (h:eq4 x y=true):x=y:=(eq4_iff x y).1 h
theorem ne4_of {x y:N4} (h:eq4 x y=false):x.val≠y.val:=fun e=>by
  rw [eq4_val,e] at h; simp at h
theorem sub_less (x y:N4):N4.ofNat (lessN x.val y.val)=sub4 x y:=by
  apply N4.ext_val
  have h:=sub4_val x y
  have h1:=x.val_lt
  have h2:=y.val_lt
  have h3:=(sub4 x y).val_lt
  rw [N4.val_ofNat,lessN]
  have e:(256:Nat) ^ 64=2 ^ 256*2 ^ 256:=by decide
  rw [e]
  cases hc:sub4c x y with
  | true=>rw [hc] at h; simp only [Bool.toNat_true] at h; omega
  | false=>rw [hc] at h; simp only [Bool.toNat_false] at h; omega
end Go.Eng
end
section
namespace Go.Eng
def RR:Nat:=2 ^ 256
structure OddM (m:N4):Prop where
  odd:m.val % 2=1
  big:1 < m.val
def nE (k:Nat):Nat:=if k=0 then 3 else if k=1 then 6 else if k=2 then 12 else if k=3 then 24 else if k=4 then 48 else if k=5 then 96 else if k=6 then 192 else 256
theorem nE_step (k:Nat) (hk:k < 7):nE (k+1)≤2*nE k∧nE (k+1)≤256:=by
  rcases k with _ | _ | _ | _ | _ | _ | _ | k <;> first | decide | omega
theorem pow_dvd2 {a b:Nat} (h:a≤b):((2:Int) ^ a)∣2 ^ b:=⟨2 ^ (b - a),by rw [← Int.pow_add]; congr 1; omega⟩
theorem lo_mod (w:N8):w.lo.val=w.val % RR:=by
  have:=w.lo.val_lt
  unfold N8.val RR
  omega
theorem mul8_val' (x y:N4):(mul8 x y).val=x.val*y.val:=mul8_val x y
theorem mod_int (a:Nat):∃ s:Int,((a % RR:Nat):Int)=(a:Int)+RR*s:=⟨-((a / RR:Nat):Int),by
  have:=Nat.div_add_mod a RR
  generalize a / RR=q at *
  generalize a % RR=r at *
  have h2:((RR*q+r:Nat):Int)=(a:Int):=by rw [this]
  push_cast at h2
  rw [Int.mul_neg]; omega⟩
theorem newton_step (m v : N4) (k : Nat) (hk : k < 7) (h : ((2 : Int) ^ nE k) ∣ (m.val : Int) * v.val - 1) :
    ((2:Int) ^ nE (k+1))∣(m.val:Int)*(mul8 v (sub4 ⟨2,0,0,0⟩ (mul8 m v).lo)).lo.val - 1:=by
  have e1:(mul8 m v).lo.val=m.val*v.val % RR:=by rw [lo_mod,mul8_val']
  have hs:=sub4_val ⟨2,0,0,0⟩ (mul8 m v).lo
  have e2:(mul8 v (sub4 ⟨2,0,0,0⟩ (mul8 m v).lo)).lo.val=v.val*(sub4 ⟨2,0,0,0⟩ (mul8 m v).lo).val % RR:=by rw [lo_mod,mul8_val']
  generalize (sub4 ⟨2,0,0,0⟩ (mul8 m v).lo)=l at *
  generalize (mul8 v l).lo=v' at *
  generalize sub4c ⟨2,0,0,0⟩ (mul8 m v).lo=c at *
  generalize (mul8 m v).lo=p at *
  have v2:(N4.mk 2 0 0 0).val=2:=rfl
  rw [v2] at hs
  obtain⟨s1,h1⟩:=mod_int (m.val*v.val)
  obtain⟨s2,h2⟩:=mod_int (v.val*l.val)
  rw [← e1] at h1
  rw [← e2] at h2
  push_cast at h1 h2
  have h3:(l.val:Int)+p.val=2+RR*(c.toNat:Int):=by
    have:l.val+p.val=2+RR*c.toNat:=hs
    have:=congrArg (fun n:Nat=>(n:Int)) this
    push_cast at this; exact this
  obtain⟨d,hd⟩:=h
  have hl:(l.val:Int)=2 - (m.val:Int)*v.val+RR*((c.toNat:Int) - s1):=by rw [Int.mul_sub]; omega
  have key:(m.val:Int)*v'.val - 1 = -((m.val:Int)*v.val - 1)*((m.val:Int)*v.val - 1)+RR*((m.val:Int)*v.val*((c.toNat:Int) - s1)+m.val*s2):=by
    rw [h2,hl]
    generalize (m.val:Int)=M
    generalize (v.val:Int)=V
    generalize (c.toNat:Int) - s1=t
    generalize (RR:Int)=R
    rw [Int.mul_add M,Int.mul_add V,Int.mul_sub V,Int.mul_add M]
    rw [Int.mul_sub M]
    have a1:M*(V*2)=2*(M*V):=by rw [← Int.mul_assoc,Int.mul_comm]
    have a2:M*(V*(M*V))=M*V*(M*V):=by rw [← Int.mul_assoc]
    have a3:M*(V*(R*t))=R*(M*V*t):=by rw [← Int.mul_assoc,Int.mul_left_comm]
    have a4:M*(R*s2)=R*(M*s2):=Int.mul_left_comm _ _ _
    rw [a1,a2,a3,a4]
    generalize M*V=x
    have a5:-(x - 1)*(x - 1)=2*x - x*x - 1:=by
      rw [Int.neg_mul,Int.sub_mul,Int.mul_sub,Int.one_mul,Int.mul_one]; omega
    rw [a5,Int.mul_add R]
    omega
  rw [key]
  obtain⟨s1,s2⟩:=nE_step k hk
  refine Int.dvd_add ?_ ?_
  · rw [hd,Int.neg_mul]
    refine Int.dvd_neg.2 ?_
    have:((2:Int) ^ nE k*d)*(2 ^ nE k*d)=2 ^ (2*nE k)*(d*d):=by
      rw [show 2*nE k=nE k+nE k by omega,Int.pow_add,Int.mul_assoc,Int.mul_assoc]
      congr 1
      rw [← Int.mul_assoc d,Int.mul_comm d,Int.mul_assoc]
    rw [this]
    exact Int.dvd_trans (pow_dvd2 s1) (Int.dvd_mul_right _ _)
  · have:(RR:Int)=2 ^ 256:=Int.natCast_pow 2 256
    rw [this]
    exact Int.dvd_trans (pow_dvd2 s2) (Int.dvd_mul_right _ _)
theorem newton_begin {m:N4} (h:OddM m):((2:Int) ^ nE 0)∣(m.val:Int)*m.val - 1:=by
  have ho:=h.odd
  obtain⟨q,hq⟩:∃ q,m.val=2*q+1:=⟨m.val / 2,by omega⟩
  have e:q*(q+1) % 2=0:=by
    rcases Nat.mod_two_eq_zero_or_one q with h0 | h0
    · rw [Nat.mul_mod,h0]; simp
    · rw [Nat.mul_mod,show(q+1) % 2=0 by omega]; simp
  refine⟨((q*(q+1) / 2:Nat):Int),?_⟩
  have e2:q*(q+1)=2*(q*(q+1) / 2):=(fun(t:Nat) (h:t % 2=0)=>(show t=2*(t / 2) by omega)) _ e
  have e3:m.val*m.val=4*(q*(q+1))+1:=by
    have h1:(2*q+1)*(2*q+1)=2*q*(2*q)+2*q+2*q+1:=by rw [Nat.add_mul,Nat.mul_add,Nat.one_mul,Nat.mul_one]; omega
    have h2:2*q*(2*q)=4*(q*q):=by rw [Nat.mul_mul_mul_comm]
    have h3:q*(q+1)=q*q+q:=Nat.mul_succ q q
    rw [hq,h1,h2,h3]; omega
  have e5:m.val*m.val=8*(q*(q+1) / 2)+1:=by
    rw [e3]; exact(fun(t:Nat) (h:t=2*(t / 2))=>(show 4*t+1=8*(t / 2)+1 by omega)) _ e2
  have e4:((m.val*m.val:Nat):Int)=((8*(q*(q+1) / 2)+1:Nat):Int):=by rw [e5]
  clear e2 e5 e3 e
  generalize q*(q+1) / 2=t at *
  push_cast at e4
  have:(2:Int) ^ nE 0=8:=by decide
  rw [this]
  rw [e4]
  omega
theorem lack_of {m v:N4} (h:((2:Int) ^ nE 7)∣(m.val:Int)*v.val - 1):((sub4 ⟨0,0,0,0⟩ v).val*m.val+1) % RR=0:=by
  have hs:=sub4_val ⟨0,0,0,0⟩ v
  generalize sub4 ⟨0,0,0,0⟩ v=l at *
  generalize sub4c ⟨0,0,0,0⟩ v=c at *
  rw [val_zero] at hs
  obtain⟨d,hd⟩:=h
  have hR:(2:Int) ^ nE 7=RR:=(Int.natCast_pow 2 256).symm
  rw [hR] at hd
  have h3:(l.val:Int)+v.val=RR*(c.toNat:Int):=by
    have:l.val+v.val=0+RR*c.toNat:=hs
    have:=congrArg (fun n:Nat=>(n:Int)) this
    push_cast at this; omega
  have key:((l.val*m.val+1:Nat):Int)=RR*((c.toNat:Int)*m.val - d):=by
    push_cast
    have:(l.val:Int)=RR*(c.toNat:Int) - v.val:=by omega
    rw [this,Int.sub_mul,Int.mul_sub,Int.mul_comm (v.val:Int),Int.mul_assoc]
    omega
  have hdvd:(RR:Int)∣((l.val*m.val+1:Nat):Int):=⟨_,key⟩
  exact Nat.mod_eq_zero_of_dvd (Int.natCast_dvd_natCast.1 hdvd)
def rinv (m:Nat):Nat:=((m+1) / 2) ^ 256 % m
theorem rinv_spec {m:Nat} (ho:m % 2=1) (hb:1 < m):RR*rinv m % m=1:=by
  unfold rinv RR
  rw [Nat.mul_mod,Nat.mod_mod,← Nat.mul_mod,← Nat.mul_pow]
  have:2*((m+1) / 2)=m+1:=by omega
  rw [this,Nat.pow_mod,Nat.add_mod_left,Nat.mod_eq_of_lt hb,Nat.one_pow,Nat.mod_eq_of_lt hb]
theorem mod_mul_l (a b m:Nat):a % m*b % m=a*b % m:=by rw [Nat.mul_mod,Nat.mod_mod,← Nat.mul_mod]
theorem mod_mul_r (a b m:Nat):a*(b % m) % m=a*b % m:=by rw [Nat.mul_mod,Nat.mod_mod,← Nat.mul_mod]
theorem redc_unique {m r w:Nat} (ho:m % 2=1) (hb:1 < m) (hr:r < m) (h:r*RR % m=w % m):r=w*rinv m % m:=by
  have h1:=rinv_spec ho hb
  calc r=r % m:=(Nat.mod_eq_of_lt hr).symm
    _=r*(RR*rinv m % m) % m:=by rw [h1,Nat.mul_one]
    _=r*RR*rinv m % m:=by rw [mod_mul_r,Nat.mul_assoc]
    _=(r*RR % m)*rinv m % m:=(mod_mul_l _ _ _).symm
    _=(w % m)*rinv m % m:=by rw [h]
    _=w*rinv m % m:=mod_mul_l _ _ _
theorem rinv_back {m a:Nat} (ho:m % 2=1) (hb:1 < m):a*RR*rinv m % m=a % m:=by
  rw [Nat.mul_assoc,Nat.mul_mod,rinv_spec ho hb,Nat.mul_one,Nat.mod_mod]
def lessM (m a:N4) (c:UInt64):N4:=match selB (c == 0) (b2u (sub4c a m) == 1) false with
  | true=>a
  | false=>sub4 a m
theorem lessM_val (m a:N4) (c:UInt64) (hm:0 < m.val) (hc:c.toNat≤1) (h:a.val+RR*c.toNat < 2*m.val):(lessM m a c).val=(a.val+RR*c.toNat) % m.val:=by
  have hs:=sub4_val a m
  have h1:=a.val_lt
  have h2:=m.val_lt
  have h3:=(sub4 a m).val_lt
  unfold lessM RR at *
  rw [selB_and,b2u_one]
  by_cases hz:c=0
  · subst hz
    have e0:(0:UInt64).toNat=0:=rfl
    rw [e0] at *
    simp only [BEq.rfl,Bool.true_and]
    cases hb:sub4c a m with
    | true =>
      simp only
      rw [hb] at hs; simp only [Bool.toNat_true] at hs
      rw [Nat.mod_eq_of_lt (by omega)]; omega
    | false =>
      simp only
      rw [hb] at hs; simp only [Bool.toNat_false] at hs
      rw [show a.val+2 ^ 256*0=(sub4 a m).val+m.val by omega,Nat.add_mod_right,Nat.mod_eq_of_lt (by omega)]
  · have:(c == 0)=false:=by simpa using hz
    rw [this]
    simp only [Bool.false_and]
    have hc1:c.toNat=1:=by
      have:c.toNat≠0:=fun e=>hz (UInt64.toNat_inj.1 (by rw [e]; rfl))
      omega
    rw [hc1] at h
    rw [hc1]
    have hsc:(sub4c a m).toNat≤1:=toNat_le _
    have hsc1:sub4c a m=true:=by
      cases hb:sub4c a m with
      | true=>rfl
      | false=>rw [hb] at hs; simp only [Bool.toNat_false] at hs; omega
    rw [hsc1] at hs; simp only [Bool.toNat_true] at hs
    have e:a.val+2 ^ 256*1=(sub4 a m).val+m.val:=by omega
    rw [e,Nat.add_mod_right,Nat.mod_eq_of_lt (by omega)]
def belowM (m a:N4):N4:=N4.ofNat (a.val % m.val)
theorem belowM_val (m a:N4) (hm:0 < m.val):(belowM m a).val=a.val % m.val:=by
  have h1:=m.val_lt
  have:=Nat.mod_lt a.val hm
  rw [belowM,N4.val_ofNat,Nat.mod_eq_of_lt (by omega)]
theorem belowM_yes {m a:N4} (h:decide (cmp4 a m < 0)=true):a=belowM m a:=by
  have h:=of_decide_eq_true h
  rw [cmp4_eq,ord] at h
  have:a.val < m.val:=by
    by_cases h1:a.val < m.val
    · exact h1
    · rw [if_neg h1] at h; split at h <;> omega
  exact N4.eq_ofNat (Nat.mod_eq_of_lt this).symm
def redM (m lack:N4) (w:N8):N4 :=
  lessM m (add4 (add4 w.hi (mul8 (mul8 w.lo lack).lo m).hi) ⟨b2u (add4c w.lo (mul8 (mul8 w.lo lack).lo m).lo),0,0,0⟩)
    (b2u (add4c w.hi (mul8 (mul8 w.lo lack).lo m).hi)+b2u (add4c (add4 w.hi (mul8 (mul8 w.lo lack).lo m).hi) ⟨b2u (add4c w.lo (mul8 (mul8 w.lo lack).lo m).lo),0,0,0⟩))
theorem redM_val {m lack:N4} {w:N8} (hm:OddM m) (hl:(lack.val*m.val+1) % RR=0) (hw:w.val < m.val*RR):redM m lack w=N4.ofNat (w.val*rinv m.val % m.val):=by
  apply N4.eq_ofNat
  unfold redM
  have hP:=mul8_val' (mul8 w.lo lack).lo m
  have ho:(mul8 w.lo lack).lo.val=w.lo.val*lack.val % RR:=by rw [lo_mod,mul8_val']
  have hol:=(mul8 w.lo lack).lo.val_lt
  generalize (mul8 w.lo lack).lo=o at *
  have hPv:(mul8 o m).val=(mul8 o m).lo.val+RR*(mul8 o m).hi.val:=rfl
  rw [hPv] at hP
  generalize (mul8 o m).lo=pl at *
  generalize (mul8 o m).hi=ph at *
  have hw2:w.val=w.lo.val+RR*w.hi.val:=rfl
  rw [hw2] at hw ⊢
  generalize w.lo=L at *
  generalize w.hi=H at *
  have a1:=add4_val L pl
  have a2:=add4_val H ph
  have b1:=(add4 L pl).val_lt
  have c1:=toNat_le (add4c L pl)
  have c2:=toNat_le (add4c H ph)
  have hz:(L.val+pl.val) % RR=0:=by
    have h1:(L.val+(pl.val+RR*ph.val)) % RR=0:=by
      rw [hP,ho,Nat.add_mod,mod_mul_l,← Nat.add_mod,Nat.mul_assoc]
      have:L.val+L.val*(lack.val*m.val)=L.val*(lack.val*m.val+1):=by rw [Nat.mul_add]; omega
      rw [this,Nat.mul_mod,hl,Nat.mul_zero,Nat.zero_mod]
    rw [← Nat.add_assoc,Nat.add_mul_mod_self_left] at h1
    exact h1
  have hzero:(add4 L pl).val=0:=by
    have h2:L.val+pl.val=(add4 L pl).val+RR*(add4c L pl).toNat:=by unfold RR; omega
    rw [h2,Nat.add_mul_mod_self_left,Nat.mod_eq_of_lt (by unfold RR; exact b1)] at hz
    exact hz
  have hc:L.val+pl.val=RR*(add4c L pl).toNat:=by rw [hzero] at a1; unfold RR; omega
  generalize add4 L pl=dead at *
  generalize hcc:add4c L pl=c at *
  have hcv:(N4.mk (b2u c) 0 0 0).val=c.toNat:=by rw [small_val]
  have a3:=add4_val (add4 H ph) ⟨b2u c,0,0,0⟩
  rw [hcv] at a3
  have c3:=toNat_le (add4c (add4 H ph) ⟨b2u c,0,0,0⟩)
  generalize hS:add4 (add4 H ph) ⟨b2u c,0,0,0⟩=S at *
  generalize add4c (add4 H ph) ⟨b2u c,0,0,0⟩=d2 at *
  generalize add4 H ph=s1 at *
  generalize add4c H ph=d1 at *
  have hmlt:=m.val_lt
  have hT:RR*(H.val+ph.val+c.toNat)=L.val+RR*H.val+o.val*m.val:=by
    rw [Nat.mul_add,Nat.mul_add,← hc,← hP]; omega
  have hT2:H.val+ph.val+c.toNat < 2*m.val:=by
    have h1:o.val*m.val≤RR*m.val:=Nat.mul_le_mul_right _ (Nat.le_of_lt hol)
    have h2:RR*(H.val+ph.val+c.toNat) < RR*(2*m.val):=by
      rw [hT,Nat.mul_left_comm,Nat.two_mul]
      have:m.val*RR=RR*m.val:=Nat.mul_comm _ _
      omega
    exact Nat.lt_of_mul_lt_mul_left h2
  have hsum:S.val+RR*(d1.toNat+d2.toNat)=H.val+ph.val+c.toNat:=by
    rw [Nat.mul_add]; unfold RR; omega
  have hd:d1.toNat+d2.toNat≤1:=by
    have h1:=S.val_lt
    unfold RR at hsum
    omega
  have hdv:(b2u d1+b2u d2).toNat=d1.toNat+d2.toNat:=by
    rw [UInt64.toNat_add,b2u_toNat,b2u_toNat,Nat.mod_eq_of_lt (by omega)]
  have hm0:0 < m.val:=by have:=hm.big; omega
  rw [lessM_val m S (b2u d1+b2u d2) hm0 (by omega) (by rw [hdv,hsum]; exact hT2),hdv,hsum]
  apply redc_unique hm.odd hm.big (Nat.mod_lt _ hm0)
  rw [mod_mul_l,Nat.mul_comm,hT,Nat.add_mul_mod_self_right]
def oneM (m:N4):N4:=N4.ofNat (RR % m.val)
def toM (m a:N4):N4:=N4.ofNat (a.val*RR % m.val)
def fromM (m a:N4):N4:=N4.ofNat (a.val*rinv m.val % m.val)
def mulM (m a b:N4):N4:=N4.ofNat (a.val*b.val*rinv m.val % m.val)
def timesM (m a b:N4):N4:=N4.ofNat (a.val*b.val % m.val)
def plusM (m a b:N4):N4:=N4.ofNat ((a.val+b.val) % m.val)
def minusM (m a b:N4):N4:=N4.ofNat ((a.val+(m.val - b.val % m.val)) % m.val)
def powM (m a n:N4):N4:=N4.ofNat (a.val ^ n.val % m.val)
theorem ofNat_mod {m:N4} (hm:0 < m.val) (x:Nat):(N4.ofNat (x % m.val)).val=x % m.val:=by
  have:=Nat.mod_lt x hm
  have:=m.val_lt
  rw [N4.val_ofNat,Nat.mod_eq_of_lt (by omega)]
theorem OddM.pos {m:N4} (h:OddM m):0 < m.val:=by have:=h.big; omega
end Go.Eng
end
section
namespace Go.Eng
def vN (m:N4):Nat→N4
  | 0=>m
  | k+1=>(mul8 (vN m k) (sub4 ⟨2,0,0,0⟩ (mul8 m (vN m k)).lo)).lo
theorem vN_dvd {m:N4} (h:OddM m):∀ k,k≤7→((2:Int) ^ nE k)∣(m.val:Int)*(vN m k).val - 1
  | 0,_=>newton_begin h
  | k+1,hk=>newton_step m (vN m k) k (by omega) (vN_dvd h k (by omega))
def lackW (m:N4):N4:=sub4 ⟨0,0,0,0⟩ (vN m 7)
theorem lackW_ok {m:N4} (h:OddM m):((lackW m).val*m.val+1) % RR=0:=lack_of (vN_dvd h 7 (by omega))
def twoW (m:N4):N4:=N4.ofNat ((mul8 (oneM m) (oneM m)).val % m.val)
theorem oneM_val {m:N4} (h:OddM m):(oneM m).val=RR % m.val:=ofNat_mod h.pos _
theorem twoW_val {m:N4} (h:OddM m):(twoW m).val=RR*RR % m.val:=by
  rw [twoW,ofNat_mod h.pos,mul8_val',oneM_val h,mod_mul_l,mod_mul_r]
def doneS (s:Bool):UInt32:=match s with
  | true=>1
  | false=>0
def lackS (m:N4) (s:Bool):N4:=match s with
  | true=>lackW m
  | false=>⟨0,0,0,0⟩
def oneS (m:N4) (s:Bool):N4:=match s with
  | true=>oneM m
  | false=>⟨0,0,0,0⟩
def twoS (m:N4) (s:Bool):N4:=match s with
  | true=>twoW m
  | false=>⟨0,0,0,0⟩
theorem mul_red {m a b:N4} (h:OddM m):redM m (lackW m) (mul8 (belowM m a) b)=mulM m a b:=by
  have hb:=belowM_val m a h.pos
  have hlt:=Nat.mod_lt a.val h.pos
  have hw:(mul8 (belowM m a) b).val < m.val*RR:=by
    rw [mul8_val',hb]
    have h2:=b.val_lt
    calc a.val % m.val*b.val≤a.val % m.val*RR:=Nat.mul_le_mul_left _ (Nat.le_of_lt h2)
      _ < m.val*RR:=Nat.mul_lt_mul_of_pos_right hlt (by decide)
  rw [redM_val h (lackW_ok h) hw,mul8_val',hb,mulM,Nat.mul_assoc,mod_mul_l,Nat.mul_assoc]
theorem from_red {m a:N4} (h:OddM m):redM m (lackW m) ⟨a,⟨0,0,0,0⟩⟩=fromM m a:=by
  have hv:(N8.mk a ⟨0,0,0,0⟩).val=a.val:=by
    show a.val+2 ^ 256*(N4.mk 0 0 0 0).val=_
    rw [val_zero]; omega
  have hw:(N8.mk a ⟨0,0,0,0⟩).val < m.val*RR:=by
    rw [hv]
    have h1:=a.val_lt
    have h2:=h.pos
    calc a.val < RR:=h1
      _=1*RR:=(Nat.one_mul _).symm
      _≤m.val*RR:=Nat.mul_le_mul_right _ h2
  rw [redM_val h (lackW_ok h) hw,hv]; rfl
theorem to_mul {m a:N4} (h:OddM m):mulM m (twoW m) a=toM m a:=by
  unfold mulM toM
  congr 1
  have e:RR*RR % m.val*a.val*rinv m.val % m.val=a.val*RR*RR*rinv m.val % m.val:=by
    rw [Nat.mul_assoc,mod_mul_l,(fun(R x y:Nat)=>(show R*R*(x*y)=x*R*R*y by ac_rfl)) RR a.val (rinv m.val)]
  rw [twoW_val h,e,rinv_back h.odd h.big]
theorem plus_less {m:N4} (h:OddM m) (x y:N4):lessM m (add4 (belowM m x) (belowM m y)) (b2u (add4c (belowM m x) (belowM m y)))=plusM m x y:=by
  have hx:=belowM_val m x h.pos
  have hy:=belowM_val m y h.pos
  have lx:=Nat.mod_lt x.val h.pos
  have ly:=Nat.mod_lt y.val h.pos
  have ha:=add4_val (belowM m x) (belowM m y)
  have hc:=toNat_le (add4c (belowM m x) (belowM m y))
  have e:(add4 (belowM m x) (belowM m y)).val+RR*(b2u (add4c (belowM m x) (belowM m y))).toNat=x.val % m.val+y.val % m.val:=by
    rw [b2u_toNat]; unfold RR; omega
  apply N4.eq_of_val
  rw [lessM_val m _ _ h.pos (by rw [b2u_toNat]; exact hc) (by rw [e]; omega),e,plusM,ofNat_mod h.pos,← Nat.add_mod]
theorem minus_yes {m:N4} (h:OddM m) (x y:N4) (hb:(b2u (sub4c (belowM m x) (belowM m y)) == 1)=true):add4 (sub4 (belowM m x) (belowM m y)) m=minusM m x y:=by
  rw [b2u_one] at hb
  have hx:=belowM_val m x h.pos
  have hy:=belowM_val m y h.pos
  have lx:=Nat.mod_lt x.val h.pos
  have ly:=Nat.mod_lt y.val h.pos
  have hs:=sub4_val (belowM m x) (belowM m y)
  have ha:=add4_val (sub4 (belowM m x) (belowM m y)) m
  have h1:=(add4 (sub4 (belowM m x) (belowM m y)) m).val_lt
  have h2:=m.val_lt
  have h3:=toNat_le (add4c (sub4 (belowM m x) (belowM m y)) m)
  have hlt:=sub4c_eq (belowM m x) (belowM m y)
  rw [hb] at hs hlt
  have hlt:=of_decide_eq_true hlt.symm
  simp only [Bool.toNat_true] at hs
  apply N4.eq_of_val
  rw [minusM,ofNat_mod h.pos,Nat.add_mod,Nat.mod_eq_of_lt (show m.val - y.val % m.val < m.val by omega),Nat.mod_eq_of_lt (show x.val % m.val+(m.val - y.val % m.val) < m.val by omega)]
  cases hc:add4c (sub4 (belowM m x) (belowM m y)) m with
  | true=>rw [hc] at ha; simp only [Bool.toNat_true] at ha; omega
  | false=>rw [hc] at ha; simp only [Bool.toNat_false] at ha; omega
theorem minus_no {m:N4} (h:OddM m) (x y:N4) (hb:(b2u (sub4c (belowM m x) (belowM m y)) == 1)=false):sub4 (belowM m x) (belowM m y)=minusM m x y:=by
  rw [b2u_one] at hb
  have hx:=belowM_val m x h.pos
  have hy:=belowM_val m y h.pos
  have lx:=Nat.mod_lt x.val h.pos
  have ly:=Nat.mod_lt y.val h.pos
  have hs:=sub4_val (belowM m x) (belowM m y)
  rw [hb] at hs
  simp only [Bool.toNat_false] at hs
  apply N4.eq_of_val
  rw [minusM,ofNat_mod h.pos,Nat.add_mod]
  have:(x.val % m.val+(m.val - y.val % m.val) % m.val) % m.val=(sub4 (belowM m x) (belowM m y)).val:=by
    rw [Nat.add_mod_mod,show x.val % m.val+(m.val - y.val % m.val)=(sub4 (belowM m x) (belowM m y)).val+m.val by omega,Nat.add_mod_right,Nat.mod_eq_of_lt (by omega)]
  exact this.symm
theorem mulM_img {m x y:N4} (h:OddM m) {A B:Nat} (hx:x.val=A*RR % m.val) (hy:y.val=B*RR % m.val):(mulM m x y).val=A*B*RR % m.val:=by
  rw [mulM,ofNat_mod h.pos,hx,hy]
  have e:A*RR % m.val*(B*RR % m.val)*rinv m.val % m.val=A*B*RR*RR*rinv m.val % m.val:=by
    rw [Nat.mul_assoc,mod_mul_l,← Nat.mul_assoc,Nat.mul_comm (A*RR),Nat.mul_assoc,mod_mul_l,
      (fun(R x y z:Nat)=>(show y*R*(x*R*z)=x*y*R*R*z by ac_rfl)) RR A B (rinv m.val)]
  rw [e,rinv_back h.odd h.big]
theorem toM_val {m:N4} (h:OddM m) (a:N4):(toM m a).val=a.val*RR % m.val:=ofNat_mod h.pos _
theorem pow_down {n L i:Nat} (hi:i < L):n / 2 ^ (L - (i+1))=2*(n / 2 ^ (L - i))+n / 2 ^ (L - 1 - i) % 2:=by
  have h:=half_step n (L - 1 - i)
  rw [show L - 1 - i+1=L - i by omega] at h
  rw [show L - (i+1)=L - 1 - i by omega]
  exact h
theorem pow_one {m q a n : N4} (h : OddM m) {i : Nat} (hi : i < len4 n) (hq : q.val = a.val ^ (n.val / 2 ^ (len4 n - i)) * RR % m.val) (hb : (bit4 n (len4 n - 1 - i) == 1) = true) :
    (mulM m (mulM m q q) (toM m a)).val=a.val ^ (n.val / 2 ^ (len4 n - (i+1)))*RR % m.val:=by
  have hl:=len4_le n
  have hb:=beq_one hb
  rw [bit4_val n _ (by omega)] at hb
  rw [pow_down hi,hb,mulM_img h (mulM_img h hq hq) (toM_val h a),← Nat.pow_add,← Nat.pow_succ]
  congr 3
  omega
theorem pow_none {m q a n : N4} (h : OddM m) {i : Nat} (hi : i < len4 n) (hq : q.val = a.val ^ (n.val / 2 ^ (len4 n - i)) * RR % m.val) (hb : (bit4 n (len4 n - 1 - i) == 1) = false) :
    (mulM m q q).val=a.val ^ (n.val / 2 ^ (len4 n - (i+1)))*RR % m.val:=by
  have hl:=len4_le n
  have hb:=bne_one hb
  rw [bit4_val n _ (by omega)] at hb
  rw [pow_down hi,show n.val / 2 ^ (len4 n - 1 - i) % 2=0 by omega,mulM_img h hq hq,← Nat.pow_add]
  congr 3
  omega
theorem pow_begin {m a n:N4} (h:OddM m):(oneS m true).val=a.val ^ (n.val / 2 ^ (len4 n - 0))*RR % m.val:=by
  show(oneM m).val=_
  rw [oneM_val h,Nat.sub_zero,len4_val,Nat.div_eq_of_lt (bitLen_lt n.val),Nat.pow_zero,Nat.one_mul]
theorem pow_end {m q a n:N4} (h:OddM m) (hq:q.val=a.val ^ (n.val / 2 ^ (len4 n - len4 n))*RR % m.val):fromM m q=powM m a n:=by
  rw [Nat.sub_self,Nat.pow_zero,Nat.div_one] at hq
  rw [fromM,powM,hq,mod_mul_l,rinv_back h.odd h.big]
theorem times_mul {m:N4} (h:OddM m) (a b:N4):mulM m (toM m a) b=timesM m a b:=by
  apply N4.eq_of_val
  rw [mulM,timesM,ofNat_mod h.pos,ofNat_mod h.pos,toM_val h,Nat.mul_assoc,mod_mul_l,
    (fun(R x y z:Nat)=>(show x*R*(y*z)=x*y*R*z by ac_rfl)) RR a.val b.val (rinv m.val),rinv_back h.odd h.big]
def checkE (m:N4):Int:=if m.val≤1 then 11 else 12
theorem val_one':(N4.mk 1 0 0 0).val=1:=rfl
theorem few_yes {m:N4} (h:(selB (eq4 m (N4.mk 0 0 0 0)) true (eq4 m (N4.mk 1 0 0 0)))=true):m.val≤1:=by
  rcases sbor_t h with h | h
  · rw [eq4_of h,val_zero]; omega
  · rw [eq4_of h,val_one']; omega
theorem few_no {m:N4} (h:(selB (eq4 m (N4.mk 0 0 0 0)) true (eq4 m (N4.mk 1 0 0 0)))=false):1 < m.val:=by
  have h0:=ne4_of (sbor_l h)
  have h1:=ne4_of (sbor_r h)
  rw [val_zero] at h0
  rw [val_one'] at h1
  omega
theorem few_odd {m:N4} (h:OddM m):(selB (eq4 m (N4.mk 0 0 0 0)) true (eq4 m (N4.mk 1 0 0 0)))=false:=by
  cases hx:(selB (eq4 m (N4.mk 0 0 0 0)) true (eq4 m (N4.mk 1 0 0 0))) with
  | false=>rfl
  | true=>have:=few_yes hx; have:=h.big; omega
theorem bit0_val (m:N4):(bitI m 0).toNat=m.val % 2:=by
  have:=bitI_nat m 0 (by omega)
  rw [Nat.pow_zero,Nat.div_one] at this; exact this
theorem bit0_odd {m:N4} (h:OddM m):(bitI m 0 == 0)=false:=by
  cases hx:(bitI m 0 == 0) with
  | false=>rfl
  | true =>
    have e:=bit0_val m
    rw [beq_iff_eq.1 hx,h.odd] at e
    cases e
theorem odd_of {m:N4} (h1:(selB (eq4 m (N4.mk 0 0 0 0)) true (eq4 m (N4.mk 1 0 0 0)))=false) (h2:(bitI m 0 == 0)=false):OddM m:=by
  refine⟨?_,few_no h1⟩
  have e:=bit0_val m
  have:(bitI m 0).toNat≠0:=fun h=>by
    have:bitI m 0=0:=UInt64.toNat_inj.1 h
    rw [this] at h2; cases h2
  omega
theorem checkE_11 {m:N4} (h:(selB (eq4 m (N4.mk 0 0 0 0)) true (eq4 m (N4.mk 1 0 0 0)))=true):checkE m=11:=if_pos (few_yes h)
theorem checkE_12 {m:N4} (h:(selB (eq4 m (N4.mk 0 0 0 0)) true (eq4 m (N4.mk 1 0 0 0)))=false):checkE m=12:=if_neg (by have:=few_no h; omega)
end Go.Eng
end
section
namespace Go.Eng
theorem Post.trans {m m' m'':Nat→Option Blk} {w w' w'':World} (h:Post m w m' w') (k:Post m' w' m'' w''):Post m w m'' w'':=⟨k.holds,k.apart,h.adv.trans k.adv⟩
theorem Post.drew {m:Nat→Option Blk} {w:World} (h:∀ p b,m p=some b→Holds b w) (ha:Apart m):Post m w m w.drew :=
  ⟨fun p b hp=>(h p b hp).drew,ha,⟨rfl,rfl,rfl,Nat.le_refl _,fun _ _ _=>rfl,fun _ h=>.inl h,fun _ _ h _=>h⟩⟩
theorem listMem_set0 (x x':Blk) (y:Option Blk):memApply (listMem [some x,y]) [(0,some x')]=listMem [some x',y]:=by
  funext p
  rcases p with _ | p <;> rfl
def copySem (dT sT ty:TypeId) (x y:Value):Sem Next:=do pure (.value (← Builtin.copy_ #[dT,sT] ty #[x,y]))
theorem srun_copy {P : Program} {dT sT ty e : TypeId} {n k od dl dc os sl sc : Nat} {D S D' cs : List Value}
    (hu:P.underlying dT=some (.slice e)) (hs:sizeB P e=some 1) (hcs:(S.drop os).take (min sl dl)=cs) (hlen:cs.length=min sl dl) (h1:cs.all Value.oneCell'=true)
    (hst:(Cont.lit D).store (.lit od) cs=some (.lit D')) :
    SRuns P (copySem dT sT ty (.slice (some ⟨n,od,none⟩) dl dc) (.slice (some ⟨k,os,none⟩) sl sc)) [⟨n,true,0,.lit D⟩,⟨k,false,0,.lit S⟩] 0 (fun _=>int cs.length) (fun _=>[some ⟨n,true,0,.lit D'⟩,some ⟨k,false,0,.lit S⟩]):=by
  intro w hm ha
  have hD:Holds ⟨n,true,0,.lit D⟩ w:=hm _ (by simp)
  have hS:Holds ⟨k,false,0,.lit S⟩ w:=hm _ (by simp)
  obtain⟨g1,g2⟩:=Cont.store_get hst trivial
  have hr:=run_copy_cells (P:=P) w dT sT ty e n od dl dc ⟨k,os,none⟩ sl sc cs hu (by simpa [sizeB] using hs) (by rw [hlen])
    (fun j v hj=>by
      have hjl:j < cs.length:=(List.getElem?_eq_some_iff.1 hj).1
      have:=hS.cell (os+j) v (by
        show S[os+j]? = some v
        rw [← hcs,List.getElem?_take_of_lt (by omega),List.getElem?_drop] at hj; exact hj)
      rw [show(⟨k,os,none⟩:Addr).add j=⟨k,os+j,none⟩ from add_none k os j]
      simpa using this)
    (fun j hj=>by
      obtain⟨u,hu⟩:=g1 j hj
      have:=hD.cell _ u hu
      simp only [Cont.off,Nat.zero_add] at this
      rw [this]; rfl)
    (fun j hj=>by
      obtain⟨u,hu⟩:=g1 j hj
      have:=hD.free rfl _ u hu
      simpa [Cont.off] using this) (List.all_eq_true.1 h1)
  refine⟨[],w.setCells n od cs,rfl,.inl ?_,?_⟩
  · show((Builtin.copy_ #[dT,sT] ty #[.slice (some ⟨n,od,none⟩) dl dc,.slice (some ⟨k,os,none⟩) sl sc]).bind fun v=>Sem.pure (Next.value v)).run P w=_
    have:∀ (s:Sem Value) (v:Value) (w':World),s.run P w = .ok v w'→(s.bind fun v=>Sem.pure (Next.value v)).run P w = .ok (Next.value v) w':=fun s v w' h=>by
      show(s >>= fun v=>Sem.pure (Next.value v)).run P w=_
      rw [Sem.run_bind,h]; rfl
    exact this _ _ _ hr
  · have hp := post_store (m := listMem ([⟨n, true, 0, .lit D⟩, ⟨k, false, 0, .lit S⟩].map some)) (w := w) (p := 0) (b := ⟨n, true, 0, .lit D⟩) (l := .lit od) (cs := cs) (c := .lit D')
      (fun p b hb=>hm b (List.mem_of_getElem? (listMem_some.1 hb))) ha rfl rfl hst trivial
    rw [show([⟨n,true,0,.lit D⟩,⟨k,false,0,.lit S⟩].map some:List (Option Blk))=[some ⟨n,true,0,.lit D⟩,some ⟨k,false,0,.lit S⟩] from rfl] at hp ⊢
    rw [listMem_set0] at hp
    simpa [Cont.off] using hp
theorem setCells_one (w:World) (b o:Nat) (v:Value):w.setCells b o [v]=w.setCell ⟨b,o,none⟩ v:=rfl
theorem post_cell {n k : Nat} {D D' S : List Value} {w : World} {o : Nat} {v : Value} (hD : Holds ⟨n, true, 0, .lit D⟩ w) (hS : Holds ⟨k, false, 0, .lit S⟩ w) (hnk : n ≠ k)
    (hst:(Cont.lit D).store (.lit o) [v]=some (.lit D')) :
    Post (listMem [some ⟨n,true,0,.lit D⟩,some ⟨k,false,0,.lit S⟩]) w (listMem [some ⟨n,true,0,.lit D'⟩,some ⟨k,false,0,.lit S⟩]) (w.setCell ⟨n,o,none⟩ v):=by
  have hm:∀ p b,listMem [some ⟨n,true,0,.lit D⟩,some ⟨k,false,0,.lit S⟩] p=some b→Holds b w:=fun p b hb=>by
    rcases p with _ | _ | p
    · injection hb with hb; subst hb; exact hD
    · injection hb with hb; subst hb; exact hS
    · simp [listMem] at hb
  have ha:Apart (listMem [some ⟨n,true,0,.lit D⟩,some ⟨k,false,0,.lit S⟩]):=fun p q b c hpq hb hc ho=>by
    rcases p with _ | _ | p
    · rcases q with _ | _ | q
      · exact absurd rfl hpq
      · injection hb with hb; injection hc with hc; subst hb; subst hc; exact ne_has hnk
      · simp [listMem] at hc
    · injection hb with hb; subst hb; cases ho
    · simp [listMem] at hb
  have hp:=post_store (p:=0) (b:=⟨n,true,0,.lit D⟩) (l:=.lit o) (cs:=[v]) (c:=.lit D') hm ha rfl rfl hst trivial
  rw [listMem_set0] at hp
  simpa [Cont.off,setCells_one] using hp
end Go.Eng
end
section
namespace Go.Eng
theorem e4 (z:N4):eq4 z z=true:=(eq4_iff z z).2 rfl
theorem minusM_val {m:N4} (h:OddM m) (a b:N4):(minusM m a b).val=(a.val+(m.val - b.val % m.val)) % m.val:=ofNat_mod h.pos _
theorem plusM_val {m:N4} (h:OddM m) (a b:N4):(plusM m a b).val=(a.val+b.val) % m.val:=ofNat_mod h.pos _
theorem timesM_val {m:N4} (h:OddM m) (a b:N4):(timesM m a b).val=a.val*b.val % m.val:=ofNat_mod h.pos _
theorem powM_val {m:N4} (h:OddM m) (a n:N4):(powM m a n).val=a.val ^ n.val % m.val:=ofNat_mod h.pos _
theorem add_mod_l (a b m:Nat):(a % m+b) % m=(a+b) % m:=by rw [Nat.add_mod,Nat.mod_mod,← Nat.add_mod]
theorem small_v (n:UInt64):(N4.mk n 0 0 0).val=n.toNat:=by
  have e0:(0:UInt64).toNat=0:=rfl
  simp only [N4.val,e0]; omega
theorem pow_add {m:N4} (h:OddM m) (a:N4) (n k:UInt64) (hn:n.toNat < 2 ^ 62) (hk:k.toNat < 2 ^ 62):powM m a (N4.mk (n+k) 0 0 0)=timesM m (powM m a (N4.mk n 0 0 0)) (powM m a (N4.mk k 0 0 0)):=by
  apply N4.eq_of_val
  rw [powM_val h,timesM_val h,powM_val h,powM_val h,small_v,small_v,small_v,UInt64.toNat_add,Nat.mod_eq_of_lt (show n.toNat+k.toNat < 2 ^ 64 by omega),← Nat.mul_mod,Nat.pow_add]
theorem checkE_ne (m:N4):(checkE m != 0)=true:=by unfold checkE; split <;> rfl
end Go.Eng
end
section
namespace Go.Eng
end Go.Eng
end
