/-
  Many in one: ShaLaw, Digest, Digest2, Digest3, Digest9, Digest7.
-/
import Derived.Test.YtnailbicmhkmbaaDoorZPoolBlocks15
import Derived.ChangeSame
import Derived.LaidLaws
import Derived.LaidMore
import Derived.OpenShut
import Derived.Stop.Joined
set_option linter.unusedVariables false
set_option linter.unusedSimpArgs false
set_option maxRecDepth 100000
set_option maxHeartbeats 1000000
section
namespace Go.Eng
open Go.RowKit Go.WideShapes Go.ChangeShapes Go.ChangeAt
section
variable {P:Program} {t e t':TypeId} {x y:Operand} {n:Nat}
theorem equal_vec8 (ht : P.underlying t = some (.array n e)) (he : P.underlying e = some (.int .u8)) (hs : sizeB P e = some 1) (f g : Nat → UInt8) :
    pureRun P (Op.equal t (vecV n fun k=>u8 (f k)) (vecV n fun k=>u8 (g k)))=some (sameS f n g n):=by
  have h:=pureRun_equalIn_arr (P:=P) 9998 ((List.range n).map fun k=>((f k).toNat:Int)) ((List.range n).map fun k=>((g k).toNat:Int)) ht he hs (by simp) (by simp)
  have e1:∀ q:Nat→UInt8,(((List.range n).map fun k=>((q k).toNat:Int)).map (Value.int .u8)).toArray=((List.range n).map fun k=>u8 (q k)).toArray:=fun q=>by
    rw [List.map_map]; rfl
  rw [e1,e1] at h
  show pureRun P (Op.equalIn (9998+2) t (vecV n _) (vecV n _))=_
  rw [show(vecV n fun k=>u8 (f k)) = .agg ((List.range n).map fun k=>u8 (f k)).toArray from rfl,show(vecV n fun k=>u8 (g k)) = .agg ((List.range n).map fun k=>u8 (g k)).toArray from rfl,h]
  congr 1
  unfold sameS
  rw [Bool.eq_iff_iff,List.all_eq_true,decide_eq_true_eq]
  constructor
  · intro h1
    refine⟨rfl,fun k hk=>?_⟩
    have h2:=h1 k (List.mem_range.2 hk)
    simp [List.getD,hk] at h2
    exact UInt8.toNat_inj.1 (by omega)
  · rintro⟨_,h1⟩ k hk
    have hk':=List.mem_range.1 hk
    simp [List.getD,hk',h1 k hk']
theorem is_eqlV8 (ht : P.underlying t = some (.array n e)) (he : P.underlying e = some (.int .u8)) (hs : sizeB P e = some 1) (hg : P.eqGuardType P.depth t = false) (f g : Nat → UInt8) :
    IsOp P (.binOp .eql t x y t') [vecV n fun k=>u8 (f k),vecV n fun k=>u8 (g k)] (.bool (sameS f n g n)):=isOp_bin (guard_arr hg) (by
  show pureRun P (do pure (Value.bool (← Op.equal t (vecV n fun k=>u8 (f k)) (vecV n fun k=>u8 (g k)))))=_
  rw [pureRun_bind',equal_vec8 ht he hs]; rfl)
end
def bysO (nm n c:Nat) (f:Nat→BytL):BytS:=⟨some ⟨nm,0,none⟩,n,c,nm,0,f⟩
def brow (l:List BytL):Nat→BytL:=fun k=>l.getD k (bytZ none 0)
theorem oks_own {nm n c:Nat} {f:Nat→BytL} (h1:n≤c) (h2:n≤9223372036854775807) (h3:∀ k,k < n→OkB (f k)):OkS (bysO nm n c f):=⟨h1,fun _=>rfl,h2,h3⟩
theorem tab_cell {P : Program} {W : World} {g t e : Nat} {n : Nat} {name : String} {zs : List Int} (hname : P.globalNamed name = some g) (hty : (P.globals[g]?).map (·.type) = some t) (ht : P.underlying t = some (.array n e)) (he : P.underlying e = some (.int .u32)) (hc : P.cellsOf e = 1) (hlen : zs.length = n)
    (h:∃ (g' t':Nat) (cs:Array Value) (fuel:Nat) (q:List MemPlace),P.globalNamed name=some g'∧(P.globals[g']?).map (·.type)=some t'∧W.var? P name=some cs∧DataW.trod (fun _=>()) P W 0 (fun _=>true) false fuel t' cs.toList=some (.agg (zs.map fun z=>.lit (.int .u32 z)),q)) (r:Nat) (hr:r < n) :
    W.cell? ⟨g,r,none⟩=some (.int .u32 (zs.getD r 0)):=by
  obtain⟨g',t',cs,fuel,q,hg,htt,hv,hd⟩:=h
  obtain rfl:=Option.some.inj (hname.symm.trans hg)
  obtain rfl:=Option.some.inj (hty.symm.trans htt)
  obtain⟨xs,m,_,ex,_,hl,hel⟩:=DataW.trod_array ht hd
  have hE:=hel r hr
  rw [hc,Nat.mul_one,List.getElem?_eq_getElem (by omega)] at hE
  obtain⟨z,e1,e2,_⟩:=DataW.trod_int he hE
  have e3:(xs.map (·.1))=zs.map fun n=>.lit (.int .u32 n):=(DataW.agg.inj (Prod.mk.inj ex).1).symm
  have e4:(xs.map (·.1))[r]? = (zs.map fun n=>(DataW.lit (.int .u32 n):DataW Unit))[r]?:=by rw [e3]
  rw [List.getElem?_map,List.getElem?_map,List.getElem?_eq_getElem (by omega:r < xs.length),List.getElem?_eq_getElem (by omega:r < zs.length),e2] at e4
  have hz:z=zs.getD r 0:=by
    simp only [Option.map_some,Option.some.injEq,DataW.lit.injEq,Lit.int.injEq,true_and] at e4
    rw [e4,List.getD,List.getElem?_eq_getElem (by omega:r < zs.length)]; rfl
  rw [World.var?_cell hname hv r,← hz]
  have:cs.toList[r]? = some (.int .u32 z):=by
    have h0:((cs.toList.drop r).take 1)[0]? = some (.int .u32 z):=by rw [e1]; rfl
    simpa using h0
  simpa using this
end Go.Eng
namespace Go.Eng
open Go.RowKit Go.WideShapes Go.ChangeShapes Go.ChangeAt
end Go.Eng
namespace Go.Eng
open Go.RowKit Go.WideShapes Go.ChangeShapes Go.ChangeAt Go.Deep
theorem tabK (l:List Nat) (n:Nat) (hn:l.length=n) (hl:l.all (fun z=>decide (z < 4294967296))=true) (r:Nat) (hr:r < n):Value.int .u32 ((l.map fun z:Nat=>(z:Int)).getD r 0)=u32 (UInt32.ofNat (l.getD r 0)):=by
  have h1:r < l.length:=by omega
  have h2:l[r] < 4294967296:=by
    have:=List.all_eq_true.1 hl l[r] (List.getElem_mem h1)
    simpa using this
  simp only [List.getD,List.getElem?_map,List.getElem?_eq_getElem h1,Option.map_some,Option.getD_some]
  unfold u32
  rw [UInt32.toNat_ofNat',Nat.mod_eq_of_lt (by simpa using h2)]
theorem famT_cells {W:World} (h0:∀ r,r < 8→W.cell? ⟨0,r,none⟩=some (.int .u32 ((begK.map fun z:Nat=>(z:Int)).getD r 0))) (h1:∀ r,r < 64→W.cell? ⟨1,r,none⟩=some (.int .u32 ((rndK.map fun z:Nat=>(z:Int)).getD r 0))):FamH famT W:=fun b hb=>by
  rcases hb with rfl | rfl
  · refine⟨⟨lt_of_cell (h0 0 (by omega)),fun o v ho=>?_,(fun h=>by cases h),obj_not rfl⟩,rfl⟩
    have ho':(litF 8 fun k=>u32 (begW k)).get o=some v:=ho
    rw [← get_tabF] at ho'
    by_cases hl:o < 8
    · rw [tabF_in hl] at ho'
      show W.cell? ⟨0,0+o,none⟩=some v
      rw [Nat.zero_add,h0 o hl,← ho',tabK begK 8 rfl (by decide +kernel) o hl]; rfl
    · rw [tabF_out hl] at ho'; cases ho'
  · refine⟨⟨lt_of_cell (h1 0 (by omega)),fun o v ho=>?_,(fun h=>by cases h),obj_not rfl⟩,rfl⟩
    have ho':(tabF 64 fun k=>u32 (rndW k)).get o=some v:=ho
    by_cases hl:o < 64
    · rw [tabF_in hl] at ho'
      show W.cell? ⟨1,0+o,none⟩=some v
      rw [Nat.zero_add,h1 o hl,← ho',tabK rndK 64 rfl (by decide +kernel) o hl]; rfl
    · rw [tabF_out hl] at ho'; cases ho'
end Go.Eng
namespace Go.Eng
theorem stands_first {g:Nat→UInt8} {m:Nat} (hm:m < 18446744073709551616):Stands (wrH newH g m) g m:=by
  have h:=(stands_new g).write (g:=g) (m:=m) (by omega)
  rw [Nat.zero_add] at h
  exact h.congr fun k _=>by unfold catU; rw [if_neg (by omega),Nat.sub_zero]
section
variable {P:Program} {t e:TypeId} {x y z:Operand}
theorem is_slqPart (ht : P.underlying t = some (.slice e)) {sz : Nat} (hs : sizeB P e = some sz) (wa : Option Addr) (len cap i j : Nat) (hi : i ≤ j ∧ j ≤ cap) :
    IsOp P (.slice t x (some y) (some z) none) [.slice wa len cap,nat i,nat j] (.slice (fromA wa cap i sz) (j - i) (cap - i)):=by
  intro ρ o' ho hv
  rw [ho] at hv
  have hv':[ρ x,ρ y,ρ z]=[Value.slice wa len cap,nat i,nat j]:=hv
  injection hv' with h1 hv'
  injection hv' with h2 hv'
  injection hv' with h3 _
  unfold execOp
  rw [ho]
  simp only [Option.map]
  show pureRun P (Sem.bind (Instr.sliceAt t (ρ x) (some (ρ y)) (some (ρ z)) none) fun v=>Sem.pure (Next.value v))=_
  rw [pureRun_bind,h1,h2,h3]
  have hi':0≤(i:Int)∧(i:Int)≤(j:Int):=by omega
  have hj':0≤(j:Int)∧(j:Int)≤(cap:Int):=by omega
  have e:pureRun P (Instr.sliceAt t (.slice wa len cap) (some (nat i)) (some (nat j)) none)=some (.slice (fromA wa cap i sz) (j - i) (cap - i)):=by
    simp only [Instr.sliceAt,Instr.slice,Instr.sliceBounds,Instr.sliceBound,nat,pureRun_bind',asIntOf,pureRun,pure,pureRun_underlying ht,hi',hj',and_self,if_true,pureRun_sizeOf hs,Int.toNat_natCast]
    rfl
  rw [e]
  rfl
end
end Go.Eng
namespace Go.Eng
end Go.Eng
namespace Go.Eng
section
variable {f:Nat→BytL} {i:Nat} {G Z:HS} {A:Grw UInt8}
end
end Go.Eng
end
section
namespace Go.Eng
def eightF (q:UInt64):Nat→UInt8:=fun k=>UInt8.ofNat (dig q.toNat (7 - k))
theorem eight_bytes (q:UInt64) {k:Nat} (hk:k < 8):bytesF ⟨q,0,0,0⟩ (24+k)=eightF q k:=by
  have e:(⟨q,0,0,0⟩:N4).val=q.toNat:=by simp [N4.val]
  unfold bytesF eightF
  rw [if_pos (by omega),e,show 31 - (24+k)=7 - k by omega]
theorem catU_congr {f f' g g':Nat→UInt8} {n m:Nat} (h1:∀ k,k < n→f k=f' k) (h2:∀ k,k < m→g k=g' k):∀ k,k < n+m→catU f n g k=catU f' n g' k:=fun k hk=>by
  unfold catU
  by_cases h:k < n
  · rw [if_pos h,if_pos h,h1 k h]
  · rw [if_neg h,if_neg h,h2 (k - n) (by omega)]
theorem tabU_tailL {c:Nat} {g:Nat→UInt8} {w:World} (h:Holds ⟨c,false,0,tabF 32 fun k=>u8 (g k)⟩ w):Holds (bytB (bytP c 24 8 8 g)) w:=by
  have h1:=tabU_tail (k:=24) h (by decide)
  have e:(fun i=>u8 (g (i+24)))=fun i=>u8 (g (24+i)):=by funext i; rw [Nat.add_comm]
  have h2:Holds ⟨c,false,0+24,tabF (32 - 24) fun i=>u8 (g (24+i))⟩ w:=by rw [← e]; exact h1
  exact h2
end Go.Eng
end
section
namespace Go.Eng
theorem spr_src {n r:Nat} {f:Nat→Value} {z:Value}:∀ j,j < n→(spr (n+r) n f z).get (0+j)=some (f j):=fun j hj=>by
  rw [Nat.zero_add,spr,tabF_in (by omega),if_pos hj]
end Go.Eng
end
section
namespace Go.Eng
open Go.RowKit Go.WideShapes Go.ChangeShapes Go.ChangeAt Go.Deep
variable {H:Type} {enc:TypeId × Value→H} {P:Program}
end Go.Eng
end
section
namespace Go.Eng
def famLs (l:List BytL) (b:Blk):Prop:=famT b∨∃ q ∈ l,famB q b
theorem famLs_T {l:List BytL} (x:Blk) (h:famT x):famLs l x:=.inl h
theorem famLs_el {l:List BytL} {q:BytL} (hq:q ∈ l) (x:Blk) (h:famTB q x):famLs l x:=Or.elim h .inl fun h=>.inr ⟨q,hq,h⟩
theorem part_holds {F:Blk→Prop} (hT:∀ x,famT x→F x) {c:Nat} {g:Nat→UInt8}:∀ w:World,FamH F w→(∀ x ∈ [(⟨c,false,0,tabF 32 fun k=>u8 (g k)⟩:Blk)],Holds x w)→FamH (famTB (bytP c 24 8 8 g)) w:=fun w hF hb =>
  hold_or (fun x hx=>hF x (hT x hx)) fun x hx=>by
    obtain⟨_,rfl⟩:=hx
    exact⟨tabU_tailL (hb _ (List.Mem.head _)),rfl⟩
theorem part_names {F:Blk→Prop} (hT:∀ x,famT x→F x) {c:Nat} {g h:Nat→UInt8}:∀ x,famTB (bytP c 24 8 8 g) x→∀ j,x.has j→(∃ y,F y∧y.has j)∨∃ b ∈ [(⟨c,false,0,tabF 32 fun k=>u8 (h k)⟩:Blk)],b.has j:=fun x hx j hj=>by
  rcases hx with hx | ⟨_,rfl⟩
  · exact .inl ⟨x,hT x hx,hj⟩
  · exact .inr ⟨_,List.Mem.head _,hj⟩
theorem stands_eight {H:HS} {f:Nat→UInt8} {n:Nat} (q:UInt64) (h:Stands H f n) (hn:n < 1000000):Stands (wrH H (fun k=>bytesF (N4.mk q 0 0 0) (24+k)) 8) (catU f n (eightF q)) (n+8) :=
  (h.write (g:=fun k=>bytesF (N4.mk q 0 0 0) (24+k)) (m:=8) (by omega)).congr (catU_congr (fun _ _=>rfl) (fun k hk=>eight_bytes q hk))
theorem stands_item {H:HS} {f g:Nat→UInt8} {n m:Nat} (q:UInt64) (h:Stands H f n) (hn:n+m < 999000):Stands (wrH (wrH H (fun k=>bytesF (N4.mk q 0 0 0) (24+k)) 8) g m) (catU (catU f n (eightF q)) (n+8) g) (n+8+m) :=
  (stands_eight q h (by omega)).write (by omega)
theorem stands_head (q:UInt64):Stands (wrH newH (fun k=>bytesF (N4.mk q 0 0 0) (24+k)) 8) (eightF q) 8 :=
  (stands_first (by decide)).congr fun k hk=>eight_bytes q hk
theorem stands_tag {g:Nat→UInt8} {m:Nat} (q:UInt64) (hm:m < 999000):Stands (wrH (wrH newH (fun k=>bytesF (N4.mk q 0 0 0) (24+k)) 8) g m) (catU (eightF q) 8 g) (8+m) :=
  (stands_head q).write (by omega)
end Go.Eng
end
section
namespace Go.Eng
theorem byte8 (q:UInt64) {j:Nat} (hj:j < 8):(shr64 q (8*j)).toUInt8=UInt8.ofNat (dig q.toNat j):=by
  have h:=byte_out ⟨q,0,0,0⟩ j (by omega)
  have e:(⟨q,0,0,0⟩:N4).val=q.toNat:=by simp [N4.val]
  rw [e,show j / 8=0 by omega,show j % 8*8=8*j by omega] at h
  exact h
end Go.Eng
end
