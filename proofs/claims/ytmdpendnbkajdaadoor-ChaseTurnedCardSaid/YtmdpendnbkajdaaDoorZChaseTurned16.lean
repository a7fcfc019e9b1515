/-
  Many in one: ShaLaw, Digest, Digest2, Digest3, Digest9, Digest7.
-/
import Derived.Test.YtmdpendnbkajdaaDoorZChaseTurned15
import Derived.ChangeSame
import Derived.LaidLaws
import Derived.LaidMore
import Derived.OpenShut
import Derived.Stop.Joined
set_option linter.unusedVariables false
set_option linter.unusedSimpArgs false
set_option maxRecDepth 100000
set_option maxHeartbeats 1000000
section
namespace Go.Eng
open Go.RowKit Go.WideShapes Go.ChangeShapes Go.ChangeAt
section
variable {P:Program} {t e t':TypeId} {x y:Operand} {n:Nat}
end
def bysO (nm n c:Nat) (f:Nat→BytL):BytS:=⟨some ⟨nm,0,none⟩,n,c,nm,0,f⟩
def brow (l:List BytL):Nat→BytL:=fun k=>l.getD k (bytZ none 0)
theorem oks_own {nm n c:Nat} {f:Nat→BytL} (h1:n≤c) (h2:n≤9223372036854775807) (h3:∀ k,k < n→OkB (f k)):OkS (bysO nm n c f):=⟨h1,fun _=>rfl,h2,h3⟩
theorem tab_cell {P : Program} {W : World} {g t e : Nat} {n : Nat} {name : String} {zs : List Int} (hname : P.globalNamed name = some g) (hty : (P.globals[g]?).map (·.type) = some t) (ht : P.underlying t = some (.array n e)) (he : P.underlying e = some (.int .u32)) (hc : P.cellsOf e = 1) (hlen : zs.length = n)
    (h:∃ (g' t':Nat) (cs:Array Value) (fuel:Nat) (q:List MemPlace),P.globalNamed name=some g'∧(P.globals[g']?).map (·.type)=some t'∧W.var? P name=some cs∧DataW.trod (fun _=>()) P W 0 (fun _=>true) false fuel t' cs.toList=some (.agg (zs.map fun z=>.lit (.int .u32 z)),q)) (r:Nat) (hr:r < n) :
    W.cell? ⟨g,r,none⟩=some (.int .u32 (zs.getD r 0)):=by
  obtain⟨g',t',cs,fuel,q,hg,htt,hv,hd⟩:=h
  obtain rfl:=Option.some.inj (hname.symm.trans hg)
  obtain rfl:=Option.some.inj (hty.symm.trans htt)
  obtain⟨xs,m,_,ex,_,hl,hel⟩:=DataW.trod_array ht hd
  have hE:=hel r hr
  rw [hc,Nat.mul_one,List.getElem?_eq_getElem (by omega)] at hE
  obtain⟨z,e1,e2,_⟩:=DataW.trod_int he hE
  have e3:(xs.map (·.1))=zs.map fun n=>.lit (.int .u32 n):=(DataW.agg.inj (Prod.mk.inj ex).1).symm
  have e4:(xs.map (·.1))[r]? = (zs.map fun n=>(DataW.lit (.int .u32 n):DataW Unit))[r]?:=by rw [e3]
  rw [List.getElem?_map,List.getElem?_map,List.getElem?_eq_getElem (by omega:r < xs.length),List.getElem?_eq_getElem (by omega:r < zs.length),e2] at e4
  have hz:z=zs.getD r 0:=by
    simp only [Option.map_some,Option.some.injEq,DataW.lit.injEq,Lit.int.injEq,true_and] at e4
    rw [e4,List.getD,List.getElem?_eq_getElem (by omega:r < zs.length)]; rfl
  rw [World.var?_cell hname hv r,← hz]
  have:cs.toList[r]? = some (.int .u32 z):=by
    have h0:((cs.toList.drop r).take 1)[0]? = some (.int .u32 z):=by rw [e1]; rfl
    simpa using h0
  simpa using this
end Go.Eng
namespace Go.Eng
open Go.RowKit Go.WideShapes Go.ChangeShapes Go.ChangeAt
end Go.Eng
namespace Go.Eng
open Go.RowKit Go.WideShapes Go.ChangeShapes Go.ChangeAt Go.Deep
theorem tabK (l:List Nat) (n:Nat) (hn:l.length=n) (hl:l.all (fun z=>decide (z < 4294967296))=true) (r:Nat) (hr:r < n):Value.int .u32 ((l.map fun z:Nat=>(z:Int)).getD r 0)=u32 (UInt32.ofNat (l.getD r 0)):=by
  have h1:r < l.length:=by omega
  have h2:l[r] < 4294967296:=by
    have:=List.all_eq_true.1 hl l[r] (List.getElem_mem h1)
    simpa using this
  simp only [List.getD,List.getElem?_map,List.getElem?_eq_getElem h1,Option.map_some,Option.getD_some]
  unfold u32
  rw [UInt32.toNat_ofNat',Nat.mod_eq_of_lt (by simpa using h2)]
theorem famT_cells {W:World} (h0:∀ r,r < 8→W.cell? ⟨1,r,none⟩=some (.int .u32 ((begK.map fun z:Nat=>(z:Int)).getD r 0))) (h1:∀ r,r < 64→W.cell? ⟨2,r,none⟩=some (.int .u32 ((rndK.map fun z:Nat=>(z:Int)).getD r 0))):FamH famT W:=fun b hb=>by
  rcases hb with rfl | rfl
  · refine⟨⟨lt_of_cell (h0 0 (by omega)),fun o v ho=>?_,(fun h=>by cases h),obj_not rfl⟩,rfl⟩
    have ho':(litF 8 fun k=>u32 (begW k)).get o=some v:=ho
    rw [← get_tabF] at ho'
    by_cases hl:o < 8
    · rw [tabF_in hl] at ho'
      show W.cell? ⟨1,0+o,none⟩=some v
      rw [Nat.zero_add,h0 o hl,← ho',tabK begK 8 rfl (by decide +kernel) o hl]; rfl
    · rw [tabF_out hl] at ho'; cases ho'
  · refine⟨⟨lt_of_cell (h1 0 (by omega)),fun o v ho=>?_,(fun h=>by cases h),obj_not rfl⟩,rfl⟩
    have ho':(tabF 64 fun k=>u32 (rndW k)).get o=some v:=ho
    by_cases hl:o < 64
    · rw [tabF_in hl] at ho'
      show W.cell? ⟨2,0+o,none⟩=some v
      rw [Nat.zero_add,h1 o hl,← ho',tabK rndK 64 rfl (by decide +kernel) o hl]; rfl
    · rw [tabF_out hl] at ho'; cases ho'
end Go.Eng
namespace Go.Eng
theorem stands_first {g:Nat→UInt8} {m:Nat} (hm:m < 18446744073709551616):Stands (wrH newH g m) g m:=by
  have h:=(stands_new g).write (g:=g) (m:=m) (by omega)
  rw [Nat.zero_add] at h
  exact h.congr fun k _=>by unfold catU; rw [if_neg (by omega),Nat.sub_zero]
section
variable {P:Program} {t e:TypeId} {x y z:Operand}
end
end Go.Eng
namespace Go.Eng
end Go.Eng
namespace Go.Eng
section
variable {f:Nat→BytL} {i:Nat} {G Z:HS} {A:Grw UInt8}
end
end Go.Eng
end
section
namespace Go.Eng
def eightF (q:UInt64):Nat→UInt8:=fun k=>UInt8.ofNat (dig q.toNat (7 - k))
theorem eight_bytes (q:UInt64) {k:Nat} (hk:k < 8):bytesF ⟨q,0,0,0⟩ (24+k)=eightF q k:=by
  have e:(⟨q,0,0,0⟩:N4).val=q.toNat:=by simp [N4.val]
  unfold bytesF eightF
  rw [if_pos (by omega),e,show 31 - (24+k)=7 - k by omega]
theorem catU_congr {f f' g g':Nat→UInt8} {n m:Nat} (h1:∀ k,k < n→f k=f' k) (h2:∀ k,k < m→g k=g' k):∀ k,k < n+m→catU f n g k=catU f' n g' k:=fun k hk=>by
  unfold catU
  by_cases h:k < n
  · rw [if_pos h,if_pos h,h1 k h]
  · rw [if_neg h,if_neg h,h2 (k - n) (by omega)]
theorem tabU_tailL {c:Nat} {g:Nat→UInt8} {w:World} (h:Holds ⟨c,false,0,tabF 32 fun k=>u8 (g k)⟩ w):Holds (bytB (bytP c 24 8 8 g)) w:=by
  have h1:=tabU_tail (k:=24) h (by decide)
  have e:(fun i=>u8 (g (i+24)))=fun i=>u8 (g (24+i)):=by funext i; rw [Nat.add_comm]
  have h2:Holds ⟨c,false,0+24,tabF (32 - 24) fun i=>u8 (g (24+i))⟩ w:=by rw [← e]; exact h1
  exact h2
end Go.Eng
end
section
namespace Go.Eng
end Go.Eng
end
section
namespace Go.Eng
open Go.RowKit Go.WideShapes Go.ChangeShapes Go.ChangeAt Go.Deep
variable {H:Type} {enc:TypeId × Value→H} {P:Program}
end Go.Eng
end
section
namespace Go.Eng
def famLs (l:List BytL) (b:Blk):Prop:=famT b∨∃ q ∈ l,famB q b
theorem famLs_T {l:List BytL} (x:Blk) (h:famT x):famLs l x:=.inl h
theorem famLs_el {l:List BytL} {q:BytL} (hq:q ∈ l) (x:Blk) (h:famTB q x):famLs l x:=Or.elim h .inl fun h=>.inr ⟨q,hq,h⟩
theorem part_holds {F:Blk→Prop} (hT:∀ x,famT x→F x) {c:Nat} {g:Nat→UInt8}:∀ w:World,FamH F w→(∀ x ∈ [(⟨c,false,0,tabF 32 fun k=>u8 (g k)⟩:Blk)],Holds x w)→FamH (famTB (bytP c 24 8 8 g)) w:=fun w hF hb =>
  hold_or (fun x hx=>hF x (hT x hx)) fun x hx=>by
    obtain⟨_,rfl⟩:=hx
    exact⟨tabU_tailL (hb _ (List.Mem.head _)),rfl⟩
theorem part_names {F:Blk→Prop} (hT:∀ x,famT x→F x) {c:Nat} {g h:Nat→UInt8}:∀ x,famTB (bytP c 24 8 8 g) x→∀ j,x.has j→(∃ y,F y∧y.has j)∨∃ b ∈ [(⟨c,false,0,tabF 32 fun k=>u8 (h k)⟩:Blk)],b.has j:=fun x hx j hj=>by
  rcases hx with hx | ⟨_,rfl⟩
  · exact .inl ⟨x,hT x hx,hj⟩
  · exact .inr ⟨_,List.Mem.head _,hj⟩
theorem stands_eight {H:HS} {f:Nat→UInt8} {n:Nat} (q:UInt64) (h:Stands H f n) (hn:n < 1000000):Stands (wrH H (fun k=>bytesF (N4.mk q 0 0 0) (24+k)) 8) (catU f n (eightF q)) (n+8) :=
  (h.write (g:=fun k=>bytesF (N4.mk q 0 0 0) (24+k)) (m:=8) (by omega)).congr (catU_congr (fun _ _=>rfl) (fun k hk=>eight_bytes q hk))
theorem stands_item {H:HS} {f g:Nat→UInt8} {n m:Nat} (q:UInt64) (h:Stands H f n) (hn:n+m < 999000):Stands (wrH (wrH H (fun k=>bytesF (N4.mk q 0 0 0) (24+k)) 8) g m) (catU (catU f n (eightF q)) (n+8) g) (n+8+m) :=
  (stands_eight q h (by omega)).write (by omega)
theorem stands_head (q:UInt64):Stands (wrH newH (fun k=>bytesF (N4.mk q 0 0 0) (24+k)) 8) (eightF q) 8 :=
  (stands_first (by decide)).congr fun k hk=>eight_bytes q hk
theorem stands_tag {g:Nat→UInt8} {m:Nat} (q:UInt64) (hm:m < 999000):Stands (wrH (wrH newH (fun k=>bytesF (N4.mk q 0 0 0) (24+k)) 8) g m) (catU (eightF q) 8 g) (8+m) :=
  (stands_head q).write (by omega)
end Go.Eng
end
section
namespace Go.Eng
end Go.Eng
end
