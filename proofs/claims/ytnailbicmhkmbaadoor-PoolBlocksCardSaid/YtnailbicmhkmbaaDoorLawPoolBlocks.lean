/-
  PoolBlocks: for all arguments the law hands back true, and leaves them as they were, if the two tables hold what the program lays in them.
-/
import Derived.Test.YtnailbicmhkmbaaDoorZPoolBlocks20
import Derived.Test.YtnailbicmhkmbaaDoorCards
import Derived.Test.YtnailbicmhkmbaaDoorTie
import Derived.ProofKit
import Derived.OpenShut
import Derived.LaidMore
import Derived.Lay
import Derived.SevenTiedAt
import Derived.Stop.Joined
import Derived.ChangeMaps5
namespace Go.Proofs.YtnailbicmhkmbaaDoor
open Go Go.Eng Go.ChangeShapes Go.WideShapes Go.ChangeAt Go.RowKit
set_option linter.unusedVariables false
set_option linter.unusedSimpArgs false
set_option maxRecDepth 100000
set_option maxHeartbeats 1000000
theorem own:ownKnob Tryd.prog.godebug=none:=by kernel_rfl
theorem laidOut:laidOutB Tryd.prog=true:=by kernel_rfl
theorem i64T:Tryd.prog.underlying 3=some (.int .i64):=by kernel_rfl
theorem famT_of_laid {W:World} (h:laidMetH Tryd.prog Rows.poolBlocksRow.laid W):FamH famT W:=by
  rw [MakeChecks.laidMetH_plain _ _ _ (by kernel_rfl)] at h
  obtain⟨ps,⟨g,t,cs,fuel,p,q,hg,ht,hv,hd,⟨g2,t2,cs2,fuel2,p2,q2,hg2,ht2,hv2,hd2,_,_⟩,_⟩,_,_⟩:=h
  have h0:∀ r,r < 8→W.cell? ⟨0,r,none⟩=some (.int .u32 ((begK.map fun z:Nat=>(z:Int)).getD r 0)):=fun r hr=>tab_cell (P:=Tryd.prog) (t:=89) (e:=88) (n:=8) (name := "sortition/sha.begin") (zs:=begK.map fun z:Nat=>(z:Int)) (by kernel_rfl) (by kernel_rfl) (by kernel_rfl) (by kernel_rfl) (by kernel_rfl) rfl ⟨g,t,cs,fuel,p,hg,ht,hv,hd⟩ r hr
  have h1:∀ r,r < 64→W.cell? ⟨1,r,none⟩=some (.int .u32 ((rndK.map fun z:Nat=>(z:Int)).getD r 0)):=fun r hr=>tab_cell (P:=Tryd.prog) (t:=96) (e:=88) (n:=64) (name := "sortition/sha.rounds") (zs:=rndK.map fun z:Nat=>(z:Int)) (by kernel_rfl) (by kernel_rfl) (by kernel_rfl) (by kernel_rfl) (by kernel_rfl) rfl ⟨g2,t2,cs2,fuel2,p2,hg2,ht2,hv2,hd2⟩ r hr
  exact famT_cells h0 h1
theorem blocks_run (height:UInt64) (l:BytS) (b:BytL) (hl:OkS l) (hb:OkB b):RunsO (famD l b) Tryd.prog 3 [(u64 height),(Value.slice l.wa l.wn l.wc),(Value.slice b.wa b.wn b.wc)] [] 0 (fun _=>Value.bool true) (fun _=>[]) :=
  runsO_of_ev mix Tryd.func3 rfl rfl 400 (.reg (rg [.g]) (.reg (rg [(.callO [] 0 0 (fun _=>Value.bool true) (fun _=>[])),.g]) (.reg (rg [.g,(.callF [] 0 0 (fun _=>(Value.bool (srtB l.wf l.wn))) (fun _=>[])),.g]) (.reg (rg [.g,.g,.g,(.opt .g),(.opt (.as (nat b.wn))),(.opt (.as (Value.bool (decide (3000 < b.wn))))),.pk]) (.br (.reg (rg [.g,.g]) .done) (.regn (rg [.g,.g,(.callO [] 2 1 (fun ns=>.tuple #[gsV (pakG height l (ns.getD 0 0) (ns.getD 1 0)),(int (pakE l))]) (fun ns=>[(gsE u8C [u8 0] 1 (pakG height l (ns.getD 0 0) (ns.getD 1 0)))])),.g,.g,.g,.g,.g]) (more (fun n1=>more (fun n2=>fun _=>(.regn (rg [.g,.g,(.callO [] 2 1 (fun ns=>.tuple #[gsV (pakG height l (ns.getD 0 0) (ns.getD 1 0)),(int (pakE l))]) (fun ns=>[(gsE u8C [u8 0] 1 (pakG height l (ns.getD 0 0) (ns.getD 1 0)))])),.g,.g,.g,.g,.g]) (more (fun n3=>more (fun n4=>fun _=>(.regn (rg [.g,(.callO [] 4 2 (fun ns=>.tuple #[(u64 (unH b)),gsV (unL b (ns.getD 0 0) (ns.getD 1 0) (ns.getD 2 0) (ns.getD 3 0)),(int (unX b))]) (fun ns=>[(gsE slqC [Value.slice none 0 0] 1 (unL b (ns.getD 0 0) (ns.getD 1 0) (ns.getD 2 0) (ns.getD 3 0))),(unP b (ns.getD 0 0) (ns.getD 1 0))])),.g,.g,.g,.g,.g,.g,.g]) (more (fun n5=>more (fun n6=>more (fun n7=>more (fun n8=>fun _=>(.regn (rg [.g,(.callO [] 2 1 (fun ns=>.tuple #[(u64 (unH b)),gsV (dL b (ns.getD 0 0) (ns.getD 1 0)),(int (unX b))]) (fun ns=>[(gsE slqC [Value.slice none 0 0] 1 (dL b (ns.getD 0 0) (ns.getD 1 0)))])),.g,.g,.g,.g,.g,.g,.g]) (more (fun n9=>more (fun n10=>fun _=>(.regn (rg [.g,(.callF [] 0 0 (fun _=>(vecV 32 (fun k=>u8 (blkD b k)))) (fun _=>[])),.new,(.st 5 (.lit 0))]) (more (fun n11=>fun _=>(.reg (rg [.g,.g,(.run .g),(.run .g),(.run (.as (Value.bool true))),.pk,.g,(.run .g),(.run .g),(.run (.callO [(0,true),(1,true)] 0 0 (fun _=>Value.bool true) (fun _=>[none,none]))),.pk,.g,(.run .g),(.run .g),(.run (.as (Value.bool true))),.pk,.g,(.run .g),(.run .g),(.run (.as (Value.bool true))),.pk,.g,(.run .g),(.run .g),(.run (.callO [(2,true),(3,true),(4,true)] 0 0 (fun _=>Value.bool true) (fun _=>[none,none,none]))),.pk,.g,(.run (.ld 5 (.lit 0))),(.run .g),(.run (.callF [] 0 0 (fun _=>(vecV 32 (fun k=>u8 (blkD b k)))) (fun _=>[]))),(.run (.as (Value.bool true))),.pk,.g]) .done))))))))))))))))))))))))))) [] [] rfl
    (have f0:l.wn≤l.wc∧l.wn≤9223372036854775807:=⟨hl.cap,hl.len⟩; have f1:b.wn≤b.wc∧b.wn≤9223372036854775807:=⟨hb.cap,hb.len⟩; Eq.mp (by kernel_rfl) (aI kV1 (aI (aI (aT (awake_runs (F:=(famD l b)))) kV1) (aI (sk (aI (aT (RunsF.mono (famD_S (l:=l) (b:=b)) (short_fam l hl))) kV1)) (aI (sK3 (aI (fun(hg:(sB (!(srtB l.wf l.wn)) false)=true)=>t2) (aI (fun(hg:(sB (!(srtB l.wf l.wn)) false)=true)=>have f2:(srtB l.wf l.wn)=true:=(bnot_f (sameB_f hg)); (aI (aI hg tV) (@is_len Tryd.prog 24 5 (.tmp 26) (by kernel_rfl) b.wa b.wn b.wc))) (aI (fun(hg:(sB (!(srtB l.wf l.wn)) false)=true)=>(aI (aI hg tV) (@is_gtrn Tryd.prog 3 3 (.tmp 27) (.const (.int .i64 3000))  b.wn 3000))) (aI (aT (aI (fun(_:(!(srtB l.wf l.wn))=true)=>tV) (fun(hp:(!(srtB l.wf l.wn))=false)=>(sameB_mkf hp)))) tV))))) (aT (aI (fun(h1:(selB (!(srtB l.wf l.wn)) true (decide (3000 < b.wn)))=true)=>have f2:((srtB l.wf l.wn)=false)∨((3000 < b.wn)):=(Or.imp (fun h=>(bnot_t h)) (fun h=>(oT h)) (sbor_t h1)); aI kV2 (aT (eX (fun(ns:List Nat)=>ns.length=0∧((Value.bool true):Value)=(fun _=>Value.bool true) ns∧([]:List (Option Blk))=(fun _=>[]) ns) [] (aI (@rfl Nat 0) (aI ((@rfl Value (.bool true))) (@rfl (List (Option Blk)) [])))))) (fun(h1:(selB (!(srtB l.wf l.wn)) true (decide (3000 < b.wn)))=false)=>have f2:(srtB l.wf l.wn)=true:=(bnot_f (sbor_l h1)); have f3:¬ (3000 < b.wn):=(oF (sbor_r h1)); fun(n1 n2:Nat)=>aI (sK2 (aI (aT (RunsO.lendL (F:=(famD l b)) (bs:=[]) (pack_run height l hl) (fun w hw hb=>(fun z hz=>hw z ((famD_S (l:=l) (b:=b)) z hz))))) (sk kV4))) (fun(n3 n4:Nat)=>aI (sK2 (aI (aT (RunsO.mono (famD_S (l:=l) (b:=b)) (dpack_X height l hl))) (sk kV4))) ((have fl:(pakG height l n1 n2).n≤11000:=(pakG_le _ _ _ _); fun(n5 n6 n7 n8:Nat)=>aI (sk (aI (aT (RunsO.lendL (F:=(famD l b)) (bs:=[]) (unpack_run b hb (Nat.le_trans (show b.wn≤3000 from by have fm:(pakG height l n3 n4).n≤11000:=(pakG_le _ _ _ _); omega) (by decide))) (fun w hw hb=>(fun z hz=>hw z ((famD_B (l:=l) (b:=b)) z hz))))) (sK2 (sk kV4)))) ((have fm:(pakG height l n3 n4).n≤11000:=(pakG_le _ _ _ _); fun(n9 n10:Nat)=>aI (sk (aI (aT (RunsO.sub (famPt8_sh (sh_sub (famD_B (l:=l) (b:=b)))) (famPt8_nm (nm_sub (famD_B (l:=l) (b:=b)))) (dunpack_X b hb))) (sK2 (sk kV4)))) (fun(n11:Nat)=>aI (sk (aI (aT (RunsF.mono (famD_N (l:=l) (b:=b)) (name_fam b hb (show b.wn≤3000 from by omega)))) (sk (aI (aT (ad n11 0)) tV)))) (aI (sK2 (aI (aI (@rfl Bool true) t2) (aI (aI (@rfl Bool true) t2) (aI (aI (@rfl Bool true) (aT (@is_eqTi Tryd.prog 27 27 (.tmp 59) (.tmp 60) (pakE l)))) (aI (aT (aI (fun(_:true=true)=>tV) (fun(_:true=false)=>tV))) (sk (aI (aI (@rfl Bool true) t2) (aI (aI (@rfl Bool true) t2) (aI (aI (@rfl Bool true) (aT (RunsO.vtrue (show sameS ((pakG height l n1 n2).f) ((pakG height l n1 n2).n) ((pakG height l n3 n4).f) ((pakG height l n3 n4).n)=true from(pak_same _ _ _ _ _ _)) (same_any (F:=(famD l b)) (recD (pakG height l n1 n2)) (recD (pakG height l n3 n4)) (recD_ok (pakG_ok _ _ _ _) (show((pakG height l n1 n2)).n≤9223372036854775807 from(show(pakG height l n1 n2).n≤9223372036854775807 from by omega))) (recD_ok (pakG_ok _ _ _ _) (show((pakG height l n3 n4)).n≤9223372036854775807 from(show(pakG height l n3 n4).n≤9223372036854775807 from by omega))) (bs:=[roO (gsE u8C [u8 0] 1 (pakG height l n1 n2)),roO (gsE u8C [u8 0] 1 (pakG height l n3 n4))]) (fun w hw hb=>hold_or (recD_fam (F:=famT) (pakG_ok _ _ _ _) (fun b hb0=>hb 0 b hb0)) (recD_fam (F:=famT) (pakG_ok _ _ _ _) (fun b hb0=>hb 1 b hb0))))))) (aI (aT (aI (fun(_:true=true)=>tV) (fun(_:true=false)=>tV))) (sk (aI (aI (@rfl Bool true) t2) (aI (aI (@rfl Bool true) t2) (aI (aI (@rfl Bool true) (aT (@is_eqT64 Tryd.prog 22 22 (.tmp 69) (.tmp 70) (unH b)))) (aI (aT (aI (fun(_:true=true)=>tV) (fun(_:true=false)=>tV))) (sk (aI (aI (@rfl Bool true) t2) (aI (aI (@rfl Bool true) t2) (aI (aI (@rfl Bool true) (aT (@is_eqTi Tryd.prog 27 27 (.tmp 74) (.tmp 75) (unX b)))) (aI (aT (aI (fun(_:true=true)=>tV) (fun(_:true=false)=>tV))) (sk (aI (aI (@rfl Bool true) t2) (aI (aI (@rfl Bool true) t2) (aI (aI (@rfl Bool true) (aT (RunsO.vtrue (show listsB (recS (unL b n5 n6 n7 n8)) (recS (dL b n9 n10))=true from(un_dL _ _ _ _ _ _ _)) (lists_any (F:=(famD l b)) (recS (unL b n5 n6 n7 n8)) (recS (dL b n9 n10)) (unL_oks b n5 n6 n7 n8) (dL_oks hb n9 n10) (bs:=[roO (gsE slqC [Value.slice none 0 0] 1 (unL b n5 n6 n7 n8)),roO (unP b n5 n6),roO (gsE slqC [Value.slice none 0 0] 1 (dL b n9 n10))]) (fun w hw hb=>hold_or (unL_fam (fun b hb0=>hb 0 b hb0) (fun b hb0=>hb 1 b hb0)) (dL_fam (sh_sub (famD_B (l:=l) (b:=b))) hw (fun b hb0=>hb 2 b hb0))))))) (aI (aT (aI (fun(_:true=true)=>tV) (fun(_:true=false)=>tV))) (sk (aI (aI (@rfl Bool true) (aT (ad n11 0))) (aI (aI (@rfl Bool true) t2) (aI (aI (@rfl Bool true) (aT (RunsF.mono (famD_N (l:=l) (b:=b)) (rname_fam b hb (show b.wn≤3000 from by omega))))) (aI (aI (@rfl Bool true) (aT (is_eqV8r (P:=Tryd.prog) (t:=33) (e:=5) (t':=33) (x:=(.tmp 84)) (y:=(.tmp 86)) (n:=32) (by kernel_rfl) (by kernel_rfl) (by kernel_rfl) (by kernel_rfl) (blkD b)))) (aI (aT (aI (fun(_:true=true)=>tV) (fun(_:true=false)=>tV))) kV1))))))))))))))))))))))))))))))) (aT (eX (fun(ns:List Nat)=>ns.length=0∧((Value.bool true):Value)=(fun _=>Value.bool true) ns∧([]:List (Option Blk))=(fun _=>[]) ns) [] (aI (@rfl Nat 0) (aI ((@rfl Value (.bool true))) (@rfl (List (Option Blk)) []))))))))))))))))))))
theorem poolBlocks_lifted (os : Os) (started : os.Started) (H : Type) (enc : TypeId × Value → H) :
    ReturnsInHanded {} Tryd.checked os 3 .any (fun w args=>(Rows.poolBlocksSpec.pre enc Tryd.prog Tryd.f3 Rows.poolBlocksRow.domain false w args∧laidMetH Tryd.prog Rows.poolBlocksRow.laid w)∧sizedMet enc Tryd.prog Tryd.f3 (OpenSpec.ofChange Rows.poolBlocksSpec) false w args) (Rows.poolBlocksSpec.post enc Tryd.prog Tryd.f3 false true false false):=by
  refine returnsInHanded_of_change_and (C:=Tryd.checked) (X:=fun w _=>laidMetH Tryd.prog Rows.poolBlocksRow.laid w) (fun _ _ _ hh h=>h.of_heap hh) own started (by kernel_rfl) Tryd.func3
    (ChangeSpec.witness_shaped (enc:=enc) (C:=Tryd.checked) (os:=os) (X:=fun w _=>laidMetH Tryd.prog Rows.poolBlocksRow.laid w) false (World.laidAll Tryd.prog os Rows.poolBlocksRow.laid) #[.int .u64 0,.slice none 0 0,.slice none 0 0] 8 (World.laidAll_os _ _ _)
      (World.shaped_of_ZipB (by kernel_rfl) (by kernel_rfl)) (by kernel_rfl) (by kernel_rfl) (by kernel_rfl)
      (by rw [MakeChecks.laidMetH_plain _ _ _ (by kernel_rfl)]; exact laidMet_laidAll _ (by kernel_rfl) (by kernel_rfl))) ?_
  intro W base args ds gs before hval0 hW _ _ hL _
  have hval:∀ (j:Nat) t v,Tryd.f3.params[j]? = some t→args[j]? = some v→Value.okWide Tryd.prog W .any base t v:=hval0
  have hW':=hW
  obtain⟨p,q,hA0,hV,hpq,hfz,hnd⟩:=hW
  have hA:DataW.TrodAll enc Tryd.prog W 0 (fun _=>true) true Tryd.f3.params.toList args.toList ds p:=hA0
  rw [Tryd.params3] at hA hval
  obtain⟨v0,vs0,d0,ds0,p0,q0,hargs,rfl,hp0,e0,r0⟩:=trodAll_cons hA
  obtain⟨v1,vs1,d1,ds1,p1,q1,rfl,rfl,hp1,e1,r1⟩:=trodAll_cons r0
  obtain⟨v2,vs2,d2,ds2,p2,q2,rfl,rfl,hp2,e2,r2⟩:=trodAll_cons r1
  obtain⟨rfl,rfl,_⟩:=trodAll_nil r2
  obtain rfl:args = #[v0,v1,v2]:=by cases args; simp_all
  obtain⟨height,rfl⟩:=open_u64 (P:=Tryd.prog) (t:=22) (by kernel_rfl) (hval 0 22 v0 rfl rfl) e0
  obtain⟨l,rfl,hl,hFl⟩:=open_bytess (P:=Tryd.prog) (t:=23) (s:=24) (e:=5) (by kernel_rfl) (by kernel_rfl) (by kernel_rfl) (by kernel_rfl) (by kernel_rfl) (hval 1 23 v1 rfl rfl) e1
  obtain⟨b,rfl,hb,hFb⟩:=open_bytes (P:=Tryd.prog) (t:=24) (e:=5) (by kernel_rfl) (by kernel_rfl) (by kernel_rfl) (hval 2 24 v2 rfl rfl) e2
  obtain⟨rfl,rfl⟩:=trodVars_none hV
  have hT:=famT_of_laid hL
  have key:Calls Tryd.prog 3 #[u64 height,.slice l.wa l.wn l.wc,.slice b.wa b.wn b.wc] W fun e w'=>e = .returned (Value.bool true)∧Below W.heap.size W w':=runsF_law (RunsO.toF (bs:=[]) (blocks_run height l b hl hb)) (fun b hb=>by cases hb) (fun b hb=>by cases hb) (famD_holds hT hFl hFb)
  refine key.mono fun e W' ⟨he,hb⟩=>?_
  subst he
  exact⟨_,rfl,law_post laidOut (by kernel_rfl) rfl boolT rfl hW' ⟨rfl,rfl,rfl⟩ hb⟩
theorem poolBlocks_holds:Rows.PoolBlocksSaid :=
  OpenClaim.holds_of_wide 3 Tryd.f3 rfl rfl rfl rfl rfl rfl rfl ⟨rfl,rfl,rfl,rfl,rfl⟩ rfl rfl rfl rfl rfl (by kernel_rfl) Tryd.func3 (by kernel_rfl)
    (oT (by kernel_rfl)) (by unfold Func.isWrapper; first | (rw [if_pos (by decide +kernel)]; kernel_rfl) | (rw [if_neg (by decide +kernel)]; exact⟨rfl,rfl⟩))
    (fun os started H enc _=>poolBlocks_lifted os started H enc)
theorem poolBlocks_card:Rows.PoolBlocksCardSaid :=
  Claim7.holds_tied_plain_at .later [] [.data,.data] true (true,"b592fc45a14c21b202fd2e778e8cfd6ef92c3afa9106cd45117f3956175817a8") false poolBlocks_holds (fun _ h=>by cases h) (by kernel_rfl) (fun _ h=>by cases h) poolBlocks_row_tie rfl ⟨rfl,rfl⟩ (by kernel_rfl) rfl
    (fun f fn hf hfn=>by
      obtain rfl:f=3:=Option.some.inj ((show Tryd.prog.funcNamed "sortition/sortitionlaw17.PoolBlocks" = some 3 by kernel_rfl).symm.trans hf) |>.symm
      obtain rfl:fn=Tryd.f3:=(Option.some.inj (Tryd.func3.symm.trans hfn)).symm
      exact⟨by kernel_rfl,fun j t ht=>by
        rw [Tryd.params3] at ht
        have hm:t ∈ [22,23,24]:=by simpa using Array.mem_of_getElem? ht
        have hall:([22,23,24].all fun u=>!Tryd.prog.wantsStandIn u)=true:=by kernel_rfl
        exact(show Tryd.prog.wantsStandIn t=false by simpa using List.all_eq_true.1 hall t hm)⟩)
    (by kernel_rfl)
end Go.Proofs.YtnailbicmhkmbaaDoor
