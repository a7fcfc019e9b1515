/-
  ChaseForgets: for all arguments the law hands back true, and leaves them as they were, if the two tables hold what the program lays in them.
-/
import Derived.Test.YtmdpendnbkajdaaDoorZChaseForgets20
import Derived.Test.YtmdpendnbkajdaaDoorCards
import Derived.Test.YtmdpendnbkajdaaDoorTie
import Derived.ProofKit
import Derived.OpenShut
import Derived.LaidMore
import Derived.Lay
import Derived.SevenTiedAt
import Derived.Stop.Joined
import Derived.ChangeMaps5
namespace Go.Proofs.YtmdpendnbkajdaaDoor
open Go Go.Eng Go.ChangeShapes Go.WideShapes Go.ChangeAt Go.RowKit
set_option linter.unusedVariables false
set_option linter.unusedSimpArgs false
set_option maxRecDepth 100000
set_option maxHeartbeats 1000000
theorem own:ownKnob Tryd.prog.godebug=none:=by kernel_rfl
theorem laidOut:laidOutB Tryd.prog=true:=by kernel_rfl
theorem i64T:Tryd.prog.underlying 3=some (.int .i64):=by kernel_rfl
theorem famT_of_laid {W:World} (h:laidMetH Tryd.prog Rows.chaseForgetsRow.laid W):qCJ qIo W:=by
 rw[MakeChecks.laidMetH_plain _ _ _ (by kernel_rfl)] at h
 obtain⟨ps,⟨g,t,cs,fuel,p,q,hg,ht,hv,hd,⟨g2,t2,cs2,fuel2,p2,q2,hg2,ht2,hv2,hd2,_,_⟩,_⟩,_,_⟩:=h
 have h0:∀r,r<8→W.cell? ⟨1,r,none⟩=some (.int .u32 ((jBs.map fun z:Nat=>(z:Int)).getD r 0)):=fun r hr=>qPE (P:=Tryd.prog) (t:=124) (e:=123) (n:=8) (name:= "sortition/sha.begin") (zs:=jBs.map fun z:Nat=>(z:Int)) (by kernel_rfl) (by kernel_rfl) (by kernel_rfl) (by kernel_rfl) (by kernel_rfl) rfl ⟨g,t,cs,fuel,p,hg,ht,hv,hd⟩ r hr
 have h1:∀r,r<64→W.cell? ⟨2,r,none⟩=some (.int .u32 ((jBY.map fun z:Nat=>(z:Int)).getD r 0)):=fun r hr=>qPE (P:=Tryd.prog) (t:=143) (e:=123) (n:=64) (name:= "sortition/sha.rounds") (zs:=jBY.map fun z:Nat=>(z:Int)) (by kernel_rfl) (by kernel_rfl) (by kernel_rfl) (by kernel_rfl) (by kernel_rfl) rfl ⟨g2,t2,cs2,fuel2,p2,hg2,ht2,hv2,hd2⟩ r hr
 exact qQN h0 h1
def famFo (x:qJT) (l:ClS) (b:Blk):Prop:=qIo b∨qVE x b∨qOV l b
theorem forg_run (x:qJT) (l:ClS) (b:UInt64) (hx:OkU x) (hl:jAD l):qAb (famFo x l) Tryd.prog 4 [.slice x.wa x.wn x.wc,.slice l.wa l.wn l.wc,u64 b] [] 0 (fun _=>.bool true) (fun _=>[]):=by
 have hT:∀b,qIo b→famFo x l b:=fun b h=>.inl h
 have hFx:∀b,qVE x b→famFo x l b:=fun b h=>.inr (.inl h)
 have hFl:∀b,qOV l b→famFo x l b:=fun b h=>.inr (.inr h)
 rcases Nat.eq_zero_or_pos x.wn with h0|h0
 ·exact jBy x l b hT hx hl hFx hFl h0
 ·by_cases hg:qGa x.wn x.wf
  ·by_cases h50:l.wn≤50
   ·exact jAL x l b hT hx hl hFx hFl h0 hg h50
   ·exact jBf x l b hT hx hl hFx hFl h0 hg (by omega)
  ·exact jBa x l b hT hx hl hFx hFl h0 hg
theorem chaseForgets_lifted (os:Os) (started:os.Started) (H:Type) (enc:TypeId×Value→H):
  ReturnsInHanded {} Tryd.checked os 4 .any (fun w args=>(Rows.chaseForgetsSpec.pre enc Tryd.prog Tryd.f4 Rows.chaseForgetsRow.domain false w args∧laidMetH Tryd.prog Rows.chaseForgetsRow.laid w)∧sizedMet enc Tryd.prog Tryd.f4 (OpenSpec.ofChange Rows.chaseForgetsSpec) false w args) (Rows.chaseForgetsSpec.post enc Tryd.prog Tryd.f4 false true false false):=by
 refine returnsInHanded_of_change_and (C:=Tryd.checked) (X:=fun w _=>laidMetH Tryd.prog Rows.chaseForgetsRow.laid w) (fun _ _ _ hh h=>h.of_heap hh) own started (by kernel_rfl) Tryd.func4
  (ChangeSpec.witness_shaped (enc:=enc) (C:=Tryd.checked) (os:=os) (X:=fun w _=>laidMetH Tryd.prog Rows.chaseForgetsRow.laid w) false (World.laidAll Tryd.prog os Rows.chaseForgetsRow.laid) #[.slice none 0 0,.slice none 0 0,.int .u64 0] 8 (World.laidAll_os _ _ _)
   (World.shaped_of_ZipB (by kernel_rfl) (by kernel_rfl)) (by kernel_rfl) (by kernel_rfl) (by kernel_rfl)
   (by rw[MakeChecks.laidMetH_plain _ _ _ (by kernel_rfl)];exact laidMet_laidAll _ (by kernel_rfl) (by kernel_rfl))) ?_
 intro W base args ds gs qE0 hval0 hW _ _ hL _
 have hval:∀(j:Nat) t v,Tryd.f4.params[j]?=some t→args[j]?=some v→Value.okWide Tryd.prog W .any base t v:=hval0
 have hW':=hW
 obtain⟨p,q,hA0,hV,hpq,hfz,hnd⟩:=hW
 have hA:DataW.TrodAll enc Tryd.prog W 0 (fun _=>true) true Tryd.f4.params.toList args.toList ds p:=hA0
 rw[Tryd.params4] at hA hval
 obtain⟨v0,vs0,d0,ds0,p0,q0,hargs,rfl,hp0,e0,r0⟩:=trodAll_cons hA
 obtain⟨v1,vs1,d1,ds1,p1,q1,rfl,rfl,hp1,e1,r1⟩:=trodAll_cons r0
 obtain⟨v2,vs2,d2,ds2,p2,q2,rfl,rfl,hp2,e2,r2⟩:=trodAll_cons r1
 obtain⟨rfl,rfl,_⟩:=trodAll_nil r2
 obtain rfl:args=#[v0,v1,v2]:=by cases args;simp_all
 obtain⟨x,rfl,hx,hFx⟩:=qQZ (P:=Tryd.prog) (t:=22) (e:=30) (by kernel_rfl) (by kernel_rfl) (by kernel_rfl) (hval 0 22 v0 rfl rfl) e0
 obtain⟨l,rfl,hl,hFl⟩:=qO0 (P:=Tryd.prog) (t:=29) (e:=33) (u:=30) (i:=3) (s:=23) (b:=5) (by kernel_rfl) (by kernel_rfl) (by kernel_rfl) (by kernel_rfl) (by kernel_rfl) (by kernel_rfl) (by kernel_rfl) (by kernel_rfl) (by kernel_rfl) (by kernel_rfl) (by kernel_rfl) (hval 1 29 v1 rfl rfl) e1
 obtain⟨b,rfl⟩:=qV7 (P:=Tryd.prog) (t:=30) (by kernel_rfl) (hval 2 30 v2 rfl rfl) e2
 obtain⟨rfl,rfl⟩:=trodVars_none hV
 have hT:=famT_of_laid hL
 have key:Calls Tryd.prog 4 #[.slice x.wa x.wn x.wc,.slice l.wa l.wn l.wc,u64 b] W fun e w'=>e=.returned (Value.bool true)∧Below W.heap.size W w':=qR5 (qAb.toF (bs:=[]) (forg_run x l b hx hl)) (fun b hb=>by cases hb) (fun b hb=>by cases hb) (fun b hb=>hb.elim (hT b) fun h=>h.elim (hFx b) (hFl b))
 refine key.mono fun e W' ⟨he,hb⟩=>?_
 subst he
 exact⟨_,rfl,qU0 laidOut (by kernel_rfl) rfl jDg rfl hW' ⟨rfl,rfl,rfl⟩ hb⟩
theorem chaseForgets_holds:Rows.ChaseForgetsSaid:=
 OpenClaim.holds_of_wide 4 Tryd.f4 rfl rfl rfl rfl rfl rfl rfl ⟨rfl,rfl,rfl,rfl,rfl⟩ rfl rfl rfl rfl rfl (by kernel_rfl) Tryd.func4 (by kernel_rfl)
  (oT (by kernel_rfl)) (by unfold Func.isWrapper;first|(rw[if_pos (by decide+kernel)];kernel_rfl)|(rw[if_neg (by decide+kernel)];exact⟨rfl,rfl⟩))
  (fun os started H enc _=>chaseForgets_lifted os started H enc)
theorem chaseForgets_card:Rows.ChaseForgetsCardSaid:=
 Claim7.holds_tied_plain_at .later [] [.data,.data] true (true,"2121218860e0e97104fae993c6014bc5e135ca19134066226052512be6bb9923") false chaseForgets_holds (fun _ h=>by cases h) (by kernel_rfl) (fun _ h=>by cases h) chaseForgets_row_tie rfl ⟨rfl,rfl⟩ (by kernel_rfl) rfl
  (fun f fn hf hfn=>by
   obtain rfl:f=4:=Option.some.inj ((show Tryd.prog.funcNamed "sortition/sortitionlaw19.ChaseForgets"=some 4 by kernel_rfl).symm.trans hf) |>.symm
   obtain rfl:fn=Tryd.f4:=(Option.some.inj (Tryd.func4.symm.trans hfn)).symm
   exact⟨by kernel_rfl,fun j t ht=>by
    rw[Tryd.params4] at ht
    have hm:t∈[22,29,30]:=by simpa using Array.mem_of_getElem? ht
    have hall:([22,29,30].all fun u=>!Tryd.prog.wantsStandIn u)=true:=by kernel_rfl
    exact(show Tryd.prog.wantsStandIn t=false by simpa using List.all_eq_true.1 hall t hm)⟩)
  (by kernel_rfl)
end Go.Proofs.YtmdpendnbkajdaaDoor
