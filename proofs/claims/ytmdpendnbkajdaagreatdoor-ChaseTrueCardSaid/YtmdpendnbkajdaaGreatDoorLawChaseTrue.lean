/-
  ChaseTrue: for all arguments the law hands back true, and leaves them as they were, if the two tables hold what the program lays in them.
-/
import Derived.Test.YtmdpendnbkajdaaGreatDoorZt6
import Derived.Test.YtmdpendnbkajdaaGreatDoorCards
import Derived.Test.YtmdpendnbkajdaaGreatDoorTie
import Derived.ProofKit
import Derived.OpenShut
import Derived.LaidMore
import Derived.Lay
import Derived.SevenTiedAt
import Derived.Stop.Joined
import Derived.ChangeMaps5
namespace Go.Proofs.YtmdpendnbkajdaaGreatDoor
open Go Go.Eng Go.ChangeShapes Go.WideShapes Go.ChangeAt Go.RowKit
set_option linter.unusedVariables false
set_option linter.unusedSimpArgs false
set_option maxRecDepth 100000
set_option maxHeartbeats 1000000
theorem own:ownKnob Tryz.prog.godebug=none:=by kernel_rfl
theorem laidOut:laidOutB Tryz.prog=true:=by kernel_rfl
theorem i64T:Tryz.prog.underlying 3=some (.int .i64):=by kernel_rfl
theorem famT_of_laid {W:World} (h:laidMetH Tryz.prog Rows.chaseTrueRow.laid W):qCM qHU W:=by
 rw[MakeChecks.laidMetH_plain _ _ _ (by kernel_rfl)] at h
 obtain⟨ps,⟨g,t,cs,fuel,p,q,hg,ht,hv,hd,⟨g2,t2,cs2,fuel2,p2,q2,hg2,ht2,hv2,hd2,_,_⟩,_⟩,_,_⟩:=h;have h0:∀r,r<8→W.cell? ⟨1,r,none⟩=some (.int .u32 ((jC2.map fun z:Nat=>(z:Int)).getD r 0)):=fun r hr=>qQ9 (P:=Tryz.prog) (t:=127) (e:=126) (n:=8) (name:= "sortition/sha.begin") (zs:=jC2.map fun z:Nat=>(z:Int)) (by kernel_rfl) (by kernel_rfl) (by kernel_rfl) (by kernel_rfl) (by kernel_rfl) rfl ⟨g,t,cs,fuel,p,hg,ht,hv,hd⟩ r hr
 have h1:∀r,r<64→W.cell? ⟨2,r,none⟩=some (.int .u32 ((jCM.map fun z:Nat=>(z:Int)).getD r 0)):=fun r hr=>qQ9 (P:=Tryz.prog) (t:=152) (e:=126) (n:=64) (name:= "sortition/sha.rounds") (zs:=jCM.map fun z:Nat=>(z:Int)) (by kernel_rfl) (by kernel_rfl) (by kernel_rfl) (by kernel_rfl) (by kernel_rfl) rfl ⟨g2,t2,cs2,fuel2,p2,hg2,ht2,hv2,hd2⟩ r hr
 exact qR2 h0 h1
def famTr (x:qGZ) (y:qIj) (z:qA6) (l:ClS) (b:Blk):Prop:=qHU b∨qZh x b∨qSz y b∨qEd z b∨qR6 l b
theorem true_run (x:qGZ) (y:qIj) (z:qA6) (l:ClS) (hx:OkU x) (hy:jDe y) (hz:OkS z) (hl:jDx l):qAc (famTr x y z l) Tryz.prog 4 [.slice x.wa x.wn x.wc,.slice y.wa y.wn y.wc,.slice z.wa z.wn z.wc,.slice l.wa l.wn l.wc] [] 0 (fun _=>.bool true) (fun _=>[]):=by
 have hT:∀b,qHU b→famTr x y z l b:=fun b h=>.inl h
 have hFx:∀b,qZh x b→famTr x y z l b:=fun b h=>.inr (.inl h)
 have hFy:∀b,qSz y b→famTr x y z l b:=fun b h=>.inr (.inr (.inl h))
 have hFz:∀b,qEd z b→famTr x y z l b:=fun b h=>.inr (.inr (.inr (.inl h)))
 have hFl:∀b,qR6 l b→famTr x y z l b:=fun b h=>.inr (.inr (.inr (.inr h)))
 by_cases hTen:x.wn≤10∧y.wn=x.wn∧z.wn≤8∧l.wn≤50
 ·rcases Nat.eq_zero_or_pos x.wn with h0|h0
  ·exact jDf x y z l hT hx hy hz hl hFx hFy hFz hFl hTen h0
  ·exact jD5 x y z l hT hx hy hz hl hFx hFy hFz hFl hTen h0
 ·exact jDk x y z l hT hx hy hz hl hFx hFy hFz hFl hTen
theorem chaseTrue_lifted (os:Os) (started:os.Started) (H:Type) (enc:TypeId×Value→H):
  ReturnsInHanded {} Tryz.checked os 4 .any (fun w args=>(Rows.chaseTrueSpec.pre enc Tryz.prog Tryz.f4 Rows.chaseTrueRow.domain false w args∧laidMetH Tryz.prog Rows.chaseTrueRow.laid w)∧sizedMet enc Tryz.prog Tryz.f4 (OpenSpec.ofChange Rows.chaseTrueSpec) false w args) (Rows.chaseTrueSpec.post enc Tryz.prog Tryz.f4 false true false false):=by
 refine returnsInHanded_of_change_and (C:=Tryz.checked) (X:=fun w _=>laidMetH Tryz.prog Rows.chaseTrueRow.laid w) (fun _ _ _ hh h=>h.of_heap hh) own started (by kernel_rfl) Tryz.func4
  (ChangeSpec.witness_shaped (enc:=enc) (C:=Tryz.checked) (os:=os) (X:=fun w _=>laidMetH Tryz.prog Rows.chaseTrueRow.laid w) false (World.laidAll Tryz.prog os Rows.chaseTrueRow.laid) #[.slice none 0 0,.slice none 0 0,.slice none 0 0,.slice none 0 0] 8 (World.laidAll_os _ _ _)
   (World.shaped_of_ZipB (by kernel_rfl) (by kernel_rfl)) (by kernel_rfl) (by kernel_rfl) (by kernel_rfl)
   (by rw[MakeChecks.laidMetH_plain _ _ _ (by kernel_rfl)];exact laidMet_laidAll _ (by kernel_rfl) (by kernel_rfl))) ?_
 intro W base args ds gs qFT hval0 hW _ _ hL _;have hval:∀(j:Nat) t v,Tryz.f4.params[j]?=some t→args[j]?=some v→Value.okWide Tryz.prog W .any base t v:=hval0;have hW':=hW;obtain⟨p,q,hA0,hV,hpq,hfz,hnd⟩:=hW;have hA:DataW.TrodAll enc Tryz.prog W 0 (fun _=>true) true Tryz.f4.params.toList args.toList ds p:=hA0
 rw[Tryz.params4] at hA hval;obtain⟨v0,vs0,d0,ds0,p0,q0,hargs,rfl,hp0,e0,r0⟩:=trodAll_cons hA;obtain⟨v1,vs1,d1,ds1,p1,q1,rfl,rfl,hp1,e1,r1⟩:=trodAll_cons r0;obtain⟨v2,vs2,d2,ds2,p2,q2,rfl,rfl,hp2,e2,r2⟩:=trodAll_cons r1;obtain⟨v3,vs3,d3,ds3,p3,q3,rfl,rfl,hp3,e3,r3⟩:=trodAll_cons r2;obtain⟨rfl,rfl,_⟩:=trodAll_nil r3;obtain rfl:args=#[v0,v1,v2,v3]:=by cases args;simp_all
 obtain⟨x,rfl,hx,hFx⟩:=qSu (P:=Tryz.prog) (t:=35) (e:=23) (by kernel_rfl) (by kernel_rfl) (by kernel_rfl) (hval 0 35 v0 rfl rfl) e0
 obtain⟨y,rfl,hy,hFy⟩:=qSQ (P:=Tryz.prog) (t:=36) (e:=4) (by kernel_rfl) (by kernel_rfl) (by kernel_rfl) (hval 1 36 v1 rfl rfl) e1
 obtain⟨z,rfl,hz,hFz⟩:=qPP (P:=Tryz.prog) (t:=22) (s:=29) (e:=5) (by kernel_rfl) (by kernel_rfl) (by kernel_rfl) (by kernel_rfl) (by kernel_rfl) (hval 2 22 v2 rfl rfl) e2
 obtain⟨l,rfl,hl,hFl⟩:=qQa (P:=Tryz.prog) (t:=25) (e:=31) (u:=23) (i:=3) (s:=29) (b:=5) (by kernel_rfl) (by kernel_rfl) (by kernel_rfl) (by kernel_rfl) (by kernel_rfl) (by kernel_rfl) (by kernel_rfl) (by kernel_rfl) (by kernel_rfl) (by kernel_rfl) (by kernel_rfl) (hval 3 25 v3 rfl rfl) e3
 obtain⟨rfl,rfl⟩:=trodVars_none hV;have hT:=famT_of_laid hL;have key:Calls Tryz.prog 4 #[.slice x.wa x.wn x.wc,.slice y.wa y.wn y.wc,.slice z.wa z.wn z.wc,.slice l.wa l.wn l.wc] W fun e w'=>e=.returned (Value.bool true)∧Below W.heap.size W w':=qU0 (qAc.toF (bs:=[]) (true_run x y z l hx hy hz hl)) (fun b hb=>by cases hb) (fun b hb=>by cases hb) (fun b hb=>hb.elim (hT b) fun h=>h.elim (hFx b) fun h=>h.elim (hFy b) fun h=>h.elim (hFz b) (hFl b))
 refine key.mono fun e W' ⟨he,hb⟩=>?_
 subst he;exact⟨_,rfl,qYi laidOut (by kernel_rfl) rfl jES rfl hW' ⟨rfl,rfl,rfl⟩ hb⟩
theorem chaseTrue_holds:Rows.ChaseTrueSaid:=
 OpenClaim.holds_of_wide 4 Tryz.f4 rfl rfl rfl rfl rfl rfl rfl ⟨rfl,rfl,rfl,rfl,rfl⟩ rfl rfl rfl rfl rfl (by kernel_rfl) Tryz.func4 (by kernel_rfl)
  (oT (by kernel_rfl)) (by unfold Func.isWrapper;first|(rw[if_pos (by decide+kernel)];kernel_rfl)|(rw[if_neg (by decide+kernel)];exact⟨rfl,rfl⟩))
  (fun os started H enc _=>chaseTrue_lifted os started H enc)
theorem chaseTrue_card:Rows.ChaseTrueCardSaid:=
 Claim7.holds_tied_plain_at .later [] [.data,.data] true (true,"b18164ba4f1cd55cd871ad010ac450c83e1a70d08bea1962e8a6bc0c33f349b8") false chaseTrue_holds (fun _ h=>by cases h) (by kernel_rfl) (fun _ h=>by cases h) chaseTrue_row_tie rfl ⟨rfl,rfl⟩ (by kernel_rfl) rfl
  (fun f fn hf hfn=>by
   obtain rfl:f=4:=Option.some.inj ((show Tryz.prog.funcNamed "sortition/sortitionlaw19.ChaseTrue"=some 4 by kernel_rfl).symm.trans hf) |>.symm
   obtain rfl:fn=Tryz.f4:=(Option.some.inj (Tryz.func4.symm.trans hfn)).symm;exact⟨by kernel_rfl,fun j t ht=>by
    rw[Tryz.params4] at ht;have hm:t∈[35,36,22,25]:=by simpa using Array.mem_of_getElem? ht
    have hall:([35,36,22,25].all fun u=>!Tryz.prog.wantsStandIn u)=true:=by kernel_rfl
    exact(show Tryz.prog.wantsStandIn t=false by simpa using List.all_eq_true.1 hall t hm)⟩)
  (by kernel_rfl)
end Go.Proofs.YtmdpendnbkajdaaGreatDoor
