/-
  ChaseAnswers: for all arguments the law hands back true, and leaves them as they were, if the two tables hold what the program lays in them.
-/
import Derived.Test.YtmdpendnbkajdaaGreatDoorZChaseAnswers20
import Derived.Test.YtmdpendnbkajdaaGreatDoorCards
import Derived.Test.YtmdpendnbkajdaaGreatDoorTie
import Derived.ProofKit
import Derived.OpenShut
import Derived.LaidMore
import Derived.Lay
import Derived.SevenTiedAt
import Derived.Stop.Joined
import Derived.ChangeMaps5
namespace Go.Proofs.YtmdpendnbkajdaaGreatDoor
open Go Go.Eng Go.ChangeShapes Go.WideShapes Go.ChangeAt Go.RowKit
set_option linter.unusedVariables false
set_option linter.unusedSimpArgs false
set_option maxRecDepth 100000
set_option maxHeartbeats 1000000
theorem own:ownKnob Tryz.prog.godebug=none:=by kernel_rfl
theorem laidOut:laidOutB Tryz.prog=true:=by kernel_rfl
theorem i64T:Tryz.prog.underlying 3=some (.int .i64):=by kernel_rfl
theorem famT_of_laid {W:World} (h:laidMetH Tryz.prog Rows.chaseAnswersRow.laid W):FamH famT W:=by
  rw [MakeChecks.laidMetH_plain _ _ _ (by kernel_rfl)] at h
  obtain⟨ps,⟨g,t,cs,fuel,p,q,hg,ht,hv,hd,⟨g2,t2,cs2,fuel2,p2,q2,hg2,ht2,hv2,hd2,_,_⟩,_⟩,_,_⟩:=h
  have h0:∀ r,r < 8→W.cell? ⟨1,r,none⟩=some (.int .u32 ((begK.map fun z:Nat=>(z:Int)).getD r 0)):=fun r hr=>tab_cell (P:=Tryz.prog) (t:=127) (e:=126) (n:=8) (name := "sortition/sha.begin") (zs:=begK.map fun z:Nat=>(z:Int)) (by kernel_rfl) (by kernel_rfl) (by kernel_rfl) (by kernel_rfl) (by kernel_rfl) rfl ⟨g,t,cs,fuel,p,hg,ht,hv,hd⟩ r hr
  have h1:∀ r,r < 64→W.cell? ⟨2,r,none⟩=some (.int .u32 ((rndK.map fun z:Nat=>(z:Int)).getD r 0)):=fun r hr=>tab_cell (P:=Tryz.prog) (t:=152) (e:=126) (n:=64) (name := "sortition/sha.rounds") (zs:=rndK.map fun z:Nat=>(z:Int)) (by kernel_rfl) (by kernel_rfl) (by kernel_rfl) (by kernel_rfl) (by kernel_rfl) rfl ⟨g2,t2,cs2,fuel2,p2,hg2,ht2,hv2,hd2⟩ r hr
  exact famT_cells h0 h1
def famAn (l:BytS) (b:Blk):Prop:=famT b∨famS l b
theorem ans_run (l:BytS) (w:Int) (f:UInt64) (hl:OkS l) (hlen:∀ k,k < l.wn→(l.wf k).wn≤140737488355328):RunsO (famAn l) Tryz.prog 3 [.slice l.wa l.wn l.wc,int w,u64 f] [] 0 (fun _=>.bool true) (fun _=>[]):=by
  by_cases h30:l.wn≤30
  · exact ans_o l w f (fun b h=>.inl h) hl (fun b h=>.inr h) h30 hlen
  · exact ans_l l w f (fun b h=>.inl h) hl (fun b h=>.inr h) (by omega)
theorem chaseAnswers_lifted (os : Os) (started : os.Started) (H : Type) (enc : TypeId × Value → H) :
    ReturnsInHanded {} Tryz.checked os 3 .any (fun w args=>(Rows.chaseAnswersSpec.pre enc Tryz.prog Tryz.f3 Rows.chaseAnswersRow.domain false w args∧laidMetH Tryz.prog Rows.chaseAnswersRow.laid w)∧sizedMet enc Tryz.prog Tryz.f3 (OpenSpec.ofChange Rows.chaseAnswersSpec) false w args) (Rows.chaseAnswersSpec.post enc Tryz.prog Tryz.f3 false true false false):=by
  refine returnsInHanded_of_change_and (C:=Tryz.checked) (X:=fun w _=>laidMetH Tryz.prog Rows.chaseAnswersRow.laid w) (fun _ _ _ hh h=>h.of_heap hh) own started (by kernel_rfl) Tryz.func3
    (ChangeSpec.witness_shaped (enc:=enc) (C:=Tryz.checked) (os:=os) (X:=fun w _=>laidMetH Tryz.prog Rows.chaseAnswersRow.laid w) false (World.laidAll Tryz.prog os Rows.chaseAnswersRow.laid) #[.slice none 0 0,.int .i64 0,.int .u64 0] 8 (World.laidAll_os _ _ _)
      (World.shaped_of_ZipB (by kernel_rfl) (by kernel_rfl)) (by kernel_rfl) (by kernel_rfl) (by kernel_rfl)
      (by rw [MakeChecks.laidMetH_plain _ _ _ (by kernel_rfl)]; exact laidMet_laidAll _ (by kernel_rfl) (by kernel_rfl))) ?_
  intro W base args ds gs before hval0 hW _ hsz hL _
  have hval:∀ (j:Nat) t v,Tryz.f3.params[j]? = some t→args[j]? = some v→Value.okWide Tryz.prog W .any base t v:=hval0
  have hW':=hW
  obtain⟨p,q,hA0,hV,hpq,hfz,hnd⟩:=hW
  have hA:DataW.TrodAll enc Tryz.prog W 0 (fun _=>true) true Tryz.f3.params.toList args.toList ds p:=hA0
  rw [Tryz.params3] at hA hval
  obtain⟨v0,vs0,d0,ds0,p0,q0,hargs,rfl,hp0,e0,r0⟩:=trodAll_cons hA
  obtain⟨v1,vs1,d1,ds1,p1,q1,rfl,rfl,hp1,e1,r1⟩:=trodAll_cons r0
  obtain⟨v2,vs2,d2,ds2,p2,q2,rfl,rfl,hp2,e2,r2⟩:=trodAll_cons r1
  obtain⟨rfl,rfl,_⟩:=trodAll_nil r2
  obtain rfl:args = #[v0,v1,v2]:=by cases args; simp_all
  obtain⟨l,rfl,hl,hFl,hlen⟩:=open_bytessW (P:=Tryz.prog) (t:=22) (s:=29) (e:=5) (by kernel_rfl) (by kernel_rfl) (by kernel_rfl) (by kernel_rfl) (by kernel_rfl) (by kernel_rfl) (fun n hn=>by simpa using List.all_eq_true.1 hsz _ (DataW.weights_mem_each (j:=0) (t:=22) (by kernel_rfl) rfl n hn)) (hval 0 22 v0 rfl rfl) e0
  obtain⟨w,rfl,hwl,hwh⟩:=open_i64 i64T (hval 1 3 v1 rfl rfl) e1
  obtain⟨f,rfl⟩:=open_u64 (P:=Tryz.prog) (t:=23) (by kernel_rfl) (hval 2 23 v2 rfl rfl) e2
  obtain⟨rfl,rfl⟩:=trodVars_none hV
  have hT:=famT_of_laid hL
  have key:Calls Tryz.prog 3 #[.slice l.wa l.wn l.wc,int w,u64 f] W fun e w'=>e = .returned (Value.bool true)∧Below W.heap.size W w':=runsF_law (RunsO.toF (bs:=[]) (ans_run l w f hl hlen)) (fun b hb=>by cases hb) (fun b hb=>by cases hb) (fun b hb=>hb.elim (hT b) (hFl b))
  refine key.mono fun e W' ⟨he,hb⟩=>?_
  subst he
  exact⟨_,rfl,law_post laidOut (by kernel_rfl) rfl boolT rfl hW' ⟨rfl,rfl,rfl⟩ hb⟩
theorem chaseAnswers_holds:Rows.ChaseAnswersSaid :=
  OpenClaim.holds_of_wide 3 Tryz.f3 rfl rfl rfl rfl rfl rfl rfl ⟨rfl,rfl,rfl,rfl,rfl⟩ rfl rfl rfl rfl rfl (by kernel_rfl) Tryz.func3 (by kernel_rfl)
    (oT (by kernel_rfl)) (by unfold Func.isWrapper; first | (rw [if_pos (by decide +kernel)]; kernel_rfl) | (rw [if_neg (by decide +kernel)]; exact⟨rfl,rfl⟩))
    (fun os started H enc _=>chaseAnswers_lifted os started H enc)
theorem chaseAnswers_card:Rows.ChaseAnswersCardSaid :=
  Claim7.holds_tied_plain_at .later [] [.data,.data] true (true,"b18164ba4f1cd55cd871ad010ac450c83e1a70d08bea1962e8a6bc0c33f349b8") false chaseAnswers_holds (fun _ h=>by cases h) (by kernel_rfl) (fun _ h=>by cases h) chaseAnswers_row_tie rfl ⟨rfl,rfl⟩ (by kernel_rfl) rfl
    (fun f fn hf hfn=>by
      obtain rfl:f=3:=Option.some.inj ((show Tryz.prog.funcNamed "sortition/sortitionlaw19.ChaseAnswers" = some 3 by kernel_rfl).symm.trans hf) |>.symm
      obtain rfl:fn=Tryz.f3:=(Option.some.inj (Tryz.func3.symm.trans hfn)).symm
      exact⟨by kernel_rfl,fun j t ht=>by
        rw [Tryz.params3] at ht
        have hm:t ∈ [22,3,23]:=by simpa using Array.mem_of_getElem? ht
        have hall:([22,3,23].all fun u=>!Tryz.prog.wantsStandIn u)=true:=by kernel_rfl
        exact(show Tryz.prog.wantsStandIn t=false by simpa using List.all_eq_true.1 hall t hm)⟩)
    (by kernel_rfl)
end Go.Proofs.YtmdpendnbkajdaaGreatDoor
