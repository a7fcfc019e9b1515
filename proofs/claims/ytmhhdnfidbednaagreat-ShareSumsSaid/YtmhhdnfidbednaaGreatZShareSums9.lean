/-
  Many in one: EngW.
-/
import Derived.Test.YtmhhdnfidbednaaGreatZShareSums8
import Derived.OrdersIn
import Derived.RangeFuncNested
set_option linter.unusedVariables false
set_option linter.unusedSimpArgs false
set_option maxRecDepth 100000
set_option maxHeartbeats 1000000
section
namespace Go.Eng
def inR (l:Nat):Fence:=Fence.wide.inRound l
def noDefer (ops:Array Oper):Bool:=ops.all fun o=>match o.op with
  | .defer _=>false
  | _=>true
theorem noDefer_get {ops:Array Oper} (h:noDefer ops=true) {i:Nat} {o:Oper} (hi:ops[i]? = some o):∀ c,o.op≠.defer c:=fun c e=>by
  unfold noDefer at h
  rw [Array.all_eq_true] at h
  obtain⟨hl,he⟩:=Array.getElem?_eq_some_iff.1 hi
  have:=h i hl
  rw [he,e] at this
  cases this
def okCd:Code→Bool
  | .skip | .label _ | .ret | .exit _=>true
  | .seq a b=>okCd a && okCd b
  | .block _ b=>okCd b
  | .cond _ x y=>okCd x && okCd y
  | .region _ ops _=>noDefer ops && !ops.any tmpCall
  | _=>false
theorem rows_in {l n:Nat} {P:Program} {row:String} {args:Array Value} {w:World} {R:Value→World→Prop} (h:Rows P row args w R):RowsIn (inR l) n P row args w R :=
  fun c cs _=>let ⟨v,w',r,s⟩:=h c cs; ⟨v,w',r,(stepsIn_wide (P:=P)).2 s⟩
theorem op_in {l n : Nat} {P : Program} {o : Oper} {a : Act} {w : World} {K : Act → World → Prop} {Q : Exit → Act → World → Prop} (hd : ∀ c, o.op ≠ .defer c) (hQ : ¬ LetsOut Q)
    (h:o.wp P a w K Q∨(o.asks P a w∧LetsOut Q)):o.wpIn (inR l) n P a w K Q:=by
  have h:=h.resolve_right fun h=>hQ h.2
  refine⟨fun _ _=>trivial,?_⟩
  rw [Oper.semAt_eq _ _ _ hd]
  unfold Oper.wp at h
  generalize (execOp a.eval o).run P w=r at h ⊢
  unfold Oper.upon at h
  unfold Oper.uponIn
  split at h
  · exact h
  · exact h
  · exact h
  · exact⟨fun h=>by simp [inR,Fence.wide] at h,callsIn_wide.2 h⟩
  · exact⟨fun h=>by simp [inR,Fence.wide] at h,rows_in h⟩
  · exact h
  · exact h.elim
theorem wpOp_in {l n : Nat} {P : Program} {ops : Array Oper} {Q : Exit → Act → World → Prop} {i : Nat} {K K' : Act → World → Prop} {a : Act} {w : World} (hd : noDefer ops = true) (hQ : ¬ LetsOut Q)
    (hK:∀ a w,K a w→K' a w) (h:wpOp P ops Q i K a w):wpOpIn (inR l) n P ops Q i K' a w:=by
  refine wpOpIn_mono hK ?_
  unfold wpOp at h
  unfold wpOpIn
  cases ho:ops[i]? with
  | none=>rw [ho] at h; exact h
  | some o =>
    rw [ho] at h
    simp only at h ⊢
    split at h
    · rename_i hw; rw [if_pos hw]; exact op_in (noDefer_get hd ho) hQ h
    · rename_i hw; rw [if_neg hw]; exact⟨fun _ _=>trivial,h⟩
theorem ops_in {l n : Nat} {P : Program} {ops : Array Oper} {Q : Exit → Act → World → Prop} (hd : noDefer ops = true) (hQ : ¬ LetsOut Q) :
    ∀ (is:List Nat) (a:Act) (w:World),wpOps P ops Q is a w→wpOpsIn (inR l) n P ops Q is a w
  | [],_,_,h=>h
  | i :: is,a,w,h=>by
    rw [wpOps_cons] at h
    rw [wpOpsIn_cons]
    exact wpOp_in hd hQ (ops_in hd hQ is) h
theorem any_in {l n : Nat} {P : Program} {md : Region.Mode} {ops : Array Oper} {Q : Exit → Act → World → Prop} (hd : noDefer ops = true) (hQ : ¬ LetsOut Q) :
    ∀ (fuel:Nat) (listed:Array Bool) (a:Act) (w:World),wpAny P md ops Q fuel listed a w→wpAnyIn (inR l) n P md ops Q fuel listed a w
  | 0,_,_,_,h=>h
  | fuel+1,listed,a,w,h=>⟨h.1,fun i hi=>wpOp_in hd hQ (fun a w=>any_in hd hQ fuel _ a w) (h.2 i hi)⟩
theorem post_out {nt ds:Nat} {s:St} {w:World} {K:Exit→St→H→Prop} (hK:∀ s h,¬ K .outgrown s h):¬ LetsOut (post ds nt s w K):=fun⟨_,_,s',h',hk,_⟩=>hK s' h' hk
theorem evIn_sound {P : Program} {nt l m ds : Nat} {F : Blk → Prop} (hmix : P.follows .mixedOrders = true) : ∀ (n : Nat) (c : Code) (s : St) (h : H) (K : Exit → St → H → Prop) (a : Act) (w : World),
    (∀ s h,¬ K .outgrown s h)→okCd c=true→evF F P nt n false c s h K→Sat ds nt s.fs a w→Fam F s.fs.mem w→c.wpIn (inR l) m P (post ds nt s w K) a w
  | 0,c,s,h,K,a,w,hO,hC,hev,hs,hF=>by cases hev
  | n+1,c,s,h,K,a,w,hO,hC,hev,hs,hF=>by
    by_cases hkeep:∃ ts ps nx r,h = .keep ts ps nx r
    · obtain⟨ts,ps,nx,r,rfl⟩:=hkeep
      simp only [evF] at hev
      have hle:=keep_le s ts ps nx
      exact wpIn_mono (evIn_sound hmix n c (s.keep ts ps nx) r K a w hO hC hev (hs.le hle) (hF.adv (adv_le hle))) (post_trans (adv_le hle))
    · by_cases htold:∃ s' r,h = .told s' r
      · obtain⟨s',r,rfl⟩:=htold
        simp only [evF] at hev
        obtain⟨rfl,hev⟩:=hev
        exact evIn_sound hmix n c s r K a w hO hC hev hs hF
      by_cases hopen:∃ b r,h = .openb b r
      · obtain⟨b,r,rfl⟩:=hopen
        simp only [evF] at hev
        obtain⟨hb,hev⟩:=hev
        obtain⟨hs2,hF2⟩:=hs.addb hF hb
        have ho:=(hF b hb).2.1
        exact wpIn_mono (evIn_sound hmix n c (s.addb b) r (fun e s' h'=>K e (s'.dropb s.nx) h') a w (fun _ h=>hO _ h) hC hev hs2 hF2) fun e a' w' ⟨s',h',hK,hS,hA⟩=>⟨s'.dropb s.nx,h',hK,hS.dropb s.nx,adv_drop ho hA⟩
      by_cases hopr:∃ b r,h = .openr b r∧isReg c=true
      · obtain⟨b,r,rfl,hreg⟩:=hopr
        simp only [evF,hreg] at hev
        obtain⟨hb,hev⟩:=hev
        obtain⟨hs2,hF2⟩:=hs.addb hF hb
        have ho:=(hF b hb).2.1
        exact wpIn_mono (evIn_sound hmix n c (s.addb b) r (fun e s' h'=>K e (s'.dropb s.nx) h') a w (fun _ h=>hO _ h) hC hev hs2 hF2) fun e a' w' ⟨s',h',hK,hS,hA⟩=>⟨s'.dropb s.nx,h',hK,hS.dropb s.nx,adv_drop ho hA⟩
      by_cases hren:∃ p q r,h = .ren p q r
      · obtain⟨p,q,r,rfl⟩:=hren
        simp only [evF] at hev
        split at hev
        · rename_i b hb
          split at hev
          · rename_i ho
            split at hev
            · rename_i hq
              obtain⟨hs2,hadv⟩:=hs.ren hb ho hq
              exact wpIn_mono (evIn_sound hmix n c (s.ren p q b) r K a w hO hC hev hs2 (hF.adv hadv)) (post_trans hadv)
            · exact hev.elim
          · exact hev.elim
        · exact hev.elim
      by_cases hrenO:∃ p q r,h = .renO p q r
      · obtain⟨p,q,r,rfl⟩:=hrenO
        simp only [evF] at hev
        obtain⟨hs2,hadv⟩:=hs.renO (p:=p) (q:=q) hev.1
        exact wpIn_mono (evIn_sound hmix n c (s.renO p q) r K a w hO hC hev.2 hs2 (hF.adv hadv)) (post_trans hadv)
      by_cases hpack:∃ q p m g r,h = .pack q p m g r
      · obtain⟨q,p,m,g,r,rfl⟩:=hpack
        simp only [evF] at hev
        split at hev
        · rename_i b hb
          split at hev
          · rename_i ho
            obtain⟨hp,hev⟩:=hev
            simp only [Bool.and_eq_true,Bool.not_eq_true'] at ho
            obtain⟨⟨ho,h0⟩,hqp⟩:=ho
            have h0:=Nat.eq_of_beq_eq_true h0
            obtain⟨hs2,hadv⟩:=hs.pack hb ho h0 (fun e=>by subst e; rw [show Nat.beq q q=true from Nat.beq_refl q] at hqp; cases hqp) hp
            exact wpIn_mono (evIn_sound hmix n c (s.pack q p b m g) r K a w hO hC hev hs2 (hF.adv hadv)) (post_trans hadv)
          · exact hev.elim
        · exact hev.elim
      by_cases hboth:∃ b h1 h2,h = .both b h1 h2
      · obtain⟨b,h1,h2,rfl⟩:=hboth
        simp only [evF] at hev
        cases b with
        | true=>exact evIn_sound hmix n c s h1 K a w hO hC (hev.1 rfl) hs hF
        | false=>exact evIn_sound hmix n c s h2 K a w hO hC (hev.2 rfl) hs hF
      by_cases hcast:∃ p c' r,h = .cast p c' r
      · obtain⟨p,c',r,rfl⟩:=hcast
        simp only [evF] at hev
        split at hev
        · rename_i b hb
          split at hev
          · rename_i ho
            split at hev
            · exact hev.elim
            rename_i hnm
            obtain⟨hc,hev⟩:=hev
            obtain⟨hnm,hbm⟩:=Bool.or_eq_false_iff.1 hnm
            obtain⟨hs2,hadv⟩:=hs.recast hb ho hnm hbm hc
            exact wpIn_mono (evIn_sound hmix n c (s.recast p b c') r K a w hO hC hev hs2 (hF.adv hadv)) (post_trans hadv)
          · exact hev.elim
        · exact hev.elim
      by_cases hcut:∃ (α:Type) (ts ps:List Nat) (nx:Nat) (R:α→Prop) (S:α→St) (h1:H) (r:α→H),h = .cut ts ps nx R S h1 r
      · obtain⟨α,ts,ps,nx,R,S,h1,r,rfl⟩:=hcut
        simp only [evF] at hev
        obtain⟨hev,hrest⟩:=hev
        refine wpIn_mono (evIn_sound hmix n c s h1 _ a w ?_ hC hev hs hF) ?_
        · exact fun s h=>hO s h
        rintro e a' w' ⟨s',h',hK,hS,hA⟩
        cases e with
        | normal =>
          obtain⟨y,hR,hy⟩:=hK
          have hle:=keep_le s' ts ps nx
          rw [hy] at hle
          exact⟨S y,r y,hrest y hR,hS.le hle,hA.weak hle.mem⟩
        | _=>exact⟨s',h',hK,hS,hA⟩
      have hnk:evF F P nt (n+1) false c s h K=evStep F P nt (fun lp c s h K=>evF F P nt n lp c s h K) c s h K:=by
        cases h with
        | keep ts ps nx r=>exact absurd ⟨ts,ps,nx,r,rfl⟩ hkeep
        | cast p c' r=>exact absurd ⟨p,c',r,rfl⟩ hcast
        | told s' r=>exact absurd ⟨s',r,rfl⟩ htold
        | both b h1 h2=>exact absurd ⟨b,h1,h2,rfl⟩ hboth
        | openb b r=>exact absurd ⟨b,r,rfl⟩ hopen
        | ren p q r=>exact absurd ⟨p,q,r,rfl⟩ hren
        | renO p q r=>exact absurd ⟨p,q,r,rfl⟩ hrenO
        | pack q p m g r=>exact absurd ⟨q,p,m,g,r,rfl⟩ hpack
        | openr b r =>
          cases hreg:isReg c with
          | true=>exact absurd ⟨b,r,rfl,hreg⟩ hopr
          | false=>simp only [evF,hreg]
        | cut ts ps nx R S h1 r=>exact absurd ⟨_,ts,ps,nx,R,S,h1,r,rfl⟩ hcut
        | _=>rfl
      rw [hnk] at hev
      clear hnk
      have here:∀ e,K e s h→post ds nt s w K e a w:=fun e hK=>⟨s,h,hK,hs,.refl _ _⟩
      cases c with
      | skip=>exact wpIn_skip (here _ hev)
      | label l=>exact wpIn_label (here _ hev)
      | ret=>exact wpIn_ret (here _ hev)
      | exit id=>exact wpIn_exit (here _ hev)
      | seq x y =>
        simp only [okCd,Bool.and_eq_true] at hC
        refine wpIn_seq (wpIn_mono (evIn_sound hmix n x s h _ a w ?_ hC.1 hev hs hF) ?_)
        · exact fun s h=>hO s h
        rintro e a' w' ⟨s',h',hK,hS,hA⟩
        cases e with
        | normal=>exact wpIn_mono (evIn_sound hmix n y s' h' K a' w' hO hC.2 hK hS (hF.adv hA)) (post_trans hA)
        | _=>exact⟨s',h',hK,hS,hA⟩
      | block id b =>
        simp only [okCd] at hC
        refine wpIn_block (wpIn_mono (evIn_sound hmix n b s h _ a w ?_ hC hev hs hF) ?_)
        · exact fun s h=>hO s h
        rintro e a' w' ⟨s',h',hK,hS,hA⟩
        cases e with
        | exit id' =>
          simp only [Exit.inBlock]
          simp only at hK
          by_cases hid:id'=id
          · subst hid
            rw [if_pos rfl]
            simp only [Nat.beq_refl] at hK
            exact⟨s',h',hK,hS,hA⟩
          · rw [if_neg hid]
            have:Nat.beq id' id=false:=by
              cases hb:Nat.beq id' id with
              | false=>rfl
              | true=>exact absurd (Nat.eq_of_beq_eq_true hb) hid
            rw [this] at hK
            exact⟨s',h',hK,hS,hA⟩
        | _=>exact⟨s',h',hK,hS,hA⟩
      | cond o x y =>
        simp only [okCd,Bool.and_eq_true] at hC
        simp only [evStep] at hev
        split at hev
        · rename_i ee hee
          split at hev
          · rename_i b hb
            have hval:condOf (some ee)→a.eval o = .bool b:=fun hc=>by
              rw [opd_eval hs hee,← hb]
              cases ee with
              | v _=>rfl
              | c g _=>simp only [condOf] at hc; subst hc; rfl
            split at hev
            · obtain⟨hc,h1,h2⟩:=hev
              exact wpIn_cond_split (hval hc) (fun ht=>evIn_sound hmix n x s _ K a w hO hC.1 (h1 ht) hs hF) (fun hf=>evIn_sound hmix n y s _ K a w hO hC.2 (h2 hf) hs hF)
            · obtain⟨hc,hbt,h1⟩:=hev
              subst hbt
              exact wpIn_cond_true (hval hc) (evIn_sound hmix n x s _ K a w hO hC.1 h1 hs hF)
            · obtain⟨hc,hbt,h1⟩:=hev
              subst hbt
              exact wpIn_cond_false (hval hc) (evIn_sound hmix n y s _ K a w hO hC.2 h1 hs hF)
            · exact hev.elim
          · exact hev.elim
        · exact hev.elim
      | region id ops draw =>
        simp only [okCd,Bool.and_eq_true,Bool.not_eq_true'] at hC
        obtain⟨hC,hT⟩:=hC
        have hQ:=post_out (ds:=ds) (nt:=nt) (s:=s) (w:=w) hO
        simp only [evStep] at hev
        split at hev
        · rename_i ks r
          split at hev
          · rename_i hok
            have hall:∀ ns,ns.length=nnL ks→∃ vc s',evSeq F P ops nt ks ns s=some (vc,s')∧vc:=fun ns hns=>by
              have:=allNs_get hev ns hns
              split at this
              · rename_i vc s' he; exact⟨vc,s',he,this.1⟩
              · exact this.elim
            have hfin:∀ ns vc s' a' w',ns.length=nnL ks→evSeq F P ops nt ks ns s=some (vc,s')→vc→Sat ds nt s'.fs a' w'→Adv s.fs.mem w s'.fs.mem w'→post ds nt s w K .normal a' w' :=
              fun ns vc s' a' w' hns he hvc hS hA=>by
                have:=allNs_get hev ns hns
                rw [he] at this
                exact⟨s',r,this.2,hS,hA⟩
            cases draw with
            | true=>exact wpIn_region_any hmix (any_in hC hQ _ _ _ _ (draw_any hok hs hF hall hfin))
            | false =>
              refine wpIn_region (ops_in hC hQ _ _ _ ?_)
              have hidx:=(idxIs_range ks 0 ops.size hok).1
              rw [Nat.sub_zero,← List.range_eq_range'] at hidx
              rw [← hidx]
              exact seq_sound ks hs hF hall hfin
          · exact hev.elim
        · rename_i ks r
          split at hev
          · rename_i hok
            have hall:∀ ns,ns.length=nnL ks→∃ vc s',evSeq F P ops nt ks ns s=some (vc,s')∧vc:=fun ns hns=>by
              have:=allNs_get hev ns hns
              split at this
              · rename_i vc s' he; exact⟨vc,s',he,this.1⟩
              · exact this.elim
            have hfin:∀ ns vc s' a' w',ns.length=nnL ks→evSeq F P ops nt ks ns s=some (vc,s')→vc→Sat ds nt s'.fs a' w'→Adv s.fs.mem w s'.fs.mem w'→post ds nt s w K .normal a' w' :=
              fun ns vc s' a' w' hns he hvc hS hA=>by
                have:=allNs_get hev ns hns
                rw [he] at this
                exact⟨s',r ns,this.2,hS,hA⟩
            cases draw with
            | true=>exact wpIn_region_any hmix (any_in hC hQ _ _ _ _ (draw_any hok hs hF hall hfin))
            | false =>
              refine wpIn_region (ops_in hC hQ _ _ _ ?_)
              have hidx:=(idxIs_range ks 0 ops.size hok).1
              rw [Nat.sub_zero,← List.range_eq_range'] at hidx
              rw [← hidx]
              exact seq_sound ks hs hF hall hfin
          · exact hev.elim
        · rw [hT] at hev; exact hev.elim
        · exact hev.elim
      | _=>cases hC
end Go.Eng
end
