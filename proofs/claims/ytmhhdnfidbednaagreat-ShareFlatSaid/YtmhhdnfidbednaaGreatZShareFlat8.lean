/-
  Many in one: EngY, ModqWt, ModqPol, ModqLaw.
-/
import Derived.Test.YtmhhdnfidbednaaGreatZShareFlat7
import Derived.ChangeSame
set_option linter.unusedVariables false
set_option linter.unusedSimpArgs false
set_option maxRecDepth 100000
set_option maxHeartbeats 1000000
section
namespace Go.Eng
def cutN (n:Nat) (h:Nat→N4):Nat→N4:=fun k=>if k < n then h k else ⟨0,0,0,0⟩
theorem cutN_zero (h:Nat→N4):(fun _=>N4.mk 0 0 0 0)=cutN 0 h:=by funext k; simp [cutN]
theorem cutN_at {n k:Nat} {h:Nat→N4} (hk:k < n):cutN n h k=h k:=if_pos hk
theorem cutN_next {h:Nat→N4} {k:Nat} {w:N4} (hw:w=h k):cutN (k+1) h=upd (cutN k h) k w:=by
  funext j
  unfold cutN upd
  by_cases h1:j=k
  · subst h1; rw [if_pos (by omega),if_pos rfl,hw]
  · by_cases h2:j < k
    · rw [if_pos (by omega),if_neg h1]; exact(if_pos h2).symm
    · rw [if_neg (by omega),if_neg h1]; exact(if_neg h2).symm
def cellsP (a:N4 × N4):List Value:=[u64 a.1.a,u64 a.1.b,u64 a.1.c,u64 a.1.d,u64 a.2.a,u64 a.2.b,u64 a.2.c,u64 a.2.d]
theorem cellsP_ok (a:N4 × N4):(cellsP a).length=8∧(cellsP a).all Value.oneCell'=true:=⟨rfl,rfl⟩
abbrev tabP (n:Nat) (f:Nat→N4 × N4):Cont:=.tab n 8 fun k=>cellsP (f k)
section
variable {P:Program} {t ty e:TypeId}
end
section
open Go.ChangeShapes Go.WideShapes Go.ChangeAt Go.RowKit Go.Deep
variable {H:Type} {enc:TypeId × Value→H} {P:Program}
end
end Go.Eng
end
section
namespace Go.Eng
def cameL (n k:Nat):List Nat:=(List.range (n - k)).map fun j=>n - 1 - j
theorem cameL_next {n k:Nat} (h:k+1≤n):cameL n k=cameL n (k+1) ++ [k]:=by
  unfold cameL
  rw [show n - k=(n - (k+1))+1 by omega,List.range_succ,List.map_append]
  simp
  omega
theorem cameL_none (n:Nat):cameL n n=[]:=by simp [cameL]
def stepV (m z:N4) (f:Nat→N4) (v:N4) (i:Nat):N4:=sumM m (nrow2 (timesM m z v) (f i)) 2
def horM (m z:N4) (f:Nat→N4) (n:Nat):N4:=(cameL n 0).foldl (stepV m z f) ⟨0,0,0,0⟩
def plM (m:N4) (f:Nat→N4) (k:Nat):N4:=sumM m (nrow1 (f k)) 1
def plN (m:N4) (f:Nat→N4) (n:Nat):Nat→N4:=cutN n (plM m f)
def dupM (m:N4) (f:Nat→N4) (n:Nat):Bool:=decide (∃ i,i < n∧∃ k,k < i∧(plM m f i).val=(plM m f k).val)
def badM (m:N4) (f:Nat→N4) (n:Nat):Bool:=decide (∃ i,i < n∧invE m (underM m (plN m f n) i n)≠0)
def wE (m:N4) (f:Nat→N4) (n:Nat):Int:=match dupM m f n with
  | true=>13
  | false=>match badM m f n with
    | true=>11
    | false=>0
noncomputable def wV (m:N4) (f:Nat→N4) (n i:Nat):N4:=timesM m (overM m (plN m f n) i n) (invT m (underM m (plN m f n) i n))
theorem wE_dup {m:N4} {f:Nat→N4} {n i k:Nat} (hi:i < n) (hk:k < i) (h:(plM m f i).val=(plM m f k).val):wE m f n=13:=by
  have:dupM m f n=true:=decide_eq_true ⟨i,hi,k,hk,h⟩
  rw [wE,this]
theorem wE_bad {m:N4} {f:Nat→N4} {n i:Nat} (h0:∀ i,i < n→∀ k,k < i→(plM m f i).val≠(plM m f k).val) (hi:i < n) (h:invE m (underM m (plN m f n) i n)≠0):wE m f n=11:=by
  have h1:dupM m f n=false:=decide_eq_false fun⟨i,hi,k,hk,e⟩=>h0 i hi k hk e
  have h2:badM m f n=true:=decide_eq_true ⟨i,hi,h⟩
  rw [wE,h1,h2]
theorem wE_ok {m:N4} {f:Nat→N4} {n:Nat} (h0:∀ i,i < n→∀ k,k < i→(plM m f i).val≠(plM m f k).val) (h:∀ i,i < n→invE m (underM m (plN m f n) i n)=0):wE m f n=0:=by
  have h1:dupM m f n=false:=decide_eq_false fun⟨i,hi,k,hk,e⟩=>h0 i hi k hk e
  have h2:badM m f n=false:=decide_eq_false fun⟨i,hi,e⟩=>e (h i hi)
  rw [wE,h1,h2]
theorem among {m:N4} {f g:Nat→N4} {i:Nat} {w:N4} (hg:g=cutN i (plM m f)) (hw:w=plM m f i):0≤idxI (upd g i w) (upd g i w i) i ↔ ∃ k,k < i∧(plM m f i).val=(plM m f k).val:=by
  rw [idx_ge]
  subst hg; subst hw
  constructor
  · rintro⟨k,hk,e⟩
    refine⟨k,hk,?_⟩
    have e1:upd (cutN i (plM m f)) i (plM m f i) i=plM m f i:=by simp [upd]
    have e2:upd (cutN i (plM m f)) i (plM m f i) k=plM m f k:=by
      unfold upd; rw [if_neg (by omega),cutN_at hk]
    rw [e1,e2] at e; exact e
  · rintro⟨k,hk,e⟩
    refine⟨k,hk,?_⟩
    have e1:upd (cutN i (plM m f)) i (plM m f i) i=plM m f i:=by simp [upd]
    have e2:upd (cutN i (plM m f)) i (plM m f i) k=plM m f k:=by
      unfold upd; rw [if_neg (by omega),cutN_at hk]
    rw [e1,e2]; exact e
theorem among_no {m:N4} {f g:Nat→N4} {n i:Nat} {w:N4} (h:wE m f n=0) (hi:i < n) (hg:g=cutN i (plM m f)) (hw:w=plM m f i):decide (idxI (upd g i w) (upd g i w i) i ≥ 0)=false :=
  decide_eq_false fun h2=>by
    obtain⟨k,hk,e⟩:=(among hg hw).1 h2
    rw [wE_dup hi hk e] at h; cases h
theorem among_next {m : N4} {f g : Nat → N4} {i : Nat} {w : N4} (h0 : ∀ a, a < i → ∀ b, b < a → (plM m f a).val ≠ (plM m f b).val) (hg : g = cutN i (plM m f)) (hw : w = plM m f i) (h : ¬ idxI (upd g i w) (upd g i w i) i ≥ 0) :
    ∀ a,a < i+1→∀ b,b < a→(plM m f a).val≠(plM m f b).val:=fun a ha b hb e=>by
  by_cases hai:a=i
  · subst hai; exact h ((among hg hw).2 ⟨b,hb,e⟩)
  · exact h0 a (by omega) b hb e
theorem under_ok {m:N4} {f:Nat→N4} {n i:Nat} (h:wE m f n=0) (hi:i < n):invE m (underM m (plN m f n) i n)=0:=by
  rcases Decidable.em (invE m (underM m (plN m f n) i n)=0) with h1 | h1
  · exact h1
  · have:badM m f n=true:=decide_eq_true ⟨i,hi,h1⟩
    unfold wE at h
    rw [this] at h
    split at h <;> cases h
end Go.Eng
end
section
namespace Go.Eng
theorem bezout (a b:Nat):∃ x y:Int,(a:Int)*x+b*y=Nat.gcd a b:=by
  induction a,b using Nat.gcd.induction with
  | H0 n=>exact⟨0,1,by simp⟩
  | H1 m n hm ih =>
    obtain⟨x,y,h⟩:=ih
    refine⟨y - (n / m:Nat)*x,x,?_⟩
    rw [Nat.gcd_rec,← h]
    have hd:((n % m:Nat):Int)=n - m*(n / m:Nat):=by
      have:=Nat.mod_add_div n m
      have h2:((n % m+m*(n / m):Nat):Int)=n:=by rw [this]
      rw [Int.natCast_add,Int.natCast_mul] at h2
      omega
    rw [hd,Int.mul_sub,Int.sub_mul,← Int.mul_assoc]
    omega
def Inv (m:N4) (a:Int):Prop:=∃ t:Int,Cg m.val (a*t) 1
theorem Inv.congr {m:N4} {a b:Int} (h:Cg m.val a b):Inv m a→Inv m b:=fun⟨t,ht⟩=>⟨t,(h.symm.mul_r t).trans ht⟩
theorem invE_iff {m a:N4}:invE m a=0 ↔ Nat.gcd a.val m.val=1:=by
  unfold invE
  split
  · rename_i h; exact⟨fun _=>of_decide_eq_true h,fun _=>rfl⟩
  · rename_i h; exact⟨fun h2=>(by cases h2),fun h2=>absurd h2 (of_decide_eq_false h)⟩
theorem inv_ex {m a:N4} (hm:OddM m) (h:Nat.gcd a.val m.val=1):∃ t,InvP m a t:=by
  obtain⟨x,y,e⟩:=bezout a.val m.val
  rw [h] at e
  have hp:=hm.pos
  have hb:=hm.big
  have hx0:0≤x % (m.val:Int):=Int.emod_nonneg _ (by omega)
  have hxl:x % (m.val:Int) < m.val:=Int.emod_lt_of_pos _ (by omega)
  refine⟨N4.ofNat ((x % (m.val:Int)).toNat % m.val),?_,?_⟩
  · rw [ofNat_mod hm.pos]; exact Nat.mod_lt _ hm.pos
  · rw [ofNat_mod hm.pos,Nat.mul_mod_mod]
    have hc:Cg m.val ((a.val*(x % (m.val:Int)).toNat:Nat):Int) (1:Nat):=by
      rw [Int.natCast_mul,Int.toNat_of_nonneg hx0]
      refine⟨- y - a.val*(x / m.val),?_⟩
      have h3:=Int.emod_add_mul_ediv x m.val
      have h4:(a.val:Int)*(x % (m.val:Int))=a.val*x - m.val*(a.val*(x / m.val)):=by
        have:x % (m.val:Int)=x - m.val*(x / m.val):=by omega
        rw [this,Int.mul_sub,Int.mul_left_comm]
      rw [h4,Int.mul_sub,Int.mul_neg]
      omega
    rw [hc.to_mod,Nat.mod_eq_of_lt hb]
theorem invT_spec {m a:N4} (hm:OddM m) (h:invE m a=0):InvP m a (invT m a):=by
  obtain⟨t,ht⟩:=inv_ex hm (invE_iff.1 h)
  rw [invT_of ht]; exact ht
theorem invE_inv {m a:N4} (hm:OddM m):invE m a=0 ↔ Inv m a.val:=by
  constructor
  · intro h
    have:=invT_spec hm h
    refine⟨(invT m a).val,?_⟩
    rw [← Int.natCast_mul]
    have hb:=hm.big
    exact Cg.of_mod (by rw [this.2,Nat.mod_eq_of_lt hb])
  · rintro⟨t,c,hc⟩
    rw [invE_iff]
    have h1:((Nat.gcd a.val m.val:Nat):Int)∣(a.val:Int):=Int.natCast_dvd_natCast.2 (Nat.gcd_dvd_left _ _)
    have h2:((Nat.gcd a.val m.val:Nat):Int)∣(m.val:Int):=Int.natCast_dvd_natCast.2 (Nat.gcd_dvd_right _ _)
    have h3:((Nat.gcd a.val m.val:Nat):Int)∣1:=by
      have e:(1:Int)=a.val*t - m.val*c:=by omega
      rw [e]
      exact Int.dvd_sub (Int.dvd_trans h1 (Int.dvd_mul_right _ _)) (Int.dvd_trans h2 (Int.dvd_mul_right _ _))
    exact Nat.dvd_one.1 (Int.natCast_dvd_natCast.1 h3)
theorem invT_cg {m a:N4} (hm:OddM m) (h:invE m a=0):Cg m.val ((a.val:Int)*(invT m a).val) 1:=by
  have:=invT_spec hm h
  have hb:=hm.big
  rw [← Int.natCast_mul]
  exact Cg.of_mod (by rw [this.2,Nat.mod_eq_of_lt hb])
theorem times_cg {m:N4} (hm:OddM m) (a b:N4):Cg m.val ((timesM m a b).val:Int) (a.val*b.val):=by
  rw [timesM_val hm]
  exact Cg.mod_l.trans (Cg.of_eq (Int.natCast_mul _ _))
theorem plus_cg {m:N4} (hm:OddM m) (a b:N4):Cg m.val ((plusM m a b).val:Int) (a.val+b.val):=by
  rw [plusM_val hm]
  exact Cg.mod_l.trans (Cg.of_eq (Int.natCast_add _ _))
theorem minus_cg {m:N4} (hm:OddM m) (a b:N4):Cg m.val ((minusM m a b).val:Int) (a.val - b.val):=by
  rw [minusM_val hm]
  refine Cg.mod_l.trans ?_
  have hl:=Nat.mod_lt b.val hm.pos
  rw [Int.natCast_add,Int.ofNat_sub (Nat.le_of_lt hl)]
  have h1:Cg m.val ((b.val % m.val:Nat):Int) (b.val:Int):=Cg.mod_l
  have h2:Cg m.val (m.val:Int) 0:=⟨1,by omega⟩
  exact((Cg.rfl' (x:=(a.val:Int))).add (h2.sub h1)).trans (Cg.of_eq (by omega))
theorem n4_of_cg {m x y:N4} (hx:x.val < m.val) (hy:y.val < m.val) (h:Cg m.val (x.val:Int) y.val):x=y:=by
  have:=h.to_mod
  rw [Nat.mod_eq_of_lt hx,Nat.mod_eq_of_lt hy] at this
  exact N4.ext_val this
theorem plM_lt {m:N4} (hm:OddM m) (a b:N4):(plusM m a b).val < m.val:=by rw [plusM_val hm]; exact Nat.mod_lt _ hm.pos
theorem inv_times {m:N4} (hm:OddM m) {a b:N4}:Inv m (timesM m a b).val ↔ Inv m a.val∧Inv m b.val:=by
  constructor
  · intro h
    obtain⟨t,ht⟩:=h.congr (times_cg hm a b)
    refine⟨⟨b.val*t,?_⟩,⟨a.val*t,?_⟩⟩
    · exact(Cg.of_eq (by rw [Int.mul_assoc])).trans ht
    · exact(Cg.of_eq (by rw [Int.mul_left_comm,Int.mul_assoc])).trans ht
  · rintro⟨⟨t,ht⟩,⟨u,hu⟩⟩
    refine Inv.congr (times_cg hm a b).symm ⟨t*u,?_⟩
    have:=ht.mul hu
    exact(Cg.of_eq (by ac_rfl)).trans (this.trans (Cg.of_eq (Int.mul_one 1)))
theorem plM_val {m:N4} (hm:OddM m) (f:Nat→N4) (k:Nat):(plM m f k).val=(f k).val % m.val:=by
  show(plusM m ⟨0,0,0,0⟩ (f k)).val=_
  rw [plusM_val hm,val_zero,Nat.zero_add]
theorem plM_cg {m:N4} (hm:OddM m) (f:Nat→N4) (k:Nat):Cg m.val ((plM m f k).val:Int) (f k).val:=by rw [plM_val hm]; exact Cg.mod_l
theorem plN_congr {m:N4} {f g:Nat→N4} {n:Nat} (h:∀ k,k < n→f k=g k):plN m f n=plN m g n:=by
  funext k
  unfold plN cutN
  split
  · rename_i hk; unfold plM; rw [h k hk]
  · rfl
theorem wV_congr {m:N4} {f g:Nat→N4} {n:Nat} (h:∀ k,k < n→f k=g k):wV m f n=wV m g n:=by
  funext i; unfold wV; rw [plN_congr h]
theorem wE_congr {m:N4} {f g:Nat→N4} {n:Nat} (h:∀ k,k < n→f k=g k):wE m f n=wE m g n:=by
  have e1:dupM m f n=dupM m g n:=by
    unfold dupM
    congr 1
    apply propext
    constructor
    · rintro⟨i,hi,k,hk,e⟩; exact⟨i,hi,k,hk,by unfold plM at *; rw [← h i hi,← h k (by omega)]; exact e⟩
    · rintro⟨i,hi,k,hk,e⟩; exact⟨i,hi,k,hk,by unfold plM at *; rw [h i hi,h k (by omega)]; exact e⟩
  have e2:badM m f n=badM m g n:=by unfold badM; rw [plN_congr h]
  unfold wE; rw [e1,e2]
theorem cut_eq {n:Nat} {h:Nat→N4}:∀ k,k < n→cutN n h k=h k:=fun k hk=>cutN_at hk
theorem minus_pl {m:N4} (hm:OddM m) {f:Nat→N4} {n i k:Nat} (hi:i < n) (hk:k < n):minusM m (plN m f n k) (plN m f n i)=minusM m (f k) (f i):=by
  unfold plN
  rw [cutN_at hi,cutN_at hk]
  refine n4_of_cg (m:=m) (by rw [minusM_val hm]; exact Nat.mod_lt _ hm.pos) (by rw [minusM_val hm]; exact Nat.mod_lt _ hm.pos) ?_
  exact(minus_cg hm _ _).trans (((plM_cg hm f k).sub (plM_cg hm f i)).trans (minus_cg hm _ _).symm)
theorem inv_under {m:N4} (hm:OddM m) {F:Nat→N4} {i:Nat}:∀ n,Inv m (underM m F i n).val ↔ ∀ k,k < n→k≠i→Inv m (minusM m (F k) (F i)).val
  | 0=>⟨fun _ k hk=>by omega,fun _=>⟨1,Cg.of_eq (by show((N4.mk 1 0 0 0).val:Int)*1=1; rw [one_val]; rfl)⟩⟩
  | n+1=>by
    have ih:=inv_under hm (F:=F) (i:=i) n
    unfold underM
    by_cases e:n=i
    · rw [if_pos e,ih]
      exact⟨fun h k hk hki=>h k (by omega) hki,fun h k hk hki=>h k (by omega) hki⟩
    · rw [if_neg e,inv_times hm,ih]
      constructor
      · rintro⟨h1,h2⟩ k hk hki
        by_cases hkn:k=n
        · subst hkn; exact h2
        · exact h1 k (by omega) hki
      · intro h; exact⟨fun k hk hki=>h k (by omega) hki,h n (by omega) e⟩
theorem under_diff {m:N4} (hm:OddM m) {f:Nat→N4} {n i:Nat} (hi:i < n):invE m (underM m (plN m f n) i n)=0 ↔ ∀ k,k < n→k≠i→invE m (minusM m (f k) (f i))=0:=by
  rw [invE_inv hm,inv_under hm]
  constructor
  · intro h k hk hki; rw [invE_inv hm,← minus_pl hm hi hk]; exact h k hk hki
  · intro h k hk hki; rw [minus_pl hm hi hk,← invE_inv hm]; exact h k hk hki
theorem same_pl {m:N4} (hm:OddM m) {f:Nat→N4} {i k:Nat}:eq4 (minusM m (f i) (f k)) (N4.mk 0 0 0 0)=decide ((plM m f i).val=(plM m f k).val):=by
  rw [eq4_val]
  congr 1
  apply propext
  rw [val_zero,plM_val hm,plM_val hm]
  constructor
  · intro h
    have h1:=minus_cg hm (f i) (f k)
    rw [h] at h1
    have h2:Cg m.val ((f i).val:Int) (f k).val:=by
      have:=h1.symm.add (Cg.rfl' (x:=((f k).val:Int)))
      exact(Cg.of_eq (by omega)).trans (this.trans (Cg.of_eq (by omega)))
    exact h2.to_mod
  · intro h
    have h1:Cg m.val ((f i).val:Int) (f k).val:=Cg.of_mod h
    have h2:=(minus_cg hm (f i) (f k)).trans (h1.sub Cg.rfl')
    have h3:Cg m.val ((minusM m (f i) (f k)).val:Int) ((0:Nat):Int):=h2.trans (Cg.of_eq (by omega))
    have h4:=h3.to_mod
    have hl:(minusM m (f i) (f k)).val < m.val:=by rw [minusM_val hm]; exact Nat.mod_lt _ hm.pos
    rw [Nat.mod_eq_of_lt hl,Nat.zero_mod] at h4
    exact h4
def polI (f:Nat→N4) (x:Int):Nat→Int
  | 0=>0
  | k+1=>polI f x k+(f k).val*x ^ k
theorem mono_pf {m:Nat} (c:Int):∀ n,PF m (n+1) fun x=>c*x ^ n
  | 0=>⟨c,fun _=>0,PF.zero 0,fun x=>Cg.of_eq (by simp)⟩
  | n+1=>⟨0,fun x=>c*x ^ n,mono_pf c n,fun x=>Cg.of_eq (by show c*x ^ (n+1)=0+x*(c*x ^ n); rw [Int.pow_succ,Int.zero_add]; ac_rfl)⟩
theorem polI_pf {m:Nat} (f:Nat→N4):∀ n,PF m n fun x=>polI f x n
  | 0=>PF.zero 0
  | n+1=>(polI_pf f n).succ.add (mono_pf _ n)
theorem stepV_cg {m:N4} (hm:OddM m) (z:N4) (f:Nat→N4) (v:N4) (i:Nat):Cg m.val ((stepV m z f v i).val:Int) (z.val*v.val+(f i).val):=by
  show Cg m.val ((plusM m (plusM m ⟨0,0,0,0⟩ (timesM m z v)) (f i)).val:Int) _
  refine(plus_cg hm _ _).trans (Cg.add ?_ Cg.rfl')
  refine(plus_cg hm _ _).trans ?_
  rw [val_zero]
  exact(Cg.of_eq (by omega)).trans (times_cg hm z v)
theorem hor_cg {m:N4} (hm:OddM m) (z:N4) (f:Nat→N4) (n:Nat):∀ d k,d+k=n→Cg m.val ((((cameL n k).foldl (stepV m z f) ⟨0,0,0,0⟩).val:Int)*(z.val:Int) ^ k+polI f z.val k) (polI f z.val n)
  | 0,k,h=>by
    have:k=n:=by omega
    subst this
    rw [cameL_none]
    show Cg m.val (((N4.mk 0 0 0 0).val:Int)*_+_) _
    rw [val_zero]
    exact Cg.of_eq (by simp)
  | d+1,k,h=>by
    have ih:=hor_cg hm z f n d (k+1) (by omega)
    rw [cameL_next (by omega),List.foldl_append]
    show Cg m.val (((stepV m z f ((cameL n (k+1)).foldl (stepV m z f) ⟨0,0,0,0⟩) k).val:Int)*_+_) _
    refine(((stepV_cg hm z f _ k).mul_r _).add Cg.rfl').trans ?_
    refine Cg.trans (Cg.of_eq ?_) ih
    show _=_*(z.val:Int) ^ (k+1)+(polI f z.val k+(f k).val*(z.val:Int) ^ k)
    rw [Int.add_mul,Int.pow_succ]
    have e:(z.val:Int)*(((cameL n (k+1)).foldl (stepV m z f) ⟨0,0,0,0⟩).val:Int)*(z.val:Int) ^ k=(((cameL n (k+1)).foldl (stepV m z f) ⟨0,0,0,0⟩).val:Int)*((z.val:Int) ^ k*z.val):=by ac_rfl
    rw [e]; omega
theorem horM_cg {m:N4} (hm:OddM m) (z:N4) (f:Nat→N4) (n:Nat):Cg m.val ((horM m z f n).val:Int) (polI f z.val n):=by
  have:=hor_cg hm z f n n 0 (by omega)
  exact(Cg.of_eq (by simp [horM,polI])).trans this
theorem horM_lt {m:N4} (hm:OddM m) (z:N4) (f:Nat→N4) (n:Nat):(horM m z f n).val < m.val:=by
  unfold horM
  cases n with
  | zero=>have:=hm.pos; show(N4.mk 0 0 0 0).val < _; rw [val_zero]; exact this
  | succ n =>
    rw [cameL_next (by omega),List.foldl_append]
    exact plM_lt hm _ _
theorem powR_cg {m:N4} (hm:OddM m) (z:N4):∀ k,Cg m.val ((powR m z k).val:Int) ((z.val:Int) ^ k)
  | 0=>Cg.of_eq (by show((N4.mk 1 0 0 0).val:Int)=_; rw [one_val]; simp)
  | k+1=>(times_cg hm _ _).trans (((powR_cg hm z k).mul_r _).trans (Cg.of_eq (Int.pow_succ _ _).symm))
theorem sumM_cg {m:N4} (hm:OddM m) (f:Nat→N4):∀ n,Cg m.val ((sumM m f n).val:Int) (sumI (fun k=>(f k).val) n)
  | 0=>Cg.of_eq (by show((N4.mk 0 0 0 0).val:Int)=_; rw [val_zero]; rfl)
  | n+1=>(plus_cg hm _ _).trans ((sumM_cg hm f n).add Cg.rfl')
theorem sumM_lt {m:N4} (hm:OddM m) (f:Nat→N4):∀ n,(sumM m f n).val < m.val
  | 0=>by have:=hm.pos; show(N4.mk 0 0 0 0).val < _; rw [val_zero]; exact this
  | n+1=>plM_lt hm _ _
theorem sumM_congr {m:N4} {f g:Nat→N4}:∀ {n:Nat},(∀ k,k < n→f k=g k)→sumM m f n=sumM m g n
  | 0,_=>rfl
  | n+1,h=>by
    show plusM m (sumM m f n) (f n)=plusM m (sumM m g n) (g n)
    rw [sumM_congr (n:=n) fun k hk=>h k (by omega),h n (by omega)]
noncomputable def zV (m:N4) (f:Nat→N4 × N4) (n:Nat):N4:=sumM m (fun k=>timesM m (wV m (fun k=>(f k).1) n k) (f k).2) n
def xsP (f:Nat→N4 × N4):Nat→N4:=fun k=>(f k).1
theorem under_prod {m:N4} (hm:OddM m) {F:Nat→N4} {i:Nat}:∀ n,Cg m.val ((underM m F i n).val:Int) (prodX (fun k=>(F k).val) i (F i).val n)
  | 0=>Cg.of_eq (by show((N4.mk 1 0 0 0).val:Int)=_; rw [one_val]; rfl)
  | n+1=>by
    unfold underM prodX
    by_cases e:n=i
    · rw [if_pos e,if_pos e]; exact under_prod hm n
    · rw [if_neg e,if_neg e]
      exact(times_cg hm _ _).trans ((under_prod hm n).mul (minus_cg hm _ _))
theorem over_prod {m:N4} (hm:OddM m) {F:Nat→N4} {i:Nat}:∀ n,Cg m.val ((overM m F i n).val:Int) (prodX (fun k=>(F k).val) i 0 n)
  | 0=>Cg.of_eq (by show((N4.mk 1 0 0 0).val:Int)=_; rw [one_val]; rfl)
  | n+1=>by
    unfold overM prodX
    by_cases e:n=i
    · rw [if_pos e,if_pos e]; exact over_prod hm n
    · rw [if_neg e,if_neg e]
      exact(times_cg hm _ _).trans ((over_prod hm n).mul (Cg.of_eq (by omega)))
theorem tells {m : N4} (hm : OddM m) {f : Nat → N4} {n : Nat} {P : Int → Int} (hP : PF m.val n P) (hPc : ∀ x y, Cg m.val x y → Cg m.val (P x) (P y)) (h0 : wE m f n = 0) :
    Cg m.val (sumI (fun k=>(wV m f n k).val*P (f k).val) n) (P 0):=by
  have hF:∀ k,k < n→Cg m.val ((plN m f n k).val:Int) (f k).val:=fun k hk=>by unfold plN; rw [cutN_at hk]; exact plM_cg hm f k
  have hL:=lagrange (m:=m.val) (n:=n) (p:=P) (a:=fun k=>((plN m f n k).val:Int)) (v:=fun i=>((invT m (underM m (plN m f n) i n)).val:Int)) hP (fun i hi=>by
    have h1:=invT_cg hm (under_ok h0 hi)
    refine((under_prod hm n).symm.mul_l _).trans ?_
    exact(Cg.of_eq (Int.mul_comm _ _)).trans h1) 0
  refine Cg.trans (sumI_congr n fun i hi=>?_) hL
  refine(((times_cg hm _ _).trans ((over_prod hm n).mul_r _)).mul ((hPc _ _ (hF i hi)).symm)).trans (Cg.of_eq ?_)
  ac_rfl
end Go.Eng
end
section
namespace Go.Eng
theorem PF.cg {m:Nat}:∀ {n:Nat} {f:Int→Int},PF m n f→∀ x y,Cg m x y→Cg m (f x) (f y)
  | 0,f,h,x,y,_=>(h x).trans (h y).symm
  | n+1,f,⟨c,g,hg,h⟩,x,y,hxy=>(h x).trans ((Cg.rfl'.add (hxy.mul (hg.cg x y hxy))).trans (h y).symm)
theorem zV_lt {m:N4} (hm:OddM m) (f:Nat→N4 × N4) (n:Nat):(zV m f n).val < m.val:=sumM_lt hm _ n
theorem tells_zV {m:N4} (hm:OddM m) {f:Nat→N4 × N4} {n:Nat} (h0:wE m (xsP f) n=0) {P:Int→Int} (hP:PF m.val n P) (hv:∀ j,j < n→Cg m.val (P (f j).1.val) (f j).2.val):Cg m.val ((zV m f n).val:Int) (P 0):=by
  have h1:=tells hm (f:=xsP f) (n:=n) hP hP.cg h0
  refine Cg.trans ?_ h1
  unfold zV
  refine(sumM_cg hm _ n).trans (sumI_congr n fun i hi=>?_)
  exact(times_cg hm _ _).trans ((hv i hi).symm.mul_l _)
theorem tells_law {m:N4} (hm:OddM m) {fl fa:Nat→N4} {nl na:Nat} (hl:0 < nl∧nl≤na) (h0:wE m fa na=0):zV m (fun i=>(fa i,horM m (fa i) fl nl)) na=plusM m (fl 0) ⟨0,0,0,0⟩:=by
  refine n4_of_cg (zV_lt hm _ _) (plM_lt hm _ _) ?_
  have h1:=tells_zV hm (f:=fun i=>(fa i,horM m (fa i) fl nl)) (n:=na) h0 (P:=fun x=>polI fl x nl) ((polI_pf fl nl).le hl.2) (fun j _=>(horM_cg hm (fa j) fl nl).symm)
  refine h1.trans ?_
  have e:∀ k,0 < k→polI fl 0 k=(fl 0).val:=fun k hk=>by
    induction k with
    | zero=>omega
    | succ k ih =>
      show polI fl 0 k+(fl k).val*0 ^ k=_
      by_cases hk0:k=0
      · subst hk0; simp [polI]
      · rw [ih (by omega),Int.zero_pow hk0]; simp
  rw [e nl hl.1]
  refine Cg.trans ?_ (plus_cg hm _ _).symm
  rw [val_zero]; exact Cg.of_eq (by simp)
theorem wE_iff {m:N4} (hm:OddM m) {f:Nat→N4} {n:Nat}:wE m f n=if (∃ i,i < n∧∃ k,k < n∧k≠i∧(plM m f i).val=(plM m f k).val) then 13 else if (∃ i,i < n∧∃ k,k < n∧k≠i∧invE m (minusM m (f k) (f i))≠0) then 11 else 0:=by
  by_cases h1:∃ i,i < n∧∃ k,k < n∧k≠i∧(plM m f i).val=(plM m f k).val
  · rw [if_pos h1]
    obtain⟨i,hi,k,hk,hki,e⟩:=h1
    rcases Nat.lt_or_gt_of_ne hki with h | h
    · exact wE_dup hi h e
    · exact wE_dup hk h e.symm
  · rw [if_neg h1]
    have hn:∀ i,i < n→∀ k,k < i→(plM m f i).val≠(plM m f k).val:=fun i hi k hk e=>h1 ⟨i,hi,k,by omega,by omega,e⟩
    by_cases h2:∃ i,i < n∧∃ k,k < n∧k≠i∧invE m (minusM m (f k) (f i))≠0
    · rw [if_pos h2]
      obtain⟨i,hi,k,hk,hki,e⟩:=h2
      exact wE_bad hn hi fun hh=>e ((under_diff hm hi).1 hh k hk hki)
    · rw [if_neg h2]
      exact wE_ok hn fun i hi=>(under_diff hm hi).2 fun k hk hki=>Decidable.byContradiction fun e=>h2 ⟨i,hi,k,hk,hki,e⟩
end Go.Eng
end
