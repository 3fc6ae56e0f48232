/- Classes of numbers and how many there are; the cycles of a permutation; two numbers exchanged before it. Pure. -/
import Derived.Test.YtgjlhdggllakbaaGreatDoorVmRec
import Derived.Test.YtgjlhdggllakbaaGreatDoorVmTab
import Derived.KernelRfl
import Derived.Test.YtgjlhdggllakbaaGreatDoorVmArg
set_option linter.unusedVariables false
set_option linter.unusedSimpArgs false
set_option linter.unusedSectionVars false
namespace Go.Proofs.YtgjlhdggllakbaaGreatDoor.Vm
structure Eqv (E:Nat->Nat->Prop):Prop where
 rf:∀a,E a a
 sy:∀{a b},E a b->E b a
 tr:∀{a b c},E a b->E b c->E a c
section
variable {E F:Nat->Nat->Prop}{N:Nat}
def LeE (E:Nat->Nat->Prop)(c:Nat):Prop:=∀d,d<c->¬E c d
theorem Eqv.low (h:Eqv E):∀c,∃d,d≤c∧E c d∧LeE E d:=by
 intro c
 induction c using Nat.strongRecOn with
 | _ c ih =>
   by_cases hl:LeE E c
   ·exact ⟨c,Nat.le_refl _,h.rf c,hl⟩
   ·have:∃d,d<c/\E c d:=by
     apply Classical.byContradiction
     intro hn
     exact hl fun d hd he=>hn ⟨d,hd,he⟩
    obtain ⟨d,hd,he⟩:=this
    obtain ⟨e,h1,h2,h3⟩:=ih d hd
    exact ⟨e,by omega,h.tr he h2,h3⟩
theorem Eqv.least_eq (h:Eqv E){c d:Nat}(hc:LeE E c)(hd:LeE E d)(he:E c d):c=d:=by
 rcases Nat.lt_trichotomy c d with hlt | he' | hlt
 ·exact absurd (h.sy he) (hd c hlt)
 ·exact he'
 ·exact absurd he (hc d hlt)
open Classical in
noncomputable def cB (E:Nat->Nat->Prop)(N:Nat):List Nat:=(List.range N).filter fun c=>decide (LeE E c)
noncomputable def cD (E:Nat->Nat->Prop)(N:Nat):Nat:=(cB E N).length
theorem cn {c:Nat}:c∈cB E N↔c<N/\LeE E c:=by
 simp [cB]
theorem dj:(cB E N).Nodup:=List.Nodup.sublist List.filter_sublist List.nodup_range
theorem zU:(cB E N).Pairwise (·<·):=List.Pairwise.sublist List.filter_sublist List.pairwise_lt_range
theorem lI {α:Type}{l m:List α}(hl:l.Nodup)(hm:m.Nodup)(h:∀x,x∈l↔x∈m):l.Perm m:=(List.perm_ext_iff_of_nodup hl hm).2 h
structure Reps (E:Nat->Nat->Prop)(N:Nat)(R:List Nat):Prop where
 lt:∀r,r∈R->r<N
 dis:R.Pairwise fun a b=>¬E a b
 cov:∀c,c<N->∃r,r∈R/\E c r
open Classical in
noncomputable def fW (E:Nat->Nat->Prop)(c:Nat):Nat:=if h:∃d,d<=c/\E c d/\LeE E d then Classical.choose h else c
theorem bn (h:Eqv E)(c:Nat):fW E c<=c/\E c (fW E c)/\LeE E (fW E c):=by
 have hx:=h.low c
 unfold fW
 rw [dif_pos hx]
 exact Classical.choose_spec hx
theorem pM (h:Eqv E){c d:Nat}(he:E c d):fW E c=fW E d:=by
 obtain ⟨_,a2,a3⟩:=bn h c
 obtain ⟨_,b2,b3⟩:=bn h d
 exact h.least_eq a3 b3 (h.tr (h.sy a2) (h.tr he b2))
theorem rD (h:Eqv E){c d:Nat}:fW E c=fW E d↔E c d:=by
 refine ⟨fun e => ?_,pM h⟩
 obtain ⟨_,a2,a3⟩:=bn h c
 obtain ⟨_,b2,b3⟩:=bn h d
 rw [e] at a2
 exact h.tr a2 (h.sy b2)
theorem ru (h:Eqv E){c:Nat}(hc:LeE E c):fW E c=c:=by
 obtain ⟨_,a2,a3⟩:=bn h c
 exact (h.least_eq hc a3 a2).symm
theorem Reps.perm (h:Eqv E){R:List Nat}(hr:Reps E N R):(R.map (fW E)).Perm (cB E N):=by
 refine lI ?_ dj fun x => ?_
 ·rw [List.Nodup,List.pairwise_map]
  exact hr.dis.imp fun hne e=>hne ((rD h).1 e)
 ·rw [cn,List.mem_map]
  constructor
  ·rintro ⟨r,h1,rfl⟩
   have:=bn h r
   have:=hr.lt r h1
   exact ⟨by omega,(bn h r).2.2⟩
  ·rintro ⟨h1,h2⟩
   obtain ⟨r,h3,h4⟩:=hr.cov x h1
   exact ⟨r,h3,by rw [←pM h h4,ru h h2]⟩
theorem Reps.len (h:Eqv E){R:List Nat}(hr:Reps E N R):R.length=cD E N:=by
 have:=(hr.perm h).length_eq
 simpa [cD] using this
theorem Reps.mins (h:Eqv E):Reps E N (cB E N) where
 lt:=fun r hr=>(cn.1 hr).1
 dis:=(dj (E:=E) (N:=N)).imp_of_mem fun {a b} ha hb hne he=>hne (h.least_eq (cn.1 ha).2 (cn.1 hb).2 he)
 cov:=fun c hc=>by
  obtain ⟨a1,a2,a3⟩:=bn h c
  exact ⟨fW E c,cn.2 ⟨by omega,a3⟩,a2⟩
theorem Reps.weigh (h:Eqv E){R S:List Nat}(hr:Reps E N R)(hs:Reps E N S){α:Type}{w:Nat->α}(hw:∀c d,c<N->d<N->E c d->w c=w d):(R.map w).Perm (S.map w):=by
 have key:∀{R:List Nat},Reps E N R->R.map w=(R.map (fW E)).map w:=by
  intro R hr
  rw [List.map_map]
  refine List.map_congr_left fun r hm => ?_
  have h1:=hr.lt r hm
  obtain ⟨a1,a2,a3⟩:=bn h r
  exact hw _ _ h1 (by omega) a2
 rw [key hr,key hs]
 exact ((hr.perm h).trans (hs.perm h).symm).map w
def pW (E:Nat->Nat->Prop)(a b:Nat):Nat->Nat->Prop:=fun c d=>E c d\/(E c a/\E b d)\/(E c b/\E a d)
theorem rL (h:Eqv E)(a b:Nat):Eqv (pW E a b) where
 rf:=fun x=>Or.inl (h.rf x)
 sy:=by
  rintro x y (h1 | ⟨h1,h2⟩ | ⟨h1,h2⟩)
  ·exact Or.inl (h.sy h1)
  ·exact Or.inr (Or.inr ⟨h.sy h2,h.sy h1⟩)
  ·exact Or.inr (Or.inl ⟨h.sy h2,h.sy h1⟩)
 tr:=by
  rintro x y z (h1 | ⟨h1,h2⟩ | ⟨h1,h2⟩) (h3 | ⟨h3,h4⟩ | ⟨h3,h4⟩)
  ·exact Or.inl (h.tr h1 h3)
  ·exact Or.inr (Or.inl ⟨h.tr h1 h3,h4⟩)
  ·exact Or.inr (Or.inr ⟨h.tr h1 h3,h4⟩)
  ·exact Or.inr (Or.inl ⟨h1,h.tr h2 h3⟩)
  ·exact Or.inr (Or.inl ⟨h1,h4⟩)
  ·exact Or.inl (h.tr h1 h4)
  ·exact Or.inr (Or.inr ⟨h1,h.tr h2 h3⟩)
  ·exact Or.inl (h.tr h1 h4)
  ·exact Or.inr (Or.inr ⟨h1,h4⟩)
theorem rU {l:List Nat} (hn:l.Nodup) {x:Nat} (hx:x∈l):(l.filter fun y=>decide (y≠x)).length+1=l.length:=by
 induction l with
 | nil=>cases hx
 | cons y l ih =>
   rw [List.nodup_cons] at hn
   by_cases e:y=x
   ·subst e
    have:(l.filter fun z=>decide (z≠y))=l:=List.filter_eq_self.2 fun z hz=>by
     have:z≠y:=fun e=>hn.1 (e ▸ hz)
     simpa using this
    rw [List.filter_cons_of_neg (by simp),this];rfl
   ·have hx:x∈l:=by
     rcases List.mem_cons.1 hx with h | h
     ·exact absurd h.symm e
     ·exact h
    rw [List.filter_cons_of_pos (by simpa using e),List.length_cons,List.length_cons,ih hn.2 hx]
theorem mT (h:Eqv E) {a b:Nat} (ha:a<N) (hb:b<N) (hab:¬E a b):cD (pW E a b) N+1=cD E N:=by
 have hm:fW E b∈cB E N:=cn.2 ⟨by have:=bn h b;omega,(bn h b).2.2⟩
 have hr:Reps (pW E a b) N ((cB E N).filter fun y=>decide (y≠fW E b)):=by
  refine ⟨fun r hr=>(cn.1 (List.mem_filter.1 hr).1).1,?_,?_⟩
  ·have h1:(cB E N).Pairwise fun x y=>¬E x y:=(Reps.mins h).dis
   refine (List.Pairwise.sublist List.filter_sublist h1).imp_of_mem ?_
   rintro x y hx hy hne (h2 | ⟨h2,h3⟩ | ⟨h2,h3⟩)
   ·exact hne h2
   ·have hy2:=List.mem_filter.1 hy
    have:y=fW E b:=by rw [pM h h3,ru h (cn.1 hy2.1).2]
    simp [this] at hy2
   ·have hx2:=List.mem_filter.1 hx
    have:x=fW E b:=by rw [←pM h h2,ru h (cn.1 hx2.1).2]
    simp [this] at hx2
  ·intro c hc
   by_cases e:fW E c=fW E b
   ·have h1:fW E a≠fW E b:=fun e=>hab ((rD h).1 e)
    refine ⟨fW E a,List.mem_filter.2 ⟨cn.2 ⟨by have:=bn h a;omega,(bn h a).2.2⟩,by simpa using h1⟩,?_⟩
    exact Or.inr (Or.inr ⟨(rD h).1 e,(bn h a).2.1⟩)
   ·exact ⟨fW E c,List.mem_filter.2 ⟨cn.2 ⟨by have:=bn h c;omega,(bn h c).2.2⟩,by simpa using e⟩,Or.inl (bn h c).2.1⟩
 rw [←hr.len (rL h a b),rU dj hm];rfl
theorem jh (h:∀a b,a<N->b<N->(E a b↔F a b)):cD E N=cD F N:=by
 have:cB E N=cB F N:=by
  unfold cB
  refine List.filter_congr fun c hc => ?_
  have hc:=List.mem_range.1 hc
  rw [decide_eq_decide]
  constructor
  ·intro h1 d hd h2;exact h1 d hd ((h c d hc (by omega)).2 h2)
  ·intro h1 d hd h2;exact h1 d hd ((h c d hc (by omega)).1 h2)
 rw [cD,this];rfl
end
def itN (f:Nat->Nat):Nat->Nat->Nat
 | 0,c=>c
 | k+1,c=>f (itN f k c)
theorem cW (f:Nat->Nat)(j k c:Nat):itN f (j+k) c=itN f j (itN f k c):=by
 induction j with
 | zero=>simp [itN]
 | succ j ih=>rw [Nat.succ_add];simp [itN,ih]
theorem mA (f:Nat->Nat)(k c:Nat):itN f (k+1) c=itN f k (f c):=by rw [cW];rfl
structure PrN (N:Nat)(f:Nat->Nat):Prop where
 lt:∀c,c<N->f c<N
 inj:∀c d,c<N->d<N->f c=f d->c=d
section
variable {N:Nat}{f g:Nat->Nat}
theorem PrN.it (h:PrN N f){c:Nat}(hc:c<N):∀k,itN f k c<N
 | 0=>hc
 | k+1=>h.lt _ (h.it hc k)
theorem PrN.back (h:PrN N f){c:Nat}(hc:c<N):∀i k,itN f (i+k) c=itN f i c->itN f k c=c
 | 0,k,e=>by simpa [itN] using e
 | i+1,k,e=>by
   rw [Nat.succ_add] at e
   simp only [itN] at e
   exact h.back hc i k (h.inj _ _ (h.it hc _) (h.it hc _) e)
theorem dH:∀(m:Nat) (l:List Nat),l.Nodup→(∀x∈l,x<m)→l.length≤m
 | 0,l,_,h=>by
   cases l with
   | nil=>simp
   | cons x l=>have:=h x (by simp);omega
 | m + 1,l,hn,h=>by
   by_cases hm:m∈l
   ·have h1:=dH m (l.erase m) (hn.erase m) (fun x hx=>by
     have h2:=h x (List.mem_of_mem_erase hx)
     have h3:x≠m:=fun e=>by
      subst e
      exact (List.Nodup.mem_erase_iff hn).1 hx |>.1 rfl
     omega)
    have:=List.length_erase_of_mem hm
    have:0<l.length:=List.length_pos_of_mem hm
    omega
   ·have:=dH m l hn (fun x hx=>by
     have h2:=h x hx
     have h3:x≠m:=fun e=>hm (e ▸ hx)
     omega)
    omega
theorem PrN.per (h:PrN N f){c:Nat}(hc:c<N):∃k,0<k/\k<=N/\itN f k c=c:=by
 apply Classical.byContradiction
 intro hn
 have hnd:((List.range (N+1)).map fun i=>itN f i c).Nodup:=by
  rw [List.Nodup,List.pairwise_map]
  refine List.pairwise_lt_range.imp_of_mem ?_
  intro i j hi hj hlt e
  have hj:=List.mem_range.1 hj
  refine hn ⟨j-i,by omega,by omega,?_⟩
  refine h.back hc i (j-i) ?_
  rw [show i+(j-i)=j by omega];exact e.symm
 have:=dH N _ hnd (by
  intro x hx
  obtain ⟨i,_,rfl⟩:=List.mem_map.1 hx
  exact h.it hc i)
 simp at this
 omega
def Orb (N:Nat)(f:Nat->Nat):Nat->Nat->Prop:=fun c d=>c=d\/(c<N/\d<N/\∃k,itN f k c=d)
theorem lL {c k:Nat}(h:itN f k c=c):∀m,itN f (m*k) c=c
 | 0=>by simp [itN]
 | m+1=>by rw [Nat.add_mul,Nat.one_mul,cW,h,lL h m]
theorem PrN.eqv (h:PrN N f):Eqv (Orb N f) where
 rf:=fun _=>Or.inl rfl
 sy:=by
  rintro a b (rfl | ⟨ha,hb,k,hk⟩)
  ·exact Or.inl rfl
  ·obtain ⟨m,h1,_,h2⟩:=h.per ha
   refine Or.inr ⟨hb,ha,(k+1)*m-k,?_⟩
   rw [←hk,←cW]
   have:k<=(k+1)*m:=Nat.le_trans (by omega) (Nat.le_mul_of_pos_right (k+1) h1)
   rw [show (k+1)*m-k+k=(k+1)*m by omega]
   exact lL h2 _
 tr:=by
  rintro a b c (rfl | ⟨ha,hb,k,hk⟩) (rfl | ⟨hb',hc,j,hj⟩)
  ·exact Or.inl rfl
  ·exact Or.inr ⟨hb',hc,j,hj⟩
  ·exact Or.inr ⟨ha,hb,k,hk⟩
  ·exact Or.inr ⟨ha,hc,j+k,by rw [cW,hk,hj]⟩
theorem PrN.one (h:PrN N f){c:Nat}(hc:c<N):Orb N f c (f c):=Or.inr ⟨hc,h.lt c hc,1,rfl⟩
theorem PrN.orb (h:PrN N f){c:Nat}(hc:c<N)(k:Nat):Orb N f c (itN f k c):=Or.inr ⟨hc,h.it hc k,k,rfl⟩
theorem Orb.sub {E:Nat->Nat->Prop}(hE:Eqv E)(h:PrN N f)(hs:∀c,c<N->E c (f c)){c d:Nat}(ho:Orb N f c d):E c d:=by
 rcases ho with rfl | ⟨hc,hd,k,rfl⟩
 ·exact hE.rf _
 ·clear hd
  induction k with
  | zero=>exact hE.rf _
  | succ k ih=>exact hE.tr ih (hs _ (h.it hc k))
def swN (a b c:Nat):Nat:=if c=a then b else if c=b then a else c
theorem rM {a b c : Nat} (ha : a < N) (hb : b < N) (hc : c < N) : swN a b c < N := by unfold swN;split;· exact hb
                                                                                      ·split;· exact ha
                                                                                       ·exact hc
theorem Co {a b c:Nat}:swN a b (swN a b c)=c:=by
 unfold swN
 by_cases h1:c=a
 ·subst h1;simp only [if_true];split<;>simp_all
 ·by_cases h2:c=b
  ·subst h2;simp [h1]
  ·simp [h1,h2]
theorem ov {a b:Nat}:swN a b a=b:=by simp [swN]
theorem tW {a b:Nat}:swN a b b=a:=by unfold swN;split<;>simp_all
theorem my {a b c:Nat}(h1:c≠a)(h2:c≠b):swN a b c=c:=by simp [swN,h1,h2]
theorem PrN.sw (h:PrN N f){a b:Nat}(ha:a<N)(hb:b<N):PrN N fun c=>f (swN a b c) where
 lt:=fun c hc=>h.lt _ (rM ha hb hc)
 inj:=fun c d hc hd e=>by
  have:=h.inj _ _ (rM ha hb hc) (rM ha hb hd) e
  rw [←Co (a:=a) (b:=b) (c:=c),this,Co]
theorem gZ {p:Nat->Prop}{k:Nat}(h:p k):∃m,m<=k/\p m/\∀j,j<m->¬p j:=by
 induction k using Nat.strongRecOn with
 | _ k ih =>
   by_cases hx:∃j,j<k/\p j
   ·obtain ⟨j,h1,h2⟩:=hx
    obtain ⟨m,h3,h4,h5⟩:=ih j h1 h2
    exact ⟨m,by omega,h4,h5⟩
   ·exact ⟨k,Nat.le_refl _,h,fun j hj hp=>hx ⟨j,hj,hp⟩⟩
theorem OF (h:PrN N f) {a b:Nat} (ha:a<N) (hb:b<N) (hab:¬Orb N f a b):Orb N (fun c=>f (swN a b c)) a b:=by
 obtain ⟨k,h1,_,h2⟩:=h.per hb
 obtain ⟨m,_,⟨h3,h4⟩,h5⟩:=gZ (p:=fun m=>0<m/\itN f m b=b) ⟨h1,h2⟩
 have key:∀j,0<j->j<=m->itN (fun c=>f (swN a b c)) j a=itN f j b:=by
  intro j
  induction j with
  | zero=>intro h;omega
  | succ j ih =>
    intro _ hj
    by_cases h0:j=0
    ·subst h0;simp [itN,ov]
    ·simp only [itN]
     rw [ih (by omega) (by omega)]
     have e1:itN f j b≠a:=fun e=>hab (h.eqv.sy (Or.inr ⟨hb,ha,j,e⟩))
     have e2:itN f j b≠b:=fun e=>h5 j (by omega) ⟨by omega,e⟩
     rw [my e1 e2]
 exact Or.inr ⟨ha,hb,m,by rw [key m h3 (Nat.le_refl _),h4]⟩
theorem zt (h:PrN N f) {a b:Nat} (ha:a<N) (hb:b<N) (hab:¬Orb N f a b) {c d:Nat}:Orb N (fun c=>f (swN a b c)) c d↔pW (Orb N f) a b c d:=by
 have hp:=h.sw ha hb
 have hj:=OF h ha hb hab
 have hE:=rL h.eqv a b
 constructor
 ·refine Orb.sub hE hp fun c hc => ?_
  show pW (Orb N f) a b c (f (swN a b c))
  have hsw:pW (Orb N f) a b c (swN a b c):=by
   by_cases e1:c=a
   ·subst e1;rw [ov];exact Or.inr (Or.inl ⟨h.eqv.rf _,h.eqv.rf _⟩)
   ·by_cases e2:c=b
    ·subst e2;rw [tW];exact Or.inr (Or.inr ⟨h.eqv.rf _,h.eqv.rf _⟩)
    ·rw [my e1 e2];exact hE.rf _
  exact hE.tr hsw (Or.inl (h.one (rM ha hb hc)))
 ·have hs:∀{c d},Orb N f c d->Orb N (fun c=>f (swN a b c)) c d:=by
   intro c d
   refine Orb.sub hp.eqv h fun c hc => ?_
   by_cases e1:c=a
   ·subst e1
    refine hp.eqv.tr hj ?_
    have:=hp.one hb
    rwa [tW] at this
   ·by_cases e2:c=b
    ·subst e2
     refine hp.eqv.tr (hp.eqv.sy hj) ?_
     have:=hp.one ha
     rwa [ov] at this
    ·have:=hp.one hc
     rwa [my e1 e2] at this
  rintro (h1 | ⟨h1,h2⟩ | ⟨h1,h2⟩)
  ·exact hs h1
  ·exact hp.eqv.tr (hs h1) (hp.eqv.tr hj (hs h2))
  ·exact hp.eqv.tr (hs h1) (hp.eqv.tr (hp.eqv.sy hj) (hs h2))
theorem Pp (h:PrN N f) {a b:Nat} (ha:a<N) (hb:b<N) (hne:a≠b) (hab:Orb N f a b):¬Orb N (fun c=>f (swN a b c)) a b:=by
 have hba:=h.eqv.sy hab
 rcases hba with e | ⟨_,_,k,hk⟩
 ·exact absurd e.symm hne
 obtain ⟨m,_,h4,h5⟩:=gZ (p:=fun m=>itN f m b=a) hk
 have h3:0<m:=by
  rcases Nat.eq_zero_or_pos m with e | e
  ·subst e;exact absurd h4.symm hne
  ·exact e
 have nb:∀j,0<j->j<=m->itN f j b≠b:=by
  intro j h0 hj e
  refine h5 (m-j) (by omega) ?_
  rw [←h4]
  conv=>rhs;rw [show m=m-j+j by omega,cW,e]
 have key:∀j,0<j->j<=m->itN (fun c=>f (swN a b c)) j a=itN f j b:=by
  intro j
  induction j with
  | zero=>intro h;omega
  | succ j ih =>
    intro _ hj
    by_cases h0:j=0
    ·subst h0;simp [itN,ov]
    ·simp only [itN]
     rw [ih (by omega) (by omega)]
     rw [my (fun e=>h5 j (by omega) e) (nb j (by omega) (by omega))]
 have hper:itN (fun c=>f (swN a b c)) m a=a:=by rw [key m h3 (Nat.le_refl _),h4]
 rintro (e | ⟨_,_,j,hj⟩)
 ·exact hne e
 ·have e:itN (fun c=>f (swN a b c)) (j % m) a=b:=by
   have:j=j % m+j / m*m:=by rw [Nat.mul_comm];exact (Nat.mod_add_div j m).symm
   rw [this,cW,lL hper] at hj
   exact hj
  have hlt:=Nat.mod_lt j h3
  by_cases h0:j % m=0
  ·rw [h0] at e;exact hne e
  ·rw [key _ (by omega) (by omega)] at e
   exact nb _ (by omega) (by omega) e
theorem LX (h:PrN N f){a b:Nat}(ha:a<N)(hb:b<N)(hne:a≠b) :
 (¬Orb N f a b/\cD (Orb N fun c=>f (swN a b c)) N+1=cD (Orb N f) N)\/(Orb N f a b/\cD (Orb N fun c=>f (swN a b c)) N=cD (Orb N f) N+1):=by
 by_cases hab:Orb N f a b
 ·refine Or.inr ⟨hab,?_⟩
  have hp:=h.sw ha hb
  have hn:=Pp h ha hb hne hab
  have:=mT hp.eqv ha hb hn
  rw [←this]
  congr 1
  refine jh fun c d _ _ => ?_
  rw [←zt hp ha hb hn]
  have:(fun c=>f (swN a b (swN a b c)))=f:=by funext c;rw [Co]
  show Orb N (fun c=>f (swN a b (swN a b c))) c d↔Orb N f c d
  rw [this]
 ·refine Or.inl ⟨hab,?_⟩
  rw [←mT h.eqv ha hb hab]
  congr 1
  exact jh fun c d _ _=>zt h ha hb hab
end
def alf:List (Nat×Nat)->Nat->Nat
 | [],c=>c
 | s :: L,c=>alf L (swN s.1 s.2 c)
inductive SmOk (N:Nat):List (Nat×Nat)->Prop
 | nil:SmOk N []
 | cons {s:Nat×Nat} {L:List (Nat×Nat)}:SmOk N L->s.1<N->s.2<N->s.1≠s.2->(∀t∈L,t.1≠s.1/\t.1≠s.2/\t.2≠s.1/\t.2≠s.2)->SmOk N (s :: L)
section
variable {N P:Nat}{nx pc:Nat->Nat}{L:List (Nat×Nat)}
theorem jB:∀{L:List (Nat×Nat)} {c:Nat},(∀t∈L,t.1≠c/\t.2≠c)->alf L c=c
 | [],c,_=>rfl
 | s :: L,c,h=>by
   have h1:=h s (by simp)
   simp only [alf]
   rw [my (fun e=>h1.1 e.symm) (fun e=>h1.2 e.symm)]
   exact jB fun t ht=>h t (List.mem_cons_of_mem _ ht)
theorem SmOk.pr (h:SmOk N L):PrN N (alf L):=by
 induction h with
 | nil=>exact ⟨fun c hc=>hc,fun c d _ _ e=>e⟩
 | cons h h1 h2 h3 h4 ih=>exact ih.sw h1 h2
theorem fw {s:Nat×Nat}(h:SmOk N (s :: L)){c:Nat}:alf (s :: L) c=if c=s.1 then s.2 else if c=s.2 then s.1 else alf L c:=by
 cases h with
 | cons h h1 h2 h3 h4 =>
   have e1:alf L s.1=s.1:=jB fun t ht=>⟨(h4 t ht).1,(h4 t ht).2.2.1⟩
   have e2:alf L s.2=s.2:=jB fun t ht=>⟨(h4 t ht).2.1,(h4 t ht).2.2.2⟩
   simp only [alf]
   by_cases a1:c=s.1
   ·subst a1;rw [ov,e2,if_pos rfl]
   ·by_cases a2:c=s.2
    ·subst a2;rw [tW,e1,if_neg a1,if_pos rfl]
    ·rw [my a1 a2,if_neg a1,if_neg a2]
theorem SmOk.inv (h:SmOk N L) {c:Nat} (hc:c<N):alf L (alf L c)=c:=by
 induction h generalizing c with
 | nil=>rfl
 | @cons s L h h1 h2 h3 h4 ih =>
   have hh:SmOk N (s :: L):=.cons h h1 h2 h3 h4
   have e1:alf L s.1=s.1:=jB fun t ht=>⟨(h4 t ht).1,(h4 t ht).2.2.1⟩
   have e2:alf L s.2=s.2:=jB fun t ht=>⟨(h4 t ht).2.1,(h4 t ht).2.2.2⟩
   rw [fw hh (c:=c)]
   by_cases a1:c=s.1
   ·subst a1;rw [if_pos rfl,fw hh,if_neg (fun e=>h3 e.symm),if_pos rfl]
   ·by_cases a2:c=s.2
    ·subst a2;rw [if_neg a1,if_pos rfl,fw hh,if_pos rfl]
    ·rw [if_neg a1,if_neg a2,fw hh]
     have b1:alf L c≠s.1:=fun e=>a1 (h.pr.inj _ _ hc h1 (by rw [e,e1]))
     have b2:alf L c≠s.2:=fun e=>a2 (h.pr.inj _ _ hc h2 (by rw [e,e2]))
     rw [if_neg b1,if_neg b2]
     exact ih hc
def jK (L:List (Nat×Nat))(c:Nat):Bool:=decide (alf L c=c)
def fu (L:List (Nat×Nat))(N:Nat):List Nat:=(List.range N).filter (jK L)
theorem dZ {c:Nat}:jK L c=true↔alf L c=c:=by simp [jK]
theorem fp {c:Nat}:c∈fu L N↔c<N/\jK L c=true:=by simp [fu]
theorem j8:(fu L N).Nodup:=List.Nodup.sublist List.filter_sublist List.nodup_range
theorem ja (h:SmOk N L):(fu L N).length+2*L.length=N:=by
 induction h with
 | nil =>
   have:fu [] N=List.range N:=List.filter_eq_self.2 fun c _=>by simp [jK,alf]
   rw [this];simp
 | @cons s L h h1 h2 h3 h4 ih =>
   have hh:SmOk N (s :: L):=.cons h h1 h2 h3 h4
   have e1:alf L s.1=s.1:=jB fun t ht=>⟨(h4 t ht).1,(h4 t ht).2.2.1⟩
   have e2:alf L s.2=s.2:=jB fun t ht=>⟨(h4 t ht).2.1,(h4 t ht).2.2.2⟩
   have e:fu (s :: L) N=((fu L N).filter fun y=>decide (y≠s.1)).filter fun y=>decide (y≠s.2):=by
    simp only [fu,List.filter_filter]
    refine List.filter_congr fun c hc => ?_
    rw [Bool.eq_iff_iff]
    simp only [jK,decide_eq_true_eq,Bool.and_eq_true,decide_not,Bool.not_eq_true',decide_eq_false_iff_not]
    rw [fw hh]
    by_cases a1:c=s.1
    ·subst a1;simp [h3.symm]
    ·by_cases a2:c=s.2
     ·subst a2;simp [a1,h3]
     ·simp [a1,a2]
   have l1:=rU (l:=fu L N) j8 (x:=s.1) (fp.2 ⟨h1,dZ.2 e1⟩)
   have l2:=rU (l:=(fu L N).filter fun y=>decide (y≠s.1)) (List.Nodup.sublist List.filter_sublist j8) (x:=s.2) (List.mem_filter.2 ⟨fp.2 ⟨h2,dZ.2 e2⟩,by simpa using fun e=>h3 e.symm⟩)
   rw [e,List.length_cons];omega
def dw (pc:Nat->Nat):List (Nat×Nat)->Nat->Nat->Prop
 | []=>fun a b=>a=b
 | s :: L=>pW (dw pc L) (pc s.1) (pc s.2)
theorem ba:∀{L:List (Nat×Nat)},Eqv (dw pc L)
 | []=>⟨fun _=>rfl,fun h=>h.symm,fun h g=>h.trans g⟩
 | s :: L=>rL ba _ _
theorem nh {s:Nat×Nat}{a b:Nat}(h:dw pc L a b):dw pc (s :: L) a b:=Or.inl h
theorem th:∀{L:List (Nat×Nat)} {c:Nat},dw pc L (pc c) (pc (alf L c))
 | [],c=>rfl
 | s :: L,c=>by
   simp only [alf]
   have h1:dw pc (s :: L) (pc c) (pc (swN s.1 s.2 c)):=by
    by_cases e1:c=s.1
    ·rw [e1,ov];exact Or.inr (Or.inl ⟨ba.rf _,ba.rf _⟩)
    ·by_cases e2:c=s.2
     ·rw [e2,tW];exact Or.inr (Or.inr ⟨ba.rf _,ba.rf _⟩)
     ·rw [my e1 e2];exact ba.rf _
   exact ba.tr h1 (nh th)
def nuN (nx:Nat->Nat)(L:List (Nat×Nat))(c:Nat):Nat:=nx (alf L c)
theorem tP (hn:PrN N nx)(h:SmOk N L):PrN N (nuN nx L) where
 lt:=fun c hc=>hn.lt _ (h.pr.lt c hc)
 inj:=fun c d hc hd e=>h.pr.inj _ _ hc hd (hn.inj _ _ (h.pr.lt c hc) (h.pr.lt d hd) e)
theorem Nx {s:Nat×Nat}:nuN nx (s :: L)=fun c=>nuN nx L (swN s.1 s.2 c):=rfl
theorem Nu (hn:PrN N nx)(hpc:∀c,c<N->pc (nx c)=pc c)(h:SmOk N L){a b:Nat}(ho:Orb N (nuN nx L) a b):dw pc L (pc a) (pc b):=by
 refine Orb.sub (E:=fun a b=>dw pc L (pc a) (pc b)) ⟨fun _=>ba.rf _,fun h=>ba.sy h,fun h g=>ba.tr h g⟩ (tP hn h) (fun c hc => ?_) ho
 show dw pc L (pc c) (pc (nx (alf L c)))
 rw [hpc _ (h.pr.lt c hc)]
 exact th
theorem EB (hn:PrN N nx) (hpc:∀c,c<N→pc (nx c)=pc c) (hP:∀c,c<N→pc c<P) {s:Nat×Nat} (h:SmOk N (s :: L)) :
 (cD (dw pc (s :: L)) P=cD (dw pc L) P/\(cD (Orb N (nuN nx (s :: L))) N=cD (Orb N (nuN nx L)) N+1\/cD (Orb N (nuN nx (s :: L))) N+1=cD (Orb N (nuN nx L)) N)) \/
 (cD (dw pc (s :: L)) P+1=cD (dw pc L) P/\cD (Orb N (nuN nx (s :: L))) N+1=cD (Orb N (nuN nx L)) N):=by
 cases h with
 | cons h h1 h2 h3 h4 =>
   have hp:=tP hn h
   have hsame:dw pc L (pc s.1) (pc s.2)->cD (dw pc (s :: L)) P=cD (dw pc L) P:=by
    intro hs
    refine jh fun a b _ _ => ?_
    constructor
    ·rintro (g | ⟨g1,g2⟩ | ⟨g1,g2⟩)
     ·exact g
     ·exact ba.tr g1 (ba.tr hs g2)
     ·exact ba.tr g1 (ba.tr (ba.sy hs) g2)
    ·exact nh
   rw [Nx]
   rcases LX hp h1 h2 h3 with ⟨g1,g2⟩ | ⟨g1,g2⟩
   ·by_cases hs:dw pc L (pc s.1) (pc s.2)
    ·exact Or.inl ⟨hsame hs,Or.inr g2⟩
    ·exact Or.inr ⟨mT ba (hP _ h1) (hP _ h2) hs,g2⟩
   ·exact Or.inl ⟨hsame (Nu hn hpc h g1),Or.inl g2⟩
theorem RP (hn:PrN N nx) (hpc:∀c,c<N→pc (nx c)=pc c) (hP:∀c,c<N→pc c<P) (h0:cD (Orb N nx) N=P) (h:SmOk N L) :
 ∃g:Nat,2*cD (dw pc L) P+L.length=P+cD (Orb N (nuN nx L)) N+2*g:=by
 induction h with
 | nil =>
   refine ⟨0,?_⟩
   have e1:cD (dw pc []) P=P:=by
    have:cB (dw pc []) P=List.range P:=by
     unfold cB
     rw [List.filter_eq_self]
     intro c _
     simp only [decide_eq_true_eq]
     intro d hd he
     have:c=d:=he
     omega
    rw [cD,this,List.length_range]
   have e2:nuN nx []=nx:=rfl
   rw [e1,e2,h0];simp;omega
 | @cons s L h h1 h2 h3 h4 ih =>
   obtain ⟨g,hg⟩:=ih
   have hh:SmOk N (s :: L):=.cons h h1 h2 h3 h4
   rw [List.length_cons]
   rcases EB (P:=P) hn hpc hP hh with ⟨a1,a2 | a2⟩ | ⟨a1,a2⟩
   ·exact ⟨g,by omega⟩
   ·exact ⟨g+1,by omega⟩
   ·exact ⟨g,by omega⟩
end
section
variable {N P:Nat}{nx pc:Nat->Nat}{L:List (Nat×Nat)}
structure WkN (nx:Nat->Nat)(L:List (Nat×Nat))(c k d:Nat):Prop where
 it:itN (nuN nx L) k c=d
 nf:∀i,i<k->alf L (itN (nuN nx L) i c)≠itN (nuN nx L) i c
theorem WkN.zero {c:Nat}:WkN nx L c 0 c:=⟨rfl,fun i hi=>by omega⟩
theorem WkN.one {c:Nat}(h:alf L c≠c):WkN nx L c 1 (nuN nx L c):=⟨rfl,fun i hi=>by
 have:i=0:=by omega
 subst this;exact h⟩
theorem WkN.trans {c d e j k:Nat}(h:WkN nx L c k d)(g:WkN nx L d j e):WkN nx L c (j+k) e where
 it:=by rw [cW,h.it,g.it]
 nf:=fun i hi=>by
  by_cases hk:i<k
  ·exact h.nf i hk
  ·have:=g.nf (i-k) (by omega)
   rw [←h.it,←cW,show i-k+k=i by omega] at this
   exact this
theorem WkN.cut {c d e j k:Nat}(h:WkN nx L d k c)(g:WkN nx L d j e)(hk:k<=j):WkN nx L c (j-k) e where
 it:=by rw [←h.it,←cW,show j-k+k=j by omega,g.it]
 nf:=fun i hi=>by
  have:=g.nf (i+k) (by omega)
  rw [cW,h.it] at this
  exact this
theorem WkN.meet (hp:PrN N (nuN nx L)){c d e j k:Nat}(hc:c<N)(he:e<N)(h:WkN nx L c k d)(g:WkN nx L e j d)(hk:k<=j):WkN nx L e (j-k) c where
 it:=by
  have h1:itN (nuN nx L) k (itN (nuN nx L) (j-k) e)=itN (nuN nx L) k c:=by rw [←cW,show k+(j-k)=j by omega,g.it,h.it]
  have inj:∀k a b,a<N->b<N->itN (nuN nx L) k a=itN (nuN nx L) k b->a=b:=by
   intro k
   induction k with
   | zero=>intro a b _ _ e;exact e
   | succ k ih=>intro a b ha hb e;exact ih a b ha hb (hp.inj _ _ (hp.it ha k) (hp.it hb k) e)
  exact inj k _ _ (hp.it he _) hc h1
 nf:=fun i hi=>g.nf i (by omega)
def ptE (N:Nat)(nx:Nat->Nat)(L:List (Nat×Nat)):Nat->Nat->Prop:=fun c d=>c=d\/(c<N/\d<N/\∃k,WkN nx L c k d\/WkN nx L d k c)
theorem dK (hp:PrN N (nuN nx L)):Eqv (ptE N nx L) where
 rf:=fun _=>Or.inl rfl
 sy:=by
  rintro a b (rfl | ⟨ha,hb,k,h | h⟩)
  ·exact Or.inl rfl
  ·exact Or.inr ⟨hb,ha,k,Or.inr h⟩
  ·exact Or.inr ⟨hb,ha,k,Or.inl h⟩
 tr := by
  rintro a b c (rfl | ⟨ha,hb,k,h⟩) (rfl | ⟨hb',hc,j,g⟩)
  ·exact Or.inl rfl
  ·exact Or.inr ⟨hb',hc,j,g⟩
  ·exact Or.inr ⟨ha,hb,k,h⟩
  ·refine Or.inr ⟨ha,hc,?_⟩
   rcases h with h | h<;>rcases g with g | g
   ·exact ⟨_,Or.inl (h.trans g)⟩
   ·rcases Nat.le_total k j with hk | hk
    ·exact ⟨_,Or.inr (WkN.meet hp ha hc h g hk)⟩
    ·exact ⟨_,Or.inl (WkN.meet hp hc ha g h hk)⟩
   ·rcases Nat.le_total k j with hk | hk
    ·exact ⟨_,Or.inl (h.cut g hk)⟩
    ·exact ⟨_,Or.inr (g.cut h hk)⟩
   ·exact ⟨_,Or.inr (g.trans h)⟩
theorem DW (hp:PrN N (nuN nx L)){c d:Nat}(h:ptE N nx L c d):Orb N (nuN nx L) c d:=by
 rcases h with rfl | ⟨hc,hd,k,h | h⟩
 ·exact Or.inl rfl
 ·exact Or.inr ⟨hc,hd,k,h.it⟩
 ·exact hp.eqv.sy (Or.inr ⟨hd,hc,k,h.it⟩)
theorem wA {c d:Nat}(h:ptE N nx L c d)(hc:c<N):d<N:=by
 rcases h with rfl | ⟨_,hd,_⟩
 ·exact hc
 ·exact hd
theorem JG (hp:PrN N (nuN nx L)){c:Nat}(hc:c<N)(h:alf L c≠c):ptE N nx L c (nuN nx L c):=Or.inr ⟨hc,hp.lt c hc,1,Or.inl (.one h)⟩
theorem I6 {c d:Nat}(hc:alf L c=c)(hd:alf L d=d)(h:ptE N nx L c d):c=d:=by
 rcases h with rfl | ⟨_,_,k,h | h⟩
 ·rfl
 ·rcases Nat.eq_zero_or_pos k with e | e
  ·subst e;exact h.it
  ·exact absurd hc (h.nf 0 e)
 ·rcases Nat.eq_zero_or_pos k with e | e
  ·subst e;exact h.it.symm
  ·exact absurd hd (h.nf 0 e)
def dX (N:Nat)(nx:Nat->Nat)(L:List (Nat×Nat))(c:Nat):Prop:=∀d,ptE N nx L c d->alf L d≠d
theorem dX.iff (hp:PrN N (nuN nx L)){c d:Nat}(h:ptE N nx L c d):dX N nx L c↔dX N nx L d :=
 ⟨fun g e he=>g e ((dK hp).tr h he),fun g e he=>g e ((dK hp).tr ((dK hp).sy h) he)⟩
theorem dX.orb (hp:PrN N (nuN nx L)){c d:Nat}(hi:dX N nx L c)(h:Orb N (nuN nx L) c d):ptE N nx L c d:=by
 rcases h with rfl | ⟨hc,hd,k,h⟩
 ·exact Or.inl rfl
 ·refine Or.inr ⟨hc,hd,k,Or.inl ⟨h,?_⟩⟩
  intro i hi'
  clear h hi'
  have key:∀i,ptE N nx L c (itN (nuN nx L) i c):=by
   intro i
   induction i with
   | zero=>exact Or.inl rfl
   | succ i ih=>exact (dK hp).tr ih (JG hp (hp.it hc i) (hi _ ih))
  exact hi _ (key i)
theorem N3 (hp:PrN N (nuN nx L)){c:Nat}(hc:c<N):∃n,n<N/\(alf L (itN (nuN nx L) n c)=itN (nuN nx L) n c\/itN (nuN nx L) (n+1) c=c)/\∀i,i<n->alf L (itN (nuN nx L) i c)≠itN (nuN nx L) i c/\itN (nuN nx L) (i+1) c≠c:=by
 obtain ⟨m,h1,h2,h3⟩:=hp.per hc
 have h4:alf L (itN (nuN nx L) (m-1) c)=itN (nuN nx L) (m-1) c\/itN (nuN nx L) (m-1+1) c=c:=Or.inr (by rw [show m-1+1=m by omega];exact h3)
 obtain ⟨n,h5,h6,h7⟩:=gZ (p:=fun n=>alf L (itN (nuN nx L) n c)=itN (nuN nx L) n c\/itN (nuN nx L) (n+1) c=c) h4
 exact ⟨n,by omega,h6,fun i hi=>⟨fun e=>h7 i hi (Or.inl e),fun e=>h7 i hi (Or.inr e)⟩⟩
open Classical in
noncomputable def rnN (N:Nat)(nx:Nat->Nat)(L:List (Nat×Nat))(c:Nat):Nat:=if h:∃n,n<N/\(alf L (itN (nuN nx L) n c)=itN (nuN nx L) n c\/itN (nuN nx L) (n+1) c=c)/\∀i,i<n->alf L (itN (nuN nx L) i c)≠itN (nuN nx L) i c/\itN (nuN nx L) (i+1) c≠c then Classical.choose h else 0
theorem gM (hp:PrN N (nuN nx L)){c:Nat}(hc:c<N):rnN N nx L c<N/\(alf L (itN (nuN nx L) (rnN N nx L c) c)=itN (nuN nx L) (rnN N nx L c) c\/itN (nuN nx L) (rnN N nx L c+1) c=c)/\∀i,i<rnN N nx L c->alf L (itN (nuN nx L) i c)≠itN (nuN nx L) i c/\itN (nuN nx L) (i+1) c≠c:=by
 have hx:=N3 (L:=L) hp hc
 unfold rnN
 rw [dif_pos hx]
 exact Classical.choose_spec hx
noncomputable def qu (N:Nat)(nx:Nat->Nat)(L:List (Nat×Nat))(c:Nat):List Nat:=(List.range (rnN N nx L c+1)).map fun i=>itN (nuN nx L) i c
theorem Ba (hp:PrN N (nuN nx L)){c:Nat}(hc:c<N):(qu N nx L c).Nodup:=by
 obtain ⟨h1,h2,h3⟩:=gM (L:=L) hp hc
 rw [qu,List.Nodup,List.pairwise_map]
 refine List.pairwise_lt_range.imp_of_mem ?_
 intro i j hi hj hlt e
 have hj:=List.mem_range.1 hj
 have:=hp.back hc i (j-i) (by rw [show i+(j-i)=j by omega];exact e.symm)
 have h4:=(h3 (j-i-1) (by omega)).2
 rw [show j-i-1+1=j-i by omega] at h4
 exact h4 this
def iW (N:Nat)(nx:Nat->Nat)(L:List (Nat×Nat))(c:Nat):Prop:=∀x,x<N->nuN nx L x=c->alf L x=x
theorem yk {s:Nat}(hp:PrN N (nuN nx L))(hs:s<N)(hf:alf L s=s):iW N nx L (nuN nx L s):=by
 intro x hx e
 have:=hp.inj _ _ hx hs e
 subst this;exact hf
theorem s5 (hp:PrN N (nuN nx L)){c:Nat}(hc:c<N)(hs:iW N nx L c):alf L (itN (nuN nx L) (rnN N nx L c) c)=itN (nuN nx L) (rnN N nx L c) c:=by
 obtain ⟨h1,h2,h3⟩:=gM (L:=L) hp hc
 rcases h2 with h2 | h2
 ·exact h2
 ·exact hs _ (hp.it hc _) h2
theorem qH (hp:PrN N (nuN nx L)){c:Nat}(hc:c<N){i:Nat}(hi:i<=rnN N nx L c):ptE N nx L c (itN (nuN nx L) i c) :=
 Or.inr ⟨hc,hp.it hc i,i,Or.inl ⟨rfl,fun j hj=>((gM (L:=L) hp hc).2.2 j (by omega)).1⟩⟩
theorem IM (hp:PrN N (nuN nx L)) {c d:Nat} (hc:c<N) (hs:iW N nx L c∨dX N nx L c):ptE N nx L c d↔d∈qu N nx L c:=by
 obtain ⟨h1,h2,h3⟩:=gM (L:=L) hp hc
 simp only [qu,List.mem_map,List.mem_range]
 constructor
 ·rintro (rfl | ⟨_,hd,k,h | h⟩)
  ·exact ⟨0,by omega,rfl⟩
  ·by_cases hk:k<=rnN N nx L c
   ·exact ⟨k,by omega,h.it⟩
   ·have h4:itN (nuN nx L) (rnN N nx L c+1) c=c:=by
     rcases h2 with h2 | h2
     ·exact absurd h2 (h.nf _ (by omega))
     ·exact h2
    refine ⟨k % (rnN N nx L c+1),Nat.mod_lt _ (by omega),?_⟩
    have h5:=h.it
    have e:k=k % (rnN N nx L c+1)+k / (rnN N nx L c+1)*(rnN N nx L c+1):=by rw [Nat.mul_comm];exact (Nat.mod_add_div k _).symm
    rw [e,cW,lL h4] at h5
    exact h5
  ·rcases hs with hs | hs
   ·rcases Nat.eq_zero_or_pos k with e | e
    ·subst e;exact ⟨0,by omega,h.it.symm⟩
    ·obtain ⟨k,rfl⟩:=Nat.exists_eq_add_of_lt e
     rw [Nat.zero_add] at h
     exact absurd (hs _ (hp.it hd k) h.it) (h.nf k (by omega))
   ·have h4:itN (nuN nx L) (rnN N nx L c+1) c=c:=by
     rcases h2 with h2 | h2
     ·exact absurd h2 (hs _ (qH hp hc (Nat.le_refl _)))
     ·exact h2
    have h5:d=itN (nuN nx L) ((k+1)*(rnN N nx L c+1)-k) c:=by
     have inj:∀k a b,a<N->b<N->itN (nuN nx L) k a=itN (nuN nx L) k b->a=b:=by
      intro k
      induction k with
      | zero=>intro a b _ _ e;exact e
      | succ k ih=>intro a b ha hb e;exact ih a b ha hb (hp.inj _ _ (hp.it ha k) (hp.it hb k) e)
     refine inj k _ _ hd (hp.it hc _) ?_
     have hk:k<=(k+1)*(rnN N nx L c+1):=Nat.le_trans (by omega) (Nat.le_mul_of_pos_right (k+1) (by omega))
     rw [h.it,←cW,show k+((k+1)*(rnN N nx L c+1)-k)=(k+1)*(rnN N nx L c+1) by omega,lL h4]
    generalize (k+1)*(rnN N nx L c+1)-k=q at h5
    refine ⟨q % (rnN N nx L c+1),Nat.mod_lt _ (by omega),?_⟩
    have e:q=q % (rnN N nx L c+1)+q / (rnN N nx L c+1)*(rnN N nx L c+1):=by rw [Nat.mul_comm];exact (Nat.mod_add_div q _).symm
    rw [e,cW,lL h4] at h5
    exact h5.symm
 ·rintro ⟨i,hi,rfl⟩
  exact qH hp hc (by omega)
theorem AG (hp:PrN N (nuN nx L)){c:Nat}(hc:c<N)(hi:¬dX N nx L c):∃s,s<N/\iW N nx L s/\ptE N nx L c s:=by
 have:∃d,ptE N nx L c d/\alf L d=d:=by
  apply Classical.byContradiction
  intro hn
  exact hi fun d hd e=>hn ⟨d,hd,e⟩
 obtain ⟨d,hd,hf⟩:=this
 have hdl:=wA hd hc
 obtain ⟨m,h1,_,h2⟩:=hp.per hdl
 obtain ⟨j,_,h4,h5⟩:=gZ (p:=fun j=>alf L (itN (nuN nx L) (m-1-j) d)=itN (nuN nx L) (m-1-j) d) (k:=m-1) (by simpa [itN] using hf)
 have hjm:j<=m-1:=by omega
 refine ⟨nuN nx L (itN (nuN nx L) (m-1-j) d),hp.lt _ (hp.it hdl _),yk hp (hp.it hdl _) h4,(dK hp).tr hd ((dK hp).sy ?_)⟩
 refine Or.inr ⟨hp.lt _ (hp.it hdl _),hdl,j,Or.inl ⟨?_,?_⟩⟩
 ·rw [←mA,←cW,show j+1+(m-1-j)=m by omega,h2]
 ·intro i hij
  rw [←mA,←cW]
  have:=h5 (j-1-i) (by omega)
  rw [show m-1-(j-1-i)=i+1+(m-1-j) by omega] at this
  exact this
theorem qa {c:Nat}(hp:PrN N (nuN nx L))(hc:c<N)(hs:iW N nx L c):¬dX N nx L c:=fun h =>
 h _ (qH hp hc (Nat.le_refl _)) (s5 hp hc hs)
theorem MI (hp:PrN N (nuN nx L)){c d:Nat}(hc:iW N nx L c)(hd:iW N nx L d)(h:ptE N nx L c d):c=d:=by
 rcases h with rfl | ⟨h1,h2,k,h | h⟩
 ·rfl
 ·rcases Nat.eq_zero_or_pos k with e | e
  ·subst e;exact h.it
  ·obtain ⟨k,rfl⟩:=Nat.exists_eq_add_of_lt e
   rw [Nat.zero_add] at h
   exact absurd (hd _ (hp.it h1 k) h.it) (h.nf k (by omega))
 ·rcases Nat.eq_zero_or_pos k with e | e
  ·subst e;exact h.it.symm
  ·obtain ⟨k,rfl⟩:=Nat.exists_eq_add_of_lt e
   rw [Nat.zero_add] at h
   exact absurd (hc _ (hp.it h2 k) h.it) (h.nf k (by omega))
open Classical in
noncomputable def fK (E:Nat->Nat->Prop)(N c:Nat):List Nat:=(List.range N).filter fun d=>decide (E c d)
theorem eE {E:Nat->Nat->Prop}{c d:Nat}:d∈fK E N c↔d<N/\E c d:=by simp [fK]
theorem lA {E:Nat->Nat->Prop}{c:Nat}:(fK E N c).Nodup:=List.Nodup.sublist List.filter_sublist List.nodup_range
theorem ym {E:Nat->Nat->Prop}{c:Nat}:(fK E N c).Pairwise (·<·):=List.Pairwise.sublist List.filter_sublist List.pairwise_lt_range
theorem ro {E:Nat->Nat->Prop}(h:Eqv E){c d:Nat}(he:E c d):fK E N c=fK E N d:=by
 unfold fK
 refine List.filter_congr fun x _ => ?_
 rw [decide_eq_decide]
 exact ⟨fun g=>h.tr (h.sy he) g,fun g=>h.tr he g⟩
theorem tK (hp:PrN N (nuN nx L)){c:Nat}(hc:c<N)(hs:iW N nx L c\/dX N nx L c):(qu N nx L c).Perm (fK (ptE N nx L) N c) :=
 lI (Ba hp hc) lA fun x=>by
  rw [eE,←IM hp hc hs]
  exact ⟨fun h=>⟨wA h hc,h⟩,fun h=>h.2⟩
theorem nA {E:Nat->Nat->Prop}(h:Eqv E){R:List Nat}(hr:Reps E N R):((R.map (fK E N)).flatten).Perm (List.range N):=by
 refine lI ?_ List.nodup_range fun x => ?_
 ·rw [List.Nodup,List.pairwise_flatten]
  refine ⟨?_,?_⟩
  ·intro l hl
   obtain ⟨c,_,rfl⟩:=List.mem_map.1 hl
   exact lA
  ·rw [List.pairwise_map]
   refine hr.dis.imp fun {a b} hne x hx y hy e => ?_
   subst e
   exact hne (h.tr (eE.1 hx).2 (h.sy (eE.1 hy).2))
 ·simp only [List.mem_flatten,List.mem_map,List.mem_range]
  constructor
  ·rintro ⟨l,⟨c,_,rfl⟩,hx⟩
   exact (eE.1 hx).1
  ·intro hx
   obtain ⟨r,h1,h2⟩:=hr.cov x hx
   exact ⟨_,⟨r,h1,rfl⟩,eE.2 ⟨hx,h.sy h2⟩⟩
open Classical in
noncomputable def dn (N:Nat)(nx:Nat->Nat)(L:List (Nat×Nat)):List Nat:=(cB (ptE N nx L) N).filter fun c=>decide (dX N nx L c)
theorem cY {c:Nat}:c∈dn N nx L↔(c<N/\LeE (ptE N nx L) c)/\dX N nx L c:=by
 simp only [dn,List.mem_filter,cn,decide_eq_true_eq]
theorem vT:(dn N nx L).Pairwise (·<·):=List.Pairwise.sublist List.filter_sublist zU
theorem td (hp:PrN N (nuN nx L)):Reps (ptE N nx L) N (dn N nx L++fu L N) where
 lt:=fun r hr=>by
  rcases List.mem_append.1 hr with h | h
  ·exact (cY.1 h).1.1
  ·exact (fp.1 h).1
 dis := by
  rw [List.pairwise_append]
  refine ⟨?_,?_,?_⟩
  ·refine (vT (N:=N) (nx:=nx) (L:=L)).imp_of_mem ?_
   intro a b ha hb hlt he
   exact absurd ((dK hp).least_eq (cY.1 ha).1.2 (cY.1 hb).1.2 he) (by omega)
  ·refine (j8 (L:=L) (N:=N)).imp_of_mem ?_
   intro a b ha hb hne he
   exact hne (I6 (dZ.1 (fp.1 ha).2) (dZ.1 (fp.1 hb).2) he)
  ·intro a ha b hb he
   exact (cY.1 ha).2 b he (dZ.1 (fp.1 hb).2)
 cov := fun c hc=>by
  by_cases hi:dX N nx L c
  ·obtain ⟨a1,a2,a3⟩:=bn (dK hp) c
   exact ⟨_,List.mem_append_left _ (cY.2 ⟨⟨by omega,a3⟩,(dX.iff hp a2).1 hi⟩),a2⟩
  ·have:∃d,ptE N nx L c d/\alf L d=d:=by
    apply Classical.byContradiction
    intro hn
    exact hi fun d hd e=>hn ⟨d,hd,e⟩
   obtain ⟨d,hd,hf⟩:=this
   exact ⟨d,List.mem_append_right _ (fp.2 ⟨wA hd hc,dZ.2 hf⟩),hd⟩
open Classical in
noncomputable def pf (N:Nat)(nx:Nat->Nat)(L:List (Nat×Nat)):List Nat:=(List.range N).filter fun c=>decide (iW N nx L c)
theorem iZ {c:Nat}:c∈pf N nx L↔c<N/\iW N nx L c:=by simp [pf]
theorem Iu (hp:PrN N (nuN nx L)):Reps (ptE N nx L) N (pf N nx L++dn N nx L) where
 lt:=fun r hr=>by
  rcases List.mem_append.1 hr with h | h
  ·exact (iZ.1 h).1
  ·exact (cY.1 h).1.1
 dis := by
  rw [List.pairwise_append]
  refine ⟨?_,?_,?_⟩
  ·have:(pf N nx L).Nodup:=List.Nodup.sublist List.filter_sublist List.nodup_range
   refine this.imp_of_mem ?_
   intro a b ha hb hne he
   exact hne (MI hp (iZ.1 ha).2 (iZ.1 hb).2 he)
  ·refine (vT (N:=N) (nx:=nx) (L:=L)).imp_of_mem ?_
   intro a b ha hb hlt he
   exact absurd ((dK hp).least_eq (cY.1 ha).1.2 (cY.1 hb).1.2 he) (by omega)
  ·intro a ha b hb he
   exact qa hp (iZ.1 ha).1 (iZ.1 ha).2 ((dX.iff hp he).2 (cY.1 hb).2)
 cov := fun c hc=>by
  by_cases hi:dX N nx L c
  ·obtain ⟨a1,a2,a3⟩:=bn (dK hp) c
   exact ⟨_,List.mem_append_right _ (cY.2 ⟨⟨by omega,a3⟩,(dX.iff hp a2).1 hi⟩),a2⟩
  ·obtain ⟨s,h1,h2,h3⟩:=AG hp hc hi
   exact ⟨s,List.mem_append_left _ (iZ.2 ⟨h1,h2⟩),h3⟩
noncomputable def sgN (N:Nat)(nx:Nat->Nat)(L:List (Nat×Nat))(s:Nat):Nat:=if alf L s=s then itN (nuN nx L) (rnN N nx L (nuN nx L s)) (nuN nx L s) else s
theorem px (hp:PrN N (nuN nx L)){s:Nat}(hs:s<N)(hf:alf L s=s):alf L (sgN N nx L s)=sgN N nx L s:=by
 simp only [sgN,hf,if_true]
 exact s5 hp (hp.lt _ hs) (yk hp hs hf)
theorem JU (hp:PrN N (nuN nx L)){s:Nat}(hs:s<N)(hf:alf L s=s):WkN nx L (nuN nx L s) (rnN N nx L (nuN nx L s)) (sgN N nx L s) :=
 ⟨by simp [sgN,hf],fun i hi=>((gM (L:=L) hp (hp.lt _ hs)).2.2 i hi).1⟩
theorem kZ (hp:PrN N (nuN nx L)):PrN N (sgN N nx L) where
 lt:=fun c hc=>by
  unfold sgN;split
  ·exact hp.it (hp.lt _ hc) _
  ·exact hc
 inj := by
  intro c d hc hd e
  by_cases fc:alf L c=c<;>by_cases fd:alf L d=d
  ·have w1:=JU hp hc fc
   have w2:=JU hp hd fd
   rw [←e] at w2
   have key:∀{c d j k x},c<N->d<N->alf L c=c->alf L d=d->WkN nx L (nuN nx L c) k x->WkN nx L (nuN nx L d) j x->k<=j->c=d:=by
    intro c d j k x hc hd fc fd w1 w2 hk
    have w:=WkN.meet hp (hp.lt _ hc) (hp.lt _ hd) w1 w2 hk
    rcases Nat.eq_zero_or_pos (j-k) with e | e
    ·rw [e] at w
     exact (hp.inj _ _ hd hc w.it).symm
    ·obtain ⟨q,hq⟩:=Nat.exists_eq_add_of_lt e
     rw [Nat.zero_add] at hq
     rw [hq] at w
     have h1:=hp.inj _ _ (hp.it (hp.lt _ hd) q) hc w.it
     have h2:=w.nf q (by omega)
     rw [h1] at h2
     exact absurd fc h2
   rcases Nat.le_total (rnN N nx L (nuN nx L c)) (rnN N nx L (nuN nx L d)) with h | h
   ·exact key hc hd fc fd w1 w2 h
   ·exact (key hd hc fd fc w2 w1 h).symm
  ·have:=px hp hc fc
   rw [e] at this
   simp only [sgN,fd,if_false] at this
  ·have:=px hp hd fd
   rw [←e] at this
   simp only [sgN,fc,if_false] at this
  ·simpa [sgN,fc,fd] using e
theorem Q4 (hp:PrN N (nuN nx L)){c:Nat}(hc:c<N):Orb N (nuN nx L) c (sgN N nx L c):=by
 by_cases hf:alf L c=c
 ·have:=hp.eqv.tr (hp.one hc) (hp.orb (hp.lt _ hc) (rnN N nx L (nuN nx L c)))
  simpa [sgN,hf] using this
 ·simp only [sgN,hf,if_false];exact Or.inl rfl
theorem BG (hp:PrN N (nuN nx L)){c d:Nat}(h:Orb N (sgN N nx L) c d):Orb N (nuN nx L) c d:=Orb.sub hp.eqv (kZ hp) (fun c hc=>Q4 hp hc) h
theorem Rr (hp:PrN N (nuN nx L)):∀(k:Nat) {c d:Nat},c<N→alf L c=c→alf L d=d→itN (nuN nx L) k c=d→Orb N (sgN N nx L) c d:=by
 intro k
 induction k using Nat.strongRecOn with
 | _ k ih =>
   intro c d hc fc fd h
   rcases Nat.eq_zero_or_pos k with e | e
   ·subst e;exact Or.inl h
   ·have w:=JU hp hc fc
    have hle:rnN N nx L (nuN nx L c)+1<=k:=by
     rcases Nat.lt_or_ge (rnN N nx L (nuN nx L c)) k with h1 | h1
     ·exact h1
     ·have:=w.nf (k-1) (by omega)
      rw [←mA,show k-1+1=k by omega,h] at this
      exact absurd fd this
    have h2:itN (nuN nx L) (k-(rnN N nx L (nuN nx L c)+1)) (sgN N nx L c)=d:=by
     rw [←w.it,←mA,←cW,show k-(rnN N nx L (nuN nx L c)+1)+(rnN N nx L (nuN nx L c)+1)=k by omega,h]
    have:=ih (k-(rnN N nx L (nuN nx L c)+1)) (by omega) ((kZ hp).lt c hc) (px hp hc fc) fd h2
    exact (kZ hp).eqv.tr ((kZ hp).one hc) this
theorem JQ (hp:PrN N (nuN nx L)){c d:Nat}(fc:alf L c=c)(fd:alf L d=d):Orb N (sgN N nx L) c d↔Orb N (nuN nx L) c d:=by
 refine ⟨BG hp,?_⟩
 rintro (rfl | ⟨hc,hd,k,h⟩)
 ·exact Or.inl rfl
 ·exact Rr hp k hc fc fd h
theorem lV (hp:PrN N (nuN nx L)){c d:Nat}(hf:alf L c=c)(h:Orb N (sgN N nx L) c d):alf L d=d:=by
 rcases h with rfl | ⟨hc,hd,k,rfl⟩
 ·exact hf
 ·clear hd
  induction k with
  | zero=>exact hf
  | succ k ih=>exact px hp ((kZ hp).it hc k) ih
noncomputable def iz (N:Nat)(nx:Nat->Nat)(L:List (Nat×Nat)):List Nat:=(cB (Orb N (sgN N nx L)) N).filter (jK L)
theorem dS {c:Nat}:c∈iz N nx L↔(c<N/\LeE (Orb N (sgN N nx L)) c)/\alf L c=c:=by
 simp only [iz,List.mem_filter,cn,dZ]
theorem ES (hp:PrN N (nuN nx L)):Reps (Orb N (nuN nx L)) N (dn N nx L++iz N nx L) where
 lt:=fun r hr=>by
  rcases List.mem_append.1 hr with h | h
  ·exact (cY.1 h).1.1
  ·exact (dS.1 h).1.1
 dis := by
  rw [List.pairwise_append]
  refine ⟨?_,?_,?_⟩
  ·refine (vT (N:=N) (nx:=nx) (L:=L)).imp_of_mem ?_
   intro a b ha hb hlt he
   exact absurd ((dK hp).least_eq (cY.1 ha).1.2 (cY.1 hb).1.2 (dX.orb hp (cY.1 ha).2 he)) (by omega)
  ·have:(iz N nx L).Nodup:=List.Nodup.sublist List.filter_sublist dj
   refine this.imp_of_mem ?_
   intro a b ha hb hne he
   exact hne ((kZ hp).eqv.least_eq (dS.1 ha).1.2 (dS.1 hb).1.2 ((JQ hp (dS.1 ha).2 (dS.1 hb).2).2 he))
  ·intro a ha b hb he
   exact (cY.1 ha).2 b (dX.orb hp (cY.1 ha).2 he) (dS.1 hb).2
 cov := fun c hc=>by
  by_cases hi:dX N nx L c
  ·obtain ⟨a1,a2,a3⟩:=bn (dK hp) c
   exact ⟨_,List.mem_append_left _ (cY.2 ⟨⟨by omega,a3⟩,(dX.iff hp a2).1 hi⟩),DW hp a2⟩
  ·have:∃d,ptE N nx L c d/\alf L d=d:=by
    apply Classical.byContradiction
    intro hn
    exact hi fun d hd e=>hn ⟨d,hd,e⟩
   obtain ⟨d,hd,hf⟩:=this
   have hdl:=wA hd hc
   obtain ⟨a1,a2,a3⟩:=bn (kZ hp).eqv d
   exact ⟨_,List.mem_append_right _ (dS.2 ⟨⟨by omega,a3⟩,lV hp hf a2⟩),hp.eqv.tr (DW hp hd) (BG hp a2)⟩
theorem Fj (hp:PrN N (nuN nx L)):cD (Orb N (nuN nx L)) N=(dn N nx L).length+(iz N nx L).length:=by
 rw [←(ES hp).len hp.eqv,List.length_append]
theorem Gm (hp:PrN N (nuN nx L)):cD (ptE N nx L) N=(dn N nx L).length+(fu L N).length:=by
 rw [←(td hp).len (dK hp),List.length_append]
theorem QS {f:Nat->Nat}(h:PrN N f){c:Nat}(hc:c<N):∃m,m<=N/\(0<m/\itN f m c=c)/\∀j,j<m->¬(0<j/\itN f j c=c):=by
 obtain ⟨k,h1,h2,h3⟩:=h.per hc
 obtain ⟨m,a,b,c⟩:=gZ (p:=fun m=>0<m/\itN f m c=c) ⟨h1,h3⟩
 exact ⟨m,by omega,b,c⟩
open Classical in
noncomputable def pn (N:Nat)(f:Nat->Nat)(c:Nat):Nat:=if h:∃m,m<=N/\(0<m/\itN f m c=c)/\∀j,j<m->¬(0<j/\itN f j c=c) then Classical.choose h else 1
theorem yp {f:Nat->Nat}(h:PrN N f){c:Nat}(hc:c<N):pn N f c<=N/\(0<pn N f c/\itN f (pn N f c) c=c)/\∀j,j<pn N f c->¬(0<j/\itN f j c=c):=by
 have hx:=QS h hc
 unfold pn
 rw [dif_pos hx]
 exact Classical.choose_spec hx
noncomputable def lpN (N:Nat)(f:Nat->Nat)(c:Nat):List Nat:=(List.range (pn N f c)).map fun i=>itN f i c
theorem uu {f:Nat->Nat}(h:PrN N f){c d:Nat}(hc:c<N):d∈lpN N f c↔Orb N f c d:=by
 obtain ⟨_,⟨h1,h2⟩,h3⟩:=yp h hc
 simp only [lpN,List.mem_map,List.mem_range]
 constructor
 ·rintro ⟨i,_,rfl⟩;exact h.orb hc i
 ·rintro (rfl | ⟨_,_,k,rfl⟩)
  ·exact ⟨0,h1,rfl⟩
  ·refine ⟨k % pn N f c,Nat.mod_lt _ h1,?_⟩
   conv=>rhs;rw [show k=k % pn N f c+k / pn N f c*pn N f c by rw [Nat.mul_comm];exact (Nat.mod_add_div k _).symm,cW,lL h2]
noncomputable def qr (N:Nat)(nx:Nat->Nat)(L:List (Nat×Nat)):List (List Nat):=(iz N nx L).map (lpN N (sgN N nx L))
end
end Go.Proofs.YtgjlhdggllakbaaGreatDoor.Vm
namespace Go.Proofs.YtgjlhdggllakbaaGreatDoor.Vm
attribute [-simp] List.getD_eq_getElem?_getD
structure Sid where
 l:Int
 a:Int
 n:Int
 b:Int
 p:Int
 deriving Inhabited
structure Pc where
 s:List Int
 a:List Int
 deriving Inhabited
structure Sm where
 A:Int
 I:Int
 B:Int
 J:Int
 deriving Inhabited
def ksN (pcs:List Pc)(q:Nat):Nat:=(pcs.getD q default).s.length
def aZ (pcs:List Pc):Nat->Nat
 | 0=>0
 | q+1=>aZ pcs q+ksN pcs q
def E4 (o:Nat)(p:Pc)(i:Nat):Sid:=⟨p.s.getD i 0,p.a.getD i 0,((o+(i+1) % p.s.length:Nat):Int),((o+(i+p.s.length-1) % p.s.length:Nat):Int),-1⟩
def mz (pcs:List Pc):Nat->List Sid
 | 0=>[]
 | q+1=>mz pcs q++(List.range (ksN pcs q)).map (E4 (aZ pcs q) (pcs.getD q default))
def pcT (pcs:List Pc):Nat->List Nat
 | 0=>[]
 | q+1=>pcT pcs q++(List.range (ksN pcs q)).map fun _=>q
section
variable {pcs:List Pc}
theorem gq:∀{q:Nat},(mz pcs q).length=aZ pcs q
 | 0=>rfl
 | q+1=>by simp [mz,aZ,gq (q:=q)]
theorem mb:∀{q:Nat},(pcT pcs q).length=aZ pcs q
 | 0=>rfl
 | q+1=>by simp [pcT,aZ,mb (q:=q)]
theorem ib {q:Nat}:aZ pcs (q+1)=aZ pcs q+ksN pcs q:=rfl
theorem kr:∀{p q:Nat},p<=q->aZ pcs p<=aZ pcs q
 | p, 0, h => by have:p=0:=by omega
                 subst this;exact Nat.le_refl _
 | p,q+1,h=>by
   rcases Nat.lt_or_ge p (q+1) with h1 | h1
   ·have:=kr (p:=p) (q:=q) (by omega)
    rw [ib];omega
   ·have:p=q+1:=by omega
    subst this;exact Nat.le_refl _
theorem cH:∀{p i:Nat},i<aZ pcs p->∃q j,q<p/\j<ksN pcs q/\i=aZ pcs q+j
 | 0,i,h=>by simp [aZ] at h
 | p + 1,i,h=>by
   rw [ib] at h
   rcases Nat.lt_or_ge i (aZ pcs p) with h1 | h1
   ·obtain ⟨q,j,a,b,c⟩:=cH h1
    exact ⟨q,j,by omega,b,c⟩
   ·exact ⟨p,i-aZ pcs p,by omega,by omega,by omega⟩
theorem fh {p q j:Nat}(hq:q<p)(hj:j<ksN pcs q):aZ pcs q+j<aZ pcs p:=by
 have:=kr (pcs:=pcs) (p:=q+1) (q:=p) (by omega)
 rw [ib] at this;omega
theorem eY {q j q' j':Nat}(hj:j<ksN pcs q)(hj':j'<ksN pcs q')(h:aZ pcs q+j=aZ pcs q'+j'):q=q'/\j=j':=by
 rcases Nat.lt_trichotomy q q' with h1 | h1 | h1
 ·have:=fh h1 hj;omega
 ·subst h1;exact ⟨rfl,by omega⟩
 ·have:=fh h1 hj';omega
theorem bL {α:Type}{d:α}{l m:List α}{i:Nat}(h:i<l.length):(l++m).getD i d=l.getD i d:=by
 rw [List.getD_eq_getElem?_getD,List.getD_eq_getElem?_getD,List.getElem?_append_left h]
theorem fY {α:Type}{d:α}{l m:List α}{i j:Nat}(h:i=l.length+j):(l++m).getD i d=m.getD j d:=by
 subst h
 rw [List.getD_eq_getElem?_getD,List.getD_eq_getElem?_getD,List.getElem?_append_right (by omega)]
 congr 2;omega
theorem kP {α:Type}{d:α}{g:Nat->α}{n i:Nat}(h:i<n):((List.range n).map g).getD i d=g i:=by
 simp [List.getD_eq_getElem?_getD,h]
theorem kU:∀{p q j:Nat},q<p->j<ksN pcs q->(mz pcs p).getD (aZ pcs q+j) default=E4 (aZ pcs q) (pcs.getD q default) j
 | 0,q,j,h,_=>by omega
 | p + 1,q,j,h,hj=>by
   rcases Nat.lt_or_ge q p with h1 | h1
   ·rw [mz,bL (by rw [gq];exact fh h1 hj),kU h1 hj]
   ·have:q=p:=by omega
    subst this
    rw [mz,fY (j:=j) (by rw [gq]),kP hj]
theorem Ee:∀{p q j:Nat},q<p->j<ksN pcs q->(pcT pcs p).getD (aZ pcs q+j) 0=q
 | 0,q,j,h,_=>by omega
 | p + 1,q,j,h,hj=>by
   rcases Nat.lt_or_ge q p with h1 | h1
   ·rw [pcT,bL (by rw [mb];exact fh h1 hj),Ee h1 hj]
   ·have:q=p:=by omega
    subst this
    rw [pcT,fY (j:=j) (by rw [mb]),kP hj]
def nsN (pcs:List Pc):Nat:=aZ pcs pcs.length
def nxN (pcs:List Pc)(i:Nat):Nat:=((mz pcs pcs.length).getD i default).n.toNat
def bfN (pcs:List Pc)(i:Nat):Nat:=((mz pcs pcs.length).getD i default).b.toNat
def anN (pcs:List Pc)(i:Nat):Int:=((mz pcs pcs.length).getD i default).a
def lnN (pcs:List Pc)(i:Nat):Int:=((mz pcs pcs.length).getD i default).l
def pcN (pcs:List Pc)(i:Nat):Nat:=(pcT pcs pcs.length).getD i 0
variable {q j:Nat}
theorem ma (hq:q<pcs.length)(hj:j<ksN pcs q):nxN pcs (aZ pcs q+j)=aZ pcs q+(j+1) % ksN pcs q:=by
 rw [nxN,kU hq hj];exact Int.toNat_natCast _
theorem PU (hq:q<pcs.length)(hj:j<ksN pcs q):bfN pcs (aZ pcs q+j)=aZ pcs q+(j+ksN pcs q-1) % ksN pcs q:=by
 rw [bfN,kU hq hj];exact Int.toNat_natCast _
theorem Iq (hq:q<pcs.length)(hj:j<ksN pcs q):anN pcs (aZ pcs q+j)=(pcs.getD q default).a.getD j 0:=by
 rw [anN,kU hq hj];rfl
theorem ox (hq:q<pcs.length)(hj:j<ksN pcs q):lnN pcs (aZ pcs q+j)=(pcs.getD q default).s.getD j 0:=by
 rw [lnN,kU hq hj];rfl
theorem ir (hq:q<pcs.length)(hj:j<ksN pcs q):pcN pcs (aZ pcs q+j)=q:=by rw [pcN,Ee hq hj]
theorem mj {j k:Nat}(h:j<k):(j+1) % k=if j+1=k then 0 else j+1:=by
 split
 ·rename_i e;rw [e];exact Nat.mod_self k
 ·exact Nat.mod_eq_of_lt (by omega)
theorem JL {j k:Nat}(h:j<k):(j+k-1) % k=if j=0 then k-1 else j-1:=by
 split
 ·rename_i e;subst e;rw [Nat.zero_add];exact Nat.mod_eq_of_lt (by omega)
 ·rw [show j+k-1=j-1+k by omega,Nat.add_mod_right];exact Nat.mod_eq_of_lt (by omega)
theorem qV:PrN (nsN pcs) (nxN pcs) where
 lt:=fun c hc=>by
  obtain ⟨q,j,h1,h2,rfl⟩:=cH hc
  rw [ma h1 h2]
  exact fh h1 (Nat.mod_lt _ (by omega))
 inj := fun c d hc hd e=>by
  obtain ⟨q,j,h1,h2,rfl⟩:=cH hc
  obtain ⟨q',j',h3,h4,rfl⟩:=cH hd
  rw [ma h1 h2,ma h3 h4] at e
  obtain ⟨e1,e2⟩:=eY (Nat.mod_lt _ (by omega)) (Nat.mod_lt _ (by omega)) e
  subst e1
  rw [mj h2,mj h4] at e2
  have:j=j':=by
   split at e2<;>split at e2<;>omega
  rw [this]
theorem P2 {c:Nat}(hc:c<nsN pcs):pcN pcs (nxN pcs c)=pcN pcs c:=by
 obtain ⟨q,j,h1,h2,rfl⟩:=cH hc
 rw [ma h1 h2,ir h1 h2,ir h1 (Nat.mod_lt _ (by omega))]
theorem Mr {c:Nat}(hc:c<nsN pcs):pcN pcs c<pcs.length:=by
 obtain ⟨q,j,h1,h2,rfl⟩:=cH hc
 rw [ir h1 h2];exact h1
theorem P0 {c:Nat}(hc:c<nsN pcs):nxN pcs (bfN pcs c)=c/\bfN pcs c<nsN pcs:=by
 obtain ⟨q,j,h1,h2,rfl⟩:=cH hc
 have hm:(j+ksN pcs q-1) % ksN pcs q<ksN pcs q:=Nat.mod_lt _ (by omega)
 rw [PU h1 h2]
 refine ⟨?_,fh h1 hm⟩
 rw [ma h1 hm,mj hm,JL h2]
 congr 1
 split<;>split<;>omega
theorem PW (hq:q<pcs.length)(hj:j<ksN pcs q):∀m,itN (nxN pcs) m (aZ pcs q+j)=aZ pcs q+(j+m) % ksN pcs q
 | 0=>by simp [itN,Nat.mod_eq_of_lt hj]
 | m+1=>by
   rw [itN,PW hq hj m,ma hq (Nat.mod_lt _ (by omega)),Nat.mod_add_mod,Nat.add_assoc]
theorem Lm {c d:Nat}(hc:c<nsN pcs)(hd:d<nsN pcs):Orb (nsN pcs) (nxN pcs) c d↔pcN pcs c=pcN pcs d:=by
 constructor
 ·intro h
  exact Orb.sub (E:=fun a b=>pcN pcs a=pcN pcs b) ⟨fun _=>rfl,fun h=>h.symm,fun h g=>h.trans g⟩ qV (fun c hc=>(P2 hc).symm) h
 ·obtain ⟨q,j,h1,h2,rfl⟩:=cH hc
  obtain ⟨q',j',h3,h4,rfl⟩:=cH hd
  rw [ir h1 h2,ir h3 h4]
  rintro rfl
  refine Or.inr ⟨hc,hd,ksN pcs q+j'-j,?_⟩
  rw [PW h1 h2,show j+(ksN pcs q+j'-j)=j'+ksN pcs q by omega,Nat.add_mod_right,Nat.mod_eq_of_lt h4]
theorem Rj (hk:∀q,q<pcs.length->0<ksN pcs q):cD (Orb (nsN pcs) (nxN pcs)) (nsN pcs)=pcs.length:=by
 have hat:∀q,q<pcs.length->aZ pcs q<nsN pcs:=fun q hq=>fh (j:=0) hq (hk q hq)
 have hr:Reps (Orb (nsN pcs) (nxN pcs)) (nsN pcs) ((List.range pcs.length).map (aZ pcs)):=by
  refine ⟨?_,?_,?_⟩
  ·intro r hr
   obtain ⟨q,hq,rfl⟩:=List.mem_map.1 hr
   exact hat q (List.mem_range.1 hq)
  ·rw [List.pairwise_map]
   refine List.pairwise_lt_range.imp_of_mem ?_
   intro a b ha hb hlt he
   have ha:=List.mem_range.1 ha
   have hb:=List.mem_range.1 hb
   have:=(Lm (hat a ha) (hat b hb)).1 he
   have e1:=ir (j:=0) ha (hk a ha)
   have e2:=ir (j:=0) hb (hk b hb)
   rw [Nat.add_zero] at e1 e2
   omega
  ·intro c hc
   refine ⟨_,List.mem_map.2 ⟨pcN pcs c,List.mem_range.2 (Mr hc),rfl⟩,?_⟩
   have hp:=Mr hc
   rw [Lm hc (hat _ hp)]
   have e1:=ir (j:=0) hp (hk _ hp)
   rw [Nat.add_zero] at e1
   exact e1.symm
 rw [←hr.len qV.eqv];simp
theorem ia {g:Nat->Int}{n:Nat}:((List.range (n+1)).map g).sum=((List.range n).map g).sum+g n:=by
 rw [List.range_succ,List.map_append,List.sum_append];simp
theorem kB {g:Nat->Int}{n m:Nat}:((List.range (n+m)).map g).sum=((List.range n).map g).sum+((List.range m).map fun j=>g (n+j)).sum:=by
 induction m with
 | zero=>simp
 | succ m ih=>rw [←Nat.add_assoc,ia,ia,ih];omega
theorem zF {l:List Int}:((List.range l.length).map fun j=>l.getD j 0).sum=l.sum:=by
 have:((List.range l.length).map fun j=>l.getD j 0)=l:=by
  apply List.ext_getElem (by simp)
  intro i h1 h2
  simp [List.getD_eq_getElem?_getD,h2]
 rw [this]
theorem zc (ha:∀q,q<pcs.length->(pcs.getD q default).a.length=ksN pcs q/\(pcs.getD q default).a.sum=180*((ksN pcs q:Int)-2)):∀{p:Nat},p<=pcs.length->((List.range (aZ pcs p)).map (anN pcs)).sum=180*(aZ pcs p:Int)-360*(p:Int)
 | 0,_=>by simp [aZ]
 | p + 1,hp=>by
   rw [ib,kB,zc ha (p:=p) (by omega)]
   have e:((List.range (ksN pcs p)).map fun j=>anN pcs (aZ pcs p+j))=(List.range (ksN pcs p)).map fun j=>(pcs.getD p default).a.getD j 0:=by
    refine List.map_congr_left fun j hj => ?_
    rw [Iq (by omega) (List.mem_range.1 hj)]
   obtain ⟨h1,h2⟩:=ha p (by omega)
   rw [e,←h1,zF,h2,h1];omega
theorem DU (ha:∀q,q<pcs.length->(pcs.getD q default).a.length=ksN pcs q/\(pcs.getD q default).a.sum=180*((ksN pcs q:Int)-2)):((List.range (nsN pcs)).map (anN pcs)).sum=180*(nsN pcs:Int)-360*(pcs.length:Int):=zc ha (Nat.le_refl _)
def cz (pcs:List Pc)(a i:Int):Bool:=decide (0<=a/\a<pcs.length)&&decide (0<=i/\i<ksN pcs a.toNat)
def prS (pcs:List Pc)(s:Sm):Nat×Nat:=(aZ pcs s.A.toNat+s.I.toNat,aZ pcs s.B.toNat+s.J.toNat)
def prL (pcs:List Pc)(l:List Sm):List (Nat×Nat):=(l.map (prS pcs)).reverse
def db (s:Sm)(a i:Int):Bool:=(decide (s.A=a)&&decide (s.I=i))||(decide (s.B=a)&&decide (s.J=i))
def cN (pcs:List Pc)(ease:Int)(pre:List Sm)(s:Sm):Int :=
 if !(cz pcs s.A s.I&&cz pcs s.B s.J) then 5 else
 if (decide (s.A=s.B)&&decide (s.I=s.J))||pre.any (fun t=>db t s.A s.I||db t s.B s.J) then 7 else
 if ease<(pcs.getD s.A.toNat default).s.getD s.I.toNat 0-(pcs.getD s.B.toNat default).s.getD s.J.toNat 0\/ease < -((pcs.getD s.A.toNat default).s.getD s.I.toNat 0-(pcs.getD s.B.toNat default).s.getD s.J.toNat 0) then 8 else 0
def eZ (pcs:List Pc)(ease:Int)(sm:List Sm):Nat->Nat->Int
 | 0,_=>0
 | k+1,i=>if cN pcs ease (sm.take i) (sm.getD i default)=0 then eZ pcs ease sm k (i+1) else cN pcs ease (sm.take i) (sm.getD i default)
def cg (p:Pc):Bool:=decide (3<=p.s.length/\p.s.length<=6)&&(decide (p.a.length=p.s.length)&&((List.range p.s.length).all (fun i=>decide ((1<=p.s.getD i 0/\p.s.getD i 0<=200)/\(1<=p.a.getD i 0/\p.a.getD i 0<=359)))&&decide (p.a.sum=180*((p.s.length:Int)-2))))
structure Cp where
 P:List Pc
 S:List Sm
 e:Int
 deriving Inhabited
def cF (c:Cp):Int :=
 if c.P.length<1\/8<c.P.length then 4 else
 if c.e<0\/5<c.e then 1 else
 if !((List.range c.P.length).all fun q=>cg (c.P.getD q default)) then 1 else
 eZ c.P c.e c.S c.S.length 0
structure CapOk (c:Cp):Prop where
 np:1<=c.P.length/\c.P.length<=8
 pc:∀q,q<c.P.length->cg (c.P.getD q default)=true
 e:0<=c.e/\c.e<=5
 sm:∀i,i<c.S.length->cN c.P c.e (c.S.take i) (c.S.getD i default)=0
theorem tH {ease:Int} {sm:List Sm}:∀{k i:Nat},eZ pcs ease sm k i=0↔∀t,i≤t→t<i+k→cN pcs ease (sm.take t) (sm.getD t default)=0
 | 0,i=>by simp [eZ];intro t h1 h2;omega
 | k + 1,i=>by
   simp only [eZ]
   split
   ·rename_i h
    rw [tH]
    constructor
    ·intro g t h1 h2
     by_cases e:t=i
     ·subst e;exact h
     ·exact g t (by omega) (by omega)
    ·intro g t h1 h2;exact g t (by omega) (by omega)
   ·rename_i h
    constructor
    ·intro g;exact absurd g h
    ·intro g;exact absurd (g i (Nat.le_refl _) (by omega)) h
theorem cX {c:Cp}:cF c=0↔CapOk c:=by
 unfold cF
 split
 ·rename_i h;exact ⟨fun g=>by omega,fun g=>by have:=g.np;omega⟩
 rename_i h1
 split
 ·rename_i h;exact ⟨fun g=>by omega,fun g=>by have:=g.e;omega⟩
 rename_i h2
 split
 ·rename_i h
  refine ⟨fun g=>by omega,fun g => ?_⟩
  have:((List.range c.P.length).all fun q=>cg (c.P.getD q default))=true:=by
   rw [List.all_eq_true];intro q hq;exact g.pc q (List.mem_range.1 hq)
  rw [this] at h;cases h
 rename_i h3
 have h3:((List.range c.P.length).all fun q=>cg (c.P.getD q default))=true:=by simpa using h3
 rw [List.all_eq_true] at h3
 rw [tH]
 exact ⟨fun g=>⟨by omega,fun q hq=>h3 q (List.mem_range.2 hq),by omega,fun i hi=>g i (Nat.zero_le _) (by omega)⟩,fun g t _ h=>g.sm t (by omega)⟩
theorem co {p:Pc}(h:cg p=true):(3<=p.s.length/\p.s.length<=6)/\p.a.length=p.s.length/\(∀i,i<p.s.length->(1<=p.s.getD i 0/\p.s.getD i 0<=200)/\(1<=p.a.getD i 0/\p.a.getD i 0<=359))/\p.a.sum=180*((p.s.length:Int)-2):=by
 simp only [cg,Bool.and_eq_true,decide_eq_true_eq,List.all_eq_true,List.mem_range] at h
 exact h
theorem gL {ease:Int}{pre:List Sm}{s:Sm}(h:cN pcs ease pre s=0):(cz pcs s.A s.I=true/\cz pcs s.B s.J=true)/\¬(s.A=s.B/\s.I=s.J)/\(∀t∈pre,db t s.A s.I=false/\db t s.B s.J=false)/\((pcs.getD s.A.toNat default).s.getD s.I.toNat 0-(pcs.getD s.B.toNat default).s.getD s.J.toNat 0<=ease/\-((pcs.getD s.A.toNat default).s.getD s.I.toNat 0-(pcs.getD s.B.toNat default).s.getD s.J.toNat 0)<=ease):=by
 unfold cN at h
 split at h
 ·omega
 rename_i h1
 split at h
 ·omega
 rename_i h2
 split at h
 ·omega
 rename_i h3
 have h1:(cz pcs s.A s.I&&cz pcs s.B s.J)=true:=by simpa using h1
 rw [Bool.and_eq_true] at h1
 have h2:=Bool.eq_false_iff.2 h2
 rw [Bool.or_eq_false_iff,Bool.and_eq_false_iff] at h2
 refine ⟨h1,?_,?_,by omega⟩
 ·rintro ⟨e1,e2⟩
  rcases h2.1 with g | g<;>simp [e1,e2] at g
 ·intro t ht
  have g:(pre.any fun t=>db t s.A s.I||db t s.B s.J)=false:=h2.2
  rw [List.any_eq_false] at g
  have:=g t ht
  simpa using this
theorem cK {a i:Int}(h:cz pcs a i=true):a.toNat<pcs.length/\i.toNat<ksN pcs a.toNat/\(a.toNat:Int)=a/\(i.toNat:Int)=i:=by
 simp only [cz,Bool.and_eq_true,decide_eq_true_eq] at h
 omega
theorem CapOk.ks {c:Cp}(h:CapOk c){q:Nat}(hq:q<c.P.length):3<=ksN c.P q/\ksN c.P q<=6:=(co (h.pc q hq)).1
theorem CapOk.cls {c:Cp}(h:CapOk c):cD (Orb (nsN c.P) (nxN c.P)) (nsN c.P)=c.P.length:=Rj fun q hq=>by have:=h.ks hq;omega
theorem En {pcs:List Pc}:∀{p:Nat},(∀q,q<p->ksN pcs q<=6)->aZ pcs p<=p*6
 | 0,_=>by simp [aZ]
 | p+1,h=>by
   have h1:=En (p:=p) fun q hq=>h q (by omega)
   have h2:=h p (by omega)
   rw [ib];omega
theorem CapOk.ns {c:Cp}(h:CapOk c):nsN c.P<=48:=by
 have h1:=En (pcs:=c.P) (p:=c.P.length) fun q hq=>(h.ks hq).2
 have h2:=h.np
 unfold nsN;omega
theorem qj {c:Cp} (h:CapOk c):∀{n:Nat},n≤c.S.length→SmOk (nsN c.P) (prL c.P (c.S.take n))
 | 0,_=>by simpa [prL] using SmOk.nil
 | n + 1,hn=>by
   have ih:=qj h (n:=n) (by omega)
   have ht:c.S.take (n+1)=c.S.take n++[c.S.getD n default]:=by
    rw [List.take_add_one,List.getElem?_eq_getElem (by omega),List.getD_eq_getElem?_getD,List.getElem?_eq_getElem (by omega)]
    rfl
   obtain ⟨⟨g1,g2⟩,g3,g4,g5⟩:=gL (h.sm n (by omega))
   obtain ⟨a1,a2,a3,a4⟩:=cK g1
   obtain ⟨b1,b2,b3,b4⟩:=cK g2
   have e:prL c.P (c.S.take (n+1))=prS c.P (c.S.getD n default) :: prL c.P (c.S.take n):=by
    rw [ht,prL,List.map_append,List.reverse_append];rfl
   rw [e]
   refine .cons ih (fh a1 a2) (fh b1 b2) (fun e => ?_) fun t ht => ?_
   ·obtain ⟨e1,e2⟩:=eY a2 b2 e
    exact g3 ⟨by omega,by omega⟩
   ·obtain ⟨u,hu,rfl⟩:=List.mem_map.1 (List.mem_reverse.1 ht)
    obtain ⟨x1,x2⟩:=g4 u hu
    have hus:cz c.P u.A u.I=true/\cz c.P u.B u.J=true:=by
     obtain ⟨k,hk,hk2⟩:=List.getElem_of_mem hu
     have hkn:k<n:=by rw [List.length_take] at hk;omega
     have:=h.sm k (by omega)
     have e:c.S.getD k default=u:=by
      rw [←hk2,List.getElem_take,List.getD_eq_getElem?_getD,List.getElem?_eq_getElem (by omega)];rfl
     rw [e] at this
     exact (gL this).1
    obtain ⟨c1,c2,c3,c4⟩:=cK hus.1
    obtain ⟨d1,d2,d3,d4⟩:=cK hus.2
    simp only [db,Bool.or_eq_false_iff,Bool.and_eq_false_iff,decide_eq_false_iff_not] at x1 x2
    refine ⟨fun e => ?_,fun e => ?_,fun e => ?_,fun e => ?_⟩
    ·obtain ⟨e1,e2⟩:=eY c2 a2 e
     rcases x1.1 with g | g<;>exact g (by omega)
    ·obtain ⟨e1,e2⟩:=eY c2 b2 e
     rcases x2.1 with g | g<;>exact g (by omega)
    ·obtain ⟨e1,e2⟩:=eY d2 a2 e
     rcases x1.2 with g | g<;>exact g (by omega)
    ·obtain ⟨e1,e2⟩:=eY d2 b2 e
     rcases x2.2 with g | g<;>exact g (by omega)
end
structure Ptt where
 cs:List Nat
 inn:Bool
 ang:Int
 df:Int
 deriving Inhabited
def lsN (c:Cp):List (Nat×Nat):=prL c.P c.S
def PtR (c:Cp):Nat->Nat->Prop:=ptE (nsN c.P) (nxN c.P) (lsN c)
def nuP (c:Cp):Nat->Nat:=nuN (nxN c.P) (lsN c)
open Classical in
noncomputable def gN (c:Cp)(k:Nat):Bool:=decide (dX (nsN c.P) (nxN c.P) (lsN c) k)
noncomputable def QT (c:Cp)(k:Nat):Ptt :=
 ⟨fK (PtR c) (nsN c.P) k,gN c k,((fK (PtR c) (nsN c.P) k).map (anN c.P)).sum,(if gN c k then 360 else 180)-((fK (PtR c) (nsN c.P) k).map (anN c.P)).sum⟩
noncomputable def cI (c:Cp):List Ptt:=(cB (PtR c) (nsN c.P)).map (QT c)
noncomputable def jL (c:Cp):Int:=((cI c).map (·.df)).sum
noncomputable def iL (c:Cp):Int:=((cI c).length:Int)-((nsN c.P:Int)-(c.S.length:Int))+(c.P.length:Int)
noncomputable def dE (c:Cp):Nat:=cD (dw (pcN c.P) (lsN c)) c.P.length
noncomputable def eJ (c:Cp):List (List Nat):=qr (nsN c.P) (nxN c.P) (lsN c)
noncomputable def QC (c:Cp):Nat:=cD (Orb (nsN c.P) (nuP c)) (nsN c.P)
noncomputable def fE (c:Cp):Int:=(2*(dE c:Int)-iL c-((eJ c).length:Int)).tdiv 2
section
variable {c:Cp}
theorem CapOk.sm_ok (h:CapOk c):SmOk (nsN c.P) (lsN c):=by
 have:=qj h (Nat.le_refl c.S.length)
 rwa [List.take_length] at this
theorem nK:(lsN c).length=c.S.length:=by simp [lsN,prL]
theorem CapOk.nu (h:CapOk c):PrN (nsN c.P) (nuP c):=tP qV h.sm_ok
theorem CapOk.ptE (h:CapOk c):Eqv (PtR c):=dK h.nu
theorem mL {l m:List Int}(h:l.Perm m):l.sum=m.sum:=by
 induction h with
 | nil=>rfl
 | cons x _ ih=>simp [ih]
 | swap x y l=>simp;omega
 | trans _ _ ih1 ih2=>rw [ih1,ih2]
theorem pY {g:Nat->Int}:∀{l:List (List Nat)},((l.flatten).map g).sum=(l.map fun x=>(x.map g).sum).sum
 | []=>rfl
 | x :: l=>by
   rw [List.flatten_cons,List.map_append,List.sum_append,pY];rfl
theorem D2 {α:Type}{f g:α->Int}:∀{l:List α},(l.map fun x=>f x-g x).sum=(l.map f).sum-(l.map g).sum
 | []=>rfl
 | x :: l=>by simp only [List.map_cons,List.sum_cons,D2 (l:=l)];omega
theorem m8 {α:Type}{k:Int}:∀{l:List α},(l.map fun _=>k).sum=k*l.length
 | []=>by simp
 | x :: l=>by simp only [List.map_cons,List.sum_cons,m8 (l:=l),List.length_cons];rw [Int.natCast_add,Int.mul_add];omega
theorem DD (h:CapOk c):(cI c).length+2*c.S.length=(dn (nsN c.P) (nxN c.P) (lsN c)).length+nsN c.P:=by
 have h1:=Gm h.nu
 have h2:=ja h.sm_ok
 rw [nK] at h2
 rw [cI,List.length_map]
 show cD (PtR c) (nsN c.P)+_=_
 unfold PtR
 omega
theorem Ax (h:CapOk c):jL c=360*iL c:=by
 have hw:=(Reps.mins (N:=nsN c.P) h.ptE).weigh h.ptE (td h.nu) (α:=Int) (w:=fun k=>if gN c k=true then (360:Int) else 180) (fun a b _ _ he=>by
  have:gN c a=gN c b:=by
   simp only [gN,decide_eq_decide];exact dX.iff h.nu he
  simp only [this])
 have hs:((cB (PtR c) (nsN c.P)).map fun k=>if gN c k=true then (360:Int) else 180).sum=360*((dn (nsN c.P) (nxN c.P) (lsN c)).length:Int)+180*((fu (lsN c) (nsN c.P)).length:Int):=by
  rw [mL hw,List.map_append,List.sum_append]
  congr 1
  ·rw [←m8 (l:=dn (nsN c.P) (nxN c.P) (lsN c))]
   congr 1
   refine List.map_congr_left fun k hk => ?_
   have:gN c k=true:=by simp only [gN,decide_eq_true_eq];exact (cY.1 hk).2
   rw [if_pos this]
  ·rw [←m8 (l:=fu (lsN c) (nsN c.P))]
   congr 1
   refine List.map_congr_left fun k hk => ?_
   have:gN c k≠true:=by
    simp only [gN,decide_eq_true_eq,ne_eq]
    intro hi
    exact hi k (Or.inl rfl) (dZ.1 (fp.1 hk).2)
   rw [if_neg this]
 have ha:((cB (PtR c) (nsN c.P)).map fun k=>((fK (PtR c) (nsN c.P) k).map (anN c.P)).sum).sum=180*(nsN c.P:Int)-360*(c.P.length:Int):=by
  rw [←DU (pcs:=c.P) (fun q hq=>⟨(co (h.pc q hq)).2.1,(co (h.pc q hq)).2.2.2⟩),←mL ((nA h.ptE (Reps.mins (N:=nsN c.P) h.ptE)).map (anN c.P)),pY,List.map_map]
  rfl
 have hm:jL c=((cB (PtR c) (nsN c.P)).map fun k=>(if gN c k=true then (360:Int) else 180)-((fK (PtR c) (nsN c.P) k).map (anN c.P)).sum).sum:=by
  rw [jL,cI,List.map_map];rfl
 rw [hm,D2,hs,ha,iL]
 have h1:=DD h
 have h2:=ja h.sm_ok
 rw [nK] at h2
 omega
theorem Rc (h:CapOk c):QC c=(dn (nsN c.P) (nxN c.P) (lsN c)).length+(eJ c).length:=by
 rw [eJ,qr,List.length_map]
 exact Fj h.nu
theorem rW (h:CapOk c):∃g:Nat,2*(dE c:Int)-iL c-((eJ c).length:Int)=2*g/\fE c=g/\2*dE c+c.S.length=c.P.length+QC c+2*g:=by
 obtain ⟨g,hg⟩:=RP (P:=c.P.length) (pc:=pcN c.P) qV (fun k hk=>P2 hk) (fun k hk=>Mr hk) h.cls h.sm_ok
 rw [nK] at hg
 have hg:2*dE c+c.S.length=c.P.length+QC c+2*g:=hg
 have h1:=DD h
 have h2:=Rc h
 have e:2*(dE c:Int)-iL c-((eJ c).length:Int)=2*g:=by
  rw [iL];omega
 refine ⟨g,e,?_,hg⟩
 rw [fE,e];exact Int.mul_tdiv_cancel_left _ (by omega)
theorem rz {α:Type} {key:α→Int}:∀{l m:List α},l.Perm m→(l.Pairwise fun a b=>key a<key b)→(m.Pairwise fun a b=>key a<key b)→l=m
 | [],m,hp,_,_=>by rw [List.nil_perm.1 hp]
 | a :: l,[],hp,_,_=>by simp at hp
 | a :: l,b :: m,hp,hl,hm=>by
   rw [List.pairwise_cons] at hl hm
   have e:a=b:=by
    have h1:a∈b :: m:=hp.mem_iff.1 (by simp)
    have h2:b∈a :: l:=hp.mem_iff.2 (by simp)
    rcases List.mem_cons.1 h1 with h1 | h1
    ·exact h1
    ·rcases List.mem_cons.1 h2 with h2 | h2
     ·exact h2.symm
     ·have:=hl.1 b h2
      have:=hm.1 a h1
      omega
   subst e
   rw [rz (List.Perm.cons_inv hp) hl.2 hm.2]
theorem ED (h:CapOk c){k:Nat}(hk:k∈cB (PtR c) (nsN c.P)):(fK (PtR c) (nsN c.P) k).getD 0 0=k/\0<(fK (PtR c) (nsN c.P) k).length:=by
 obtain ⟨h1,h2⟩:=cn.1 hk
 have hm:k∈fK (PtR c) (nsN c.P) k:=eE.2 ⟨h1,h.ptE.rf k⟩
 have hasc:=ym (E:=PtR c) (N:=nsN c.P) (c:=k)
 cases hl:fK (PtR c) (nsN c.P) k with
 | nil=>rw [hl] at hm;cases hm
 | cons x l =>
   refine ⟨?_,by simp⟩
   show x=k
   rw [hl] at hm hasc
   rcases List.mem_cons.1 hm with e | e
   ·exact e.symm
   ·have:=(List.pairwise_cons.1 hasc).1 k e
    have hx:x∈fK (PtR c) (nsN c.P) k:=by rw [hl];simp
    exact absurd (eE.1 hx).2 (h2 x this)
end
section
variable {N:Nat}{nx pc:Nat->Nat}{L:List (Nat×Nat)}
structure FReps (N:Nat)(nx:Nat->Nat)(L:List (Nat×Nat))(R:List Nat):Prop where
 lt:∀r,r∈R->r<N/\alf L r=r
 dis:R.Pairwise fun a b=>¬Orb N (nuN nx L) a b
 cov:∀c,c<N->alf L c=c->∃r,r∈R/\Orb N (nuN nx L) c r
theorem FReps.reps (hp:PrN N (nuN nx L)) {R:List Nat} (h:FReps N nx L R):Reps (Orb N (sgN N nx L)) N (R++(List.range N).filter fun c => !jK L c) where
 lt:=fun r hr=>by
  rcases List.mem_append.1 hr with g | g
  ·exact (h.lt r g).1
  ·exact List.mem_range.1 (List.mem_filter.1 g).1
 dis := by
  rw [List.pairwise_append]
  refine ⟨h.dis.imp fun hne he=>hne (BG hp he),?_,?_⟩
  ·have:((List.range N).filter fun c => !jK L c).Nodup:=List.Nodup.sublist List.filter_sublist List.nodup_range
   refine this.imp_of_mem ?_
   intro a b ha hb hne he
   rcases he with e | ⟨_,_,k,hk⟩
   ·exact hne e
   ·have hf:¬alf L a=a:=by
     have:=(List.mem_filter.1 ha).2
     simpa [jK] using this
    have:∀k,itN (sgN N nx L) k a=a:=by
     intro k
     induction k with
     | zero=>rfl
     | succ k ih=>simp only [itN];rw [ih];simp [sgN,hf]
    rw [this] at hk
    exact hne hk
  ·intro a ha b hb he
   have hf:=lV hp (h.lt a ha).2 he
   have:=(List.mem_filter.1 hb).2
   simp [jK,hf] at this
 cov := fun c hc=>by
  by_cases hf:alf L c=c
  ·obtain ⟨r,h1,h2⟩:=h.cov c hc hf
   exact ⟨r,List.mem_append_left _ h1,(JQ hp hf (h.lt r h1).2).2 h2⟩
  ·exact ⟨c,List.mem_append_right _ (List.mem_filter.2 ⟨List.mem_range.2 hc,by simp [jK,hf]⟩),Or.inl rfl⟩
theorem FReps.weigh (hp:PrN N (nuN nx L)){R S:List Nat}(hr:FReps N nx L R)(hs:FReps N nx L S){α:Type}{w:Nat->α}(hw:∀c d,c<N->d<N->Orb N (sgN N nx L) c d->w c=w d):(R.map w).Perm (S.map w):=by
 have:=(hr.reps hp).weigh (kZ hp).eqv (hs.reps hp) hw
 rw [List.map_append,List.map_append] at this
 exact (List.perm_append_right_iff _).1 this
theorem pA:∀{L:List (Nat×Nat)} {t:Nat×Nat},t∈L->dw pc L (pc t.1) (pc t.2)
 | s :: L,t,h=>by
   rcases List.mem_cons.1 h with e | e
   ·subst e;exact Or.inr (Or.inl ⟨ba.rf _,ba.rf _⟩)
   ·exact nh (pA e)
theorem rC {F:Nat->Nat->Prop}(hF:Eqv F):∀{L:List (Nat×Nat)},(∀t,t∈L->F (pc t.1) (pc t.2))->∀{a b},dw pc L a b->F a b
 | [],_,a,b,h=>by
   have:a=b:=h
   subst this;exact hF.rf _
 | s :: L,hs,a,b,h=>by
   have ih:=fun {a b}=>rC hF (L:=L) (fun t ht=>hs t (List.mem_cons_of_mem _ ht)) (a:=a) (b:=b)
   have h0:=hs s (by simp)
   rcases h with h | ⟨h1,h2⟩ | ⟨h1,h2⟩
   ·exact ih h
   ·exact hF.tr (ih h1) (hF.tr h0 (ih h2))
   ·exact hF.tr (ih h1) (hF.tr (hF.sy h0) (ih h2))
end
structure SplR (N:Nat)(nx pc:Nat->Nat)(L:List (Nat×Nat))(N':Nat)(nx' pc':Nat->Nat)(L':List (Nat×Nat))(g:Nat->Nat)(d1 d2 ii jj:Nat):Prop where
 hn:PrN N nx
 hl:SmOk N L
 hn':PrN N' nx'
 hl':SmOk N' L'
 glt:∀x,x<N->g x<N'/\g x≠d1/\g x≠d2
 ginj:∀x y,x<N->y<N->g x=g y->x=y
 gcov:∀y,y<N'->y=d1\/y=d2\/∃x,x<N/\y=g x
 dlt:d1<N'/\d2<N'/\d1≠d2
 ij:ii<N/\jj<N/\ii≠jj
 nxg:∀x,x<N->(nx x=jj/\nx' (g x)=d1)\/(nx x=ii/\nx' (g x)=d2)\/(nx x≠ii/\nx x≠jj/\nx' (g x)=g (nx x))
 nx1:nx' d1=g ii
 nx2:nx' d2=g jj
 lg:L'=(d1,d2) :: L.map fun s=>(g s.1,g s.2)
section
variable {N N':Nat}{nx pc nx' pc' g:Nat->Nat}{L L':List (Nat×Nat)}{d1 d2 ii jj:Nat}
theorem DE (hgi:∀x y,x<N→y<N→g x=g y→x=y):∀{L:List (Nat×Nat)},SmOk N L→∀{c},c<N→alf (L.map fun s=>(g s.1,g s.2)) (g c)=g (alf L c)
 | [],_,c,_=>rfl
 | s :: L,h,c,hc=>by
   cases h with
   | cons h h1 h2 h3 h4 =>
     simp only [List.map_cons,alf]
     have:swN (g s.1) (g s.2) (g c)=g (swN s.1 s.2 c):=by
      by_cases e1:c=s.1
      ·subst e1;rw [ov,ov]
      ·by_cases e2:c=s.2
       ·subst e2;rw [tW,tW]
       ·rw [my e1 e2,my (fun e=>e1 (hgi _ _ hc h1 e)) (fun e=>e2 (hgi _ _ hc h2 e))]
     rw [this]
     exact DE hgi h (rM h1 h2 hc)
variable (S:SplR N nx pc L N' nx' pc' L' g d1 d2 ii jj)
include S
theorem SplR.alfg {c:Nat}(hc:c<N):alf L' (g c)=g (alf L c):=by
 have h:=S.hl'
 rw [S.lg] at h ⊢
 rw [fw h,if_neg (S.glt c hc).2.1,if_neg (S.glt c hc).2.2]
 exact DE S.ginj S.hl hc
theorem SplR.alf1:alf L' d1=d2:=by
 have h:=S.hl'
 rw [S.lg] at h ⊢
 rw [fw h,if_pos rfl]
theorem SplR.alf2:alf L' d2=d1:=by
 have h:=S.hl'
 rw [S.lg] at h ⊢
 rw [fw h,if_neg (fun e=>S.dlt.2.2 e.symm),if_pos rfl]
theorem SplR.nu:PrN N (nuN nx L):=tP S.hn S.hl
theorem SplR.nu':PrN N' (nuN nx' L'):=tP S.hn' S.hl'
theorem SplR.nug {c:Nat}(hc:c<N):(nuN nx L c=jj/\nuN nx' L' (g c)=d1)\/(nuN nx L c=ii/\nuN nx' L' (g c)=d2)\/(nuN nx L c≠ii/\nuN nx L c≠jj/\nuN nx' L' (g c)=g (nuN nx L c)):=by
 have:=S.nxg (alf L c) (S.hl.pr.lt c hc)
 simp only [nuN,S.alfg hc]
 exact this
theorem SplR.nu1:nuN nx' L' d1=g jj:=by rw [nuN,S.alf1,S.nx2]
theorem SplR.nu2:nuN nx' L' d2=g ii:=by rw [nuN,S.alf2,S.nx1]
theorem SplR.step {c:Nat}(hc:c<N):Orb N' (nuN nx' L') (g c) (g (nuN nx L c)):=by
 have h0:=S.nu'.one (S.glt c hc).1
 rcases S.nug hc with ⟨h1,h2⟩ | ⟨h1,h2⟩ | ⟨_,_,h2⟩
 ·rw [h2] at h0
  have:=S.nu'.one S.dlt.1
  rw [S.nu1,←h1] at this
  exact S.nu'.eqv.tr h0 this
 ·rw [h2] at h0
  have:=S.nu'.one S.dlt.2.1
  rw [S.nu2,←h1] at this
  exact S.nu'.eqv.tr h0 this
 ·rw [h2] at h0;exact h0
theorem SplR.up {c d:Nat}(h:Orb N (nuN nx L) c d):Orb N' (nuN nx' L') (g c) (g d) :=
 Orb.sub (E:=fun a b=>Orb N' (nuN nx' L') (g a) (g b)) ⟨fun _=>S.nu'.eqv.rf _,fun h=>S.nu'.eqv.sy h,fun h k=>S.nu'.eqv.tr h k⟩ S.nu (fun c hc=>S.step hc) h
theorem SplR.back:∃p:Nat→Nat,(∀x,x<N→p (g x)=x)∧p d1=jj∧p d2=ii∧∀y,y<N'→p y<N:=by
 have key:∀y,∃x,(∀z,z<N->y=g z->x=z)/\(y=d1->x=jj)/\(y=d2->x=ii)/\(y<N'->x<N):=by
  intro y
  by_cases e1:y=d1
  ·subst e1
   exact ⟨jj,fun z hz e=>absurd e.symm (S.glt z hz).2.1,fun _=>rfl,fun e=>absurd e S.dlt.2.2,fun _=>S.ij.2.1⟩
  ·by_cases e2:y=d2
   ·subst e2
    exact ⟨ii,fun z hz e=>absurd e.symm (S.glt z hz).2.2,fun e=>absurd e.symm S.dlt.2.2,fun _=>rfl,fun _=>S.ij.1⟩
   ·by_cases hx:∃x,x<N/\y=g x
    ·obtain ⟨x,h1,h2⟩:=hx
     exact ⟨x,fun z hz e=>S.ginj _ _ h1 hz (h2 ▸ e),fun e=>absurd e e1,fun e=>absurd e e2,fun _=>h1⟩
    ·exact ⟨0,fun z hz e=>absurd ⟨z,hz,e⟩ hx,fun e=>absurd e e1,fun e=>absurd e e2,fun hy=>by
      rcases S.gcov y hy with h | h | h
      ·exact absurd h e1
      ·exact absurd h e2
      ·exact absurd h hx⟩
 refine ⟨fun y=>Classical.choose (key y),fun x hx => ?_,?_,?_,fun y hy => ?_⟩
 ·exact (Classical.choose_spec (key (g x))).1 x hx rfl
 ·exact (Classical.choose_spec (key d1)).2.1 rfl
 ·exact (Classical.choose_spec (key d2)).2.2.1 rfl
 ·exact (Classical.choose_spec (key y)).2.2.2 hy
theorem SplR.down {c d:Nat}(hc:c<N)(hd:d<N)(h:Orb N' (nuN nx' L') (g c) (g d)):Orb N (nuN nx L) c d:=by
 obtain ⟨p,p1,p2,p3,p4⟩:=S.back
 have:=Orb.sub (E:=fun a b=>Orb N (nuN nx L) (p a) (p b)) ⟨fun _=>S.nu.eqv.rf _,fun h=>S.nu.eqv.sy h,fun h k=>S.nu.eqv.tr h k⟩ S.nu' (fun y hy=>by
  show Orb N (nuN nx L) (p y) (p (nuN nx' L' y))
  rcases S.gcov y hy with e | e | ⟨x,hx,e⟩
  ·subst e;rw [S.nu1,p2,p1 _ S.ij.2.1];exact Or.inl rfl
  ·subst e;rw [S.nu2,p3,p1 _ S.ij.1];exact Or.inl rfl
  ·subst e
   rw [p1 x hx]
   have h0:=S.nu.one hx
   rcases S.nug hx with ⟨h1,h2⟩ | ⟨h1,h2⟩ | ⟨_,_,h2⟩
   ·rw [h2,p2,←h1];exact h0
   ·rw [h2,p3,←h1];exact h0
   ·rw [h2,p1 _ (S.nu.lt x hx)];exact h0) h
 simp only [p1 c hc,p1 d hd] at this
 exact this
theorem SplR.orb {c d:Nat}(hc:c<N)(hd:d<N):Orb N' (nuN nx' L') (g c) (g d)↔Orb N (nuN nx L) c d:=⟨S.down hc hd,S.up⟩
theorem SplR.near {y:Nat}(hy:y<N'):∃x,x<N/\Orb N' (nuN nx' L') y (g x):=by
 rcases S.gcov y hy with e | e | ⟨x,hx,e⟩
 ·subst e
  have:=S.nu'.one S.dlt.1
  rw [S.nu1] at this
  exact ⟨jj,S.ij.2.1,this⟩
 ·subst e
  have:=S.nu'.one S.dlt.2.1
  rw [S.nu2] at this
  exact ⟨ii,S.ij.1,this⟩
 ·subst e;exact ⟨x,hx,Or.inl rfl⟩
theorem SplR.cls:cD (Orb N' (nuN nx' L')) N'=cD (Orb N (nuN nx L)) N:=by
 have hm:=Reps.mins (N:=N) S.nu.eqv
 have hr:Reps (Orb N' (nuN nx' L')) N' ((cB (Orb N (nuN nx L)) N).map g):=by
  refine ⟨?_,?_,?_⟩
  ·intro r hr
   obtain ⟨x,hx,rfl⟩:=List.mem_map.1 hr
   exact (S.glt x (hm.lt x hx)).1
  ·rw [List.pairwise_map]
   refine hm.dis.imp_of_mem ?_
   intro a b ha hb hne he
   exact hne (S.down (hm.lt a ha) (hm.lt b hb) he)
  ·intro y hy
   obtain ⟨x,hx,ho⟩:=S.near hy
   obtain ⟨r,h1,h2⟩:=hm.cov x hx
   exact ⟨_,List.mem_map.2 ⟨r,h1,rfl⟩,S.nu'.eqv.tr ho (S.up h2)⟩
 rw [←hr.len S.nu'.eqv,List.length_map];rfl
theorem SplR.parts {P q:Nat} {ρ:Nat→Nat} (hq:q<P) (hP:∀x,x<N→pc x<P) (hpg:∀x,x<N→pc' (g x)=pc x∨(pc x=q∧pc' (g x)=P)) (h1:pc' d1=q) (h2:pc' d2=P):cD (dw pc' L') (P+1)=cD (dw pc L) P:=by
 have hL:∀t,t∈L->t.1<N/\t.2<N:=by
  have:=S.hl
  clear S
  induction this with
  | nil=>intro t ht;cases ht
  | cons h a b c d ih =>
    intro t ht
    rcases List.mem_cons.1 ht with e | e
    ·subst e;exact ⟨a,b⟩
    ·exact ih t e
 have hline:dw pc' L' q P:=by
  have:=pA (pc:=pc') (L:=L') (t:=(d1,d2)) (by rw [S.lg];simp)
  rwa [h1,h2] at this
 have hgp:∀x,x<N->dw pc' L' (pc' (g x)) (pc x):=by
  intro x hx
  rcases hpg x hx with e | ⟨e1,e2⟩
  ·rw [e];exact ba.rf _
  ·rw [e1,e2];exact ba.sy hline
 have up:∀{a b},dw pc L a b->dw pc' L' a b:=fun {a b} h=>rC ba (fun t ht=>by
  have hin:dw pc' L' (pc' (g t.1)) (pc' (g t.2)):=pA (t:=(g t.1,g t.2)) (by rw [S.lg];exact List.mem_cons_of_mem _ (List.mem_map.2 ⟨t,ht,rfl⟩))
  exact ba.tr (ba.sy (hgp _ (hL t ht).1)) (ba.tr hin (hgp _ (hL t ht).2))) h
 have down:∀{a b},dw pc' L' a b->dw pc L (if a=P then q else a) (if b=P then q else b):=fun {a b} h =>
  rC (F:=fun a b=>dw pc L (if a=P then q else a) (if b=P then q else b)) ⟨fun _=>ba.rf _,fun h=>ba.sy h,fun h k=>ba.tr h k⟩ (fun t ht=>by
   show dw pc L (if pc' t.1=P then q else pc' t.1) (if pc' t.2=P then q else pc' t.2)
   have hg:∀x,x<N->(if pc' (g x)=P then q else pc' (g x))=pc x:=by
    intro x hx
    have:=hP x hx
    rcases hpg x hx with e | ⟨e1,e2⟩
    ·rw [e,if_neg (by omega)]
    ·rw [e2,if_pos rfl,e1]
   rw [S.lg] at ht
   rcases List.mem_cons.1 ht with e | e
   ·subst e
    show dw pc L (if pc' d1=P then q else pc' d1) (if pc' d2=P then q else pc' d2)
    rw [h1,h2,if_neg (by omega),if_pos rfl];exact ba.rf _
   ·obtain ⟨u,hu,rfl⟩:=List.mem_map.1 e
    show dw pc L (if pc' (g u.1)=P then q else pc' (g u.1)) (if pc' (g u.2)=P then q else pc' (g u.2))
    rw [hg _ (hL u hu).1,hg _ (hL u hu).2]
    exact pA hu) h
 have hm:=Reps.mins (N:=P) (ba (pc:=pc) (L:=L))
 have hr:Reps (dw pc' L') (P+1) (cB (dw pc L) P):=by
  refine ⟨fun r hr=>by have:=hm.lt r hr;omega,?_,?_⟩
  ·refine hm.dis.imp_of_mem ?_
   intro a b ha hb hne he
   have h3:=down he
   have:=hm.lt a ha
   have:=hm.lt b hb
   rw [if_neg (by omega),if_neg (by omega)] at h3
   exact hne h3
  ·intro y hy
   by_cases e:y=P
   ·subst e
    obtain ⟨r,a,b⟩:=hm.cov q hq
    exact ⟨r,a,ba.tr (ba.sy hline) (up b)⟩
   ·obtain ⟨r,a,b⟩:=hm.cov y (by omega)
    exact ⟨r,a,up b⟩
 rw [←hr.len ba];rfl
end
structure SameS (P P':List Pc):Prop where
 len:P'.length=P.length
 s:∀q,(P'.getD q default).s=(P.getD q default).s
section
variable {P P':List Pc}{c:Cp}
theorem SameS.ks (h:SameS P P'){q:Nat}:ksN P' q=ksN P q:=by unfold ksN;rw [h.s]
theorem SameS.off (h:SameS P P'):∀{q:Nat},aZ P' q=aZ P q
 | 0=>rfl
 | q+1=>by rw [aZ,aZ,h.off,h.ks]
theorem SameS.ns (h:SameS P P'):nsN P'=nsN P:=by unfold nsN;rw [h.len,h.off]
theorem pC {i:Nat}(h:¬i<nsN P):(mz P P.length).getD i default=default:=by
 rw [List.getD_eq_getElem?_getD,List.getElem?_eq_none (by rw [gq];exact Nat.le_of_not_lt h)];rfl
theorem SameS.nx (h:SameS P P'):nxN P'=nxN P:=by
 funext i
 by_cases hi:i<nsN P
 ·obtain ⟨q,j,h1,h2,rfl⟩:=cH hi
  rw [ma h1 h2,←h.off,ma (by rw [h.len];exact h1) (by rw [h.ks];exact h2),h.ks]
 ·unfold nxN
  rw [pC hi,pC (by rw [h.ns];exact hi)]
theorem SameS.ln (h:SameS P P'):lnN P'=lnN P:=by
 funext i
 by_cases hi:i<nsN P
 ·obtain ⟨q,j,h1,h2,rfl⟩:=cH hi
  rw [ox h1 h2,←h.off,ox (by rw [h.len];exact h1) (by rw [h.ks];exact h2),h.s]
 ·unfold lnN
  rw [pC hi,pC (by rw [h.ns];exact hi)]
theorem SameS.pc (h:SameS P P'):pcN P'=pcN P:=by
 funext i
 by_cases hi:i<nsN P
 ·obtain ⟨q,j,h1,h2,rfl⟩:=cH hi
  rw [ir h1 h2,←h.off,ir (by rw [h.len];exact h1) (by rw [h.ks];exact h2)]
 ·unfold pcN
  rw [List.getD_eq_getElem?_getD,List.getD_eq_getElem?_getD,List.getElem?_eq_none (by rw [mb];have:=h.ns;unfold nsN at this hi;omega),List.getElem?_eq_none (by rw [mb];unfold nsN at hi;omega)]
theorem SameS.sd (h:SameS P P'):cz P'=cz P:=by
 funext a i
 unfold cz
 rw [h.len,h.ks]
theorem SameS.seam (h:SameS P P'):cN P'=cN P:=by
 funext e pre s
 unfold cN
 rw [h.sd,h.s,h.s]
theorem SameS.pr (h:SameS P P'):prL P'=prL P:=by
 funext l
 unfold prL
 have:prS P'=prS P:=by funext s;unfold prS;rw [h.off,h.off]
 rw [this]
def fN (c:Cp)(P':List Pc):Cp:=⟨P',c.S,c.e⟩
theorem SameS.ls (h:SameS c.P P'):lsN (fN c P')=lsN c:=by unfold lsN fN;exact congrFun h.pr _
theorem SameS.ok (h:SameS c.P P')(hok:CapOk c)(hp:∀q,q<c.P.length->cg (P'.getD q default)=true):CapOk (fN c P'):=by
 refine ⟨by unfold fN;simp only;rw [h.len];exact hok.np,fun q hq=>hp q (by unfold fN at hq;simp only at hq;rw [h.len] at hq;exact hq),hok.e,fun i hi => ?_⟩
 have:=hok.sm i hi
 unfold fN
 simp only
 rw [h.seam];exact this
theorem SameS.part (h:SameS c.P P'):dE (fN c P')=dE c:=by
 unfold dE
 rw [h.ls]
 unfold fN;simp only
 rw [h.pc,h.len]
theorem SameS.loop (h:SameS c.P P'):eJ (fN c P')=eJ c:=by
 unfold eJ
 rw [h.ls]
 unfold fN;simp only
 rw [h.nx,h.ns]
theorem SameS.euler (h:SameS c.P P'):iL (fN c P')=iL c:=by
 have e1:PtR (fN c P')=PtR c:=by
  unfold PtR
  rw [h.ls]
  unfold fN;simp only
  rw [h.nx,h.ns]
 unfold iL cI
 rw [List.length_map,List.length_map,e1]
 unfold fN;simp only
 rw [h.ns,h.len]
theorem SameS.hand (h:SameS c.P P'):fE (fN c P')=fE c:=by
 unfold fE
 rw [h.part,h.euler,h.loop]
theorem mJ:∀{l:List Int} {i:Nat} {x:Int},i<l.length->(l.set i x).sum=l.sum-l.getD i 0+x
 | a :: l,0,x,_=>by simp [List.getD_eq_getElem?_getD];omega
 | a :: l,i+1,x,h=>by
   have:=mJ (l:=l) (i:=i) (x:=x) (by simpa using h)
   have e:(a :: l).getD (i+1) 0=l.getD i 0:=by simp [List.getD_eq_getElem?_getD]
   rw [List.set_cons_succ,List.sum_cons,List.sum_cons,this,e];omega
theorem gP {l:List Int}{i t:Nat}{x:Int}(h:i<l.length):(l.set i x).getD t 0=if t=i then x else l.getD t 0:=by
 simp only [List.getD_eq_getElem?_getD,List.getElem?_set]
 by_cases e:i=t
 ·subst e;simp [h]
 ·rw [if_neg e,if_neg (fun h=>e h.symm)]
def Jr (a:List Int)(j k:Nat)(n:Int):List Int:=(a.set j (a.getD j 0-n)).set ((j+1) % k) ((a.set j (a.getD j 0-n)).getD ((j+1) % k) 0+n)
def tu (a:List Int)(j k:Nat)(n:Int):Bool:=decide (1<=n/\n<=a.getD j 0-1/\n<=359-a.getD ((j+1) % k) 0)
def oz (P:List Pc)(q j:Nat)(n:Int):List Pc:=P.set q ⟨(P.getD q default).s,Jr (P.getD q default).a j (ksN P q) n⟩
theorem gU {i t:Nat}{x:Pc}(h:i<P.length):(P.set i x).getD t default=if t=i then x else P.getD t default:=by
 simp only [List.getD_eq_getElem?_getD,List.getElem?_set]
 by_cases e:i=t
 ·subst e;simp [h]
 ·rw [if_neg e,if_neg (fun h=>e h.symm)]
theorem tZ {q j:Nat}{n:Int}(hq:q<P.length):SameS P (oz P q j n):=by
 refine ⟨by simp [oz],fun t => ?_⟩
 rw [oz,gU hq]
 split
 ·rename_i e;rw [e]
 ·rfl
theorem Dk {j k:Nat}(h:j<k)(h2:2<=k):(j+1) % k≠j/\(j+1) % k<k:=by
 have:(j+1) % k<k:=Nat.mod_lt _ (by omega)
 rw [mj h] at *
 split<;>omega
theorem BX {p:Pc}{j:Nat}{n:Int}(hp:cg p=true)(hj:j<p.s.length)(hb:tu p.a j p.s.length n=true):cg ⟨p.s,Jr p.a j p.s.length n⟩=true:=by
 obtain ⟨h1,h2,h3,h4⟩:=co hp
 obtain ⟨n1,n2⟩:=Dk hj (by omega)
 simp only [tu,decide_eq_true_eq] at hb
 unfold cg Jr
 generalize (j+1) % p.s.length=m at *
 have hj2:j<p.a.length:=by omega
 have hm2:m<(p.a.set j (p.a.getD j 0-n)).length:=by rw [List.length_set];omega
 have e1:(p.a.set j (p.a.getD j 0-n)).getD m 0=p.a.getD m 0:=by rw [gP hj2,if_neg n1]
 have hm3:=(h3 m n2).2
 have hj3:=(h3 j hj).2
 simp only [Bool.and_eq_true,decide_eq_true_eq,List.all_eq_true,List.mem_range]
 refine ⟨h1,by simp [h2],fun i hi=>⟨(h3 i hi).1,?_⟩,?_⟩
 ·have hi3:=(h3 i hi).2
  rw [gP hm2,e1,gP hj2]
  split
  ·rename_i e;rw [e] at hi3;omega
  ·split
   ·rename_i e;rw [e] at hi3;omega
   ·omega
 ·rw [mJ hm2,e1,mJ hj2,h4];omega
theorem Of {q j:Nat}{n:Int}(hok:CapOk c)(hq:q<c.P.length)(hj:j<ksN c.P q)(hb:tu (c.P.getD q default).a j (ksN c.P q) n=true):CapOk (fN c (oz c.P q j n)):=by
 refine (tZ hq).ok hok fun t ht => ?_
 rw [oz,gU hq]
 split
 ·exact BX (hok.pc q hq) hj hb
 ·exact hok.pc t ht
def atQ (P:List Pc)(i:Nat):Nat:=pcN P i
def atJ (P:List Pc)(i:Nat):Nat:=i-aZ P (pcN P i)
noncomputable def iJ (c:Cp)(i n:Int):Int :=
 if cF c≠0 then cF c else if ¬(0<=i/\i<nsN c.P) then 5 else
 if tu (c.P.getD (atQ c.P i.toNat) default).a (atJ c.P i.toNat) (ksN c.P (atQ c.P i.toNat)) n then 0 else 1
noncomputable def oy (c:Cp)(i n:Int):Cp:=fN c (oz c.P (atQ c.P i.toNat) (atJ c.P i.toNat) n)
theorem nF {q j:Nat}(hq:q<P.length)(hj:j<ksN P q):atQ P (aZ P q+j)=q/\atJ P (aZ P q+j)=j:=by
 unfold atQ atJ
 rw [ir hq hj]
 exact ⟨rfl,by omega⟩
theorem Cb {i n:Int}(h:iJ c i n=0):CapOk c/\CapOk (oy c i n)/\SameS c.P (oy c i n).P/\oy c i n=fN c (oy c i n).P:=by
 unfold iJ at h
 by_cases h0:cF c=0
 case neg=>rw [if_pos h0] at h;exact absurd h h0
 rw [if_neg (fun g=>g h0)] at h
 by_cases h1:0<=i/\i<nsN c.P
 case neg=>rw [if_pos h1] at h;omega
 rw [if_neg (fun g=>g h1)] at h
 have hok:=cX.1 h0
 obtain ⟨q,j,g1,g2,g3⟩:=cH (pcs:=c.P) (i:=i.toNat) (p:=c.P.length) (by have:aZ c.P c.P.length=nsN c.P:=rfl;omega)
 unfold oy
 rw [g3,(nF g1 g2).1,(nF g1 g2).2] at h ⊢
 split at h
 ·rename_i hb
  exact ⟨hok,Of hok g1 g2 hb,tZ g1,rfl⟩
 ·omega
end
def rot (l:List Int)(k i m:Nat):List Int:=(List.range m).map fun t=>l.getD ((i+t) % k) 0
def stp (k i j:Nat):Nat:=(j+k-i) % k
section
variable {l:List Int}{k i j m:Nat}{x ln:Int}{p:Pc}
theorem ci:(rot l k i m).length=m:=by simp [rot]
theorem qF:rot l k i (m+1)=rot l k i m++[l.getD ((i+m) % k) 0]:=by simp [rot,List.range_succ]
theorem kM {t:Nat}(h:t<m):(rot l k i m).getD t 0=l.getD ((i+t) % k) 0:=kP h
theorem Ep {t:Nat}(hi:i<k)(ht:t<=k):(i+t) % k=if i+t<k then i+t else i+t-k:=by
 split
 ·rename_i h;exact Nat.mod_eq_of_lt h
 ·rename_i h
  have e:i+t=i+t-k+k:=by omega
  rw [e,Nat.add_mod_right,Nat.mod_eq_of_lt (by omega)];omega
theorem j9 (hi:i<k)(hj:j<k):stp k i j=if i<=j then j-i else j+k-i:=by
 unfold stp
 split
 ·rename_i h
  rw [show j+k-i=j-i+k by omega,Nat.add_mod_right,Nat.mod_eq_of_lt (by omega)]
 ·rename_i h
  exact Nat.mod_eq_of_lt (by omega)
theorem j7 (hi:i<k)(hj:j<k):stp k i j<k:=Nat.mod_lt _ (by omega)
theorem kw (hi:i<k)(hj:j<k):(i+stp k i j) % k=j:=by
 have:=j7 hi hj
 rw [Ep hi (by omega),j9 hi hj]
 split<;>split<;>omega
theorem Qa (hi:i<k)(hj:j<k){t:Nat}(ht:t<stp k i j):(i+t) % k≠j:=by
 have:=j7 hi hj
 rw [Ep hi (by omega)]
 rw [j9 hi hj] at ht
 split<;>split at ht<;>omega
theorem gH (hi:i<k)(hj:j<k)(h:i≠j):0<stp k i j:=by
 rw [j9 hi hj]
 split<;>omega
theorem pE (hi:i<k)(hj:j<k)(h:i≠j):stp k i j+stp k j i=k:=by
 rw [j9 hi hj,j9 hj hi]
 split<;>split<;>omega
theorem Pg (hi:i<l.length):(rot l l.length i l.length).sum=l.sum:=by
 have e1:((List.range l.length).map fun t=>l.getD ((i+t) % l.length) 0).sum=((List.range (l.length-i)).map fun t=>l.getD (i+t) 0).sum+((List.range i).map fun t=>l.getD t 0).sum:=by
  have e:l.length=(l.length-i)+i:=by omega
  conv=>lhs;arg 1;arg 2;rw [e]
  rw [kB]
  congr 1
  ·congr 1
   refine List.map_congr_left fun t ht => ?_
   have:=List.mem_range.1 ht
   rw [Nat.mod_eq_of_lt (by omega)]
  ·congr 1
   refine List.map_congr_left fun t ht => ?_
   have:=List.mem_range.1 ht
   rw [show i+(l.length-i+t)=t+l.length by omega,Nat.add_mod_right,Nat.mod_eq_of_lt (by omega)]
 have e2:((List.range l.length).map fun t=>l.getD t 0).sum=l.sum:=zF
 have e3:((List.range l.length).map fun t=>l.getD t 0).sum=((List.range i).map fun t=>l.getD t 0).sum+((List.range (l.length-i)).map fun t=>l.getD (i+t) 0).sum:=by
  have e:l.length=i+(l.length-i):=by omega
  conv=>lhs;arg 1;arg 2;rw [e]
  rw [kB]
 unfold rot
 rw [e1,←e2,e3];omega
theorem Pd (hi:i<l.length)(hj:j<l.length)(h:i≠j):(rot l l.length i (stp l.length i j)).sum+(rot l l.length j (stp l.length j i)).sum=l.sum:=by
 rw [←Pg hi]
 have ha:=pE hi hj h
 have hat:=kw hi hj
 unfold rot
 conv=>rhs;arg 1;arg 2;rw [←ha]
 rw [kB]
 congr 2
 refine List.map_congr_left fun t ht => ?_
 congr 1
 rw [←Nat.add_assoc,←Nat.mod_add_mod (i+stp l.length i j),hat]
def fM (p:Pc)(i m:Nat)(x:Int):Int:=180*((m:Int)-1)-((rot p.a p.s.length i m).set 0 x).sum
def eg (p:Pc)(i m:Nat)(ln x:Int):Pc:=⟨rot p.s p.s.length i m++[ln],(rot p.a p.s.length i m).set 0 x++[fM p i m x]⟩
theorem pZ (hm:0<m)(hi:i<p.s.length):fM p i m x=180*((m:Int)-1)-(rot p.a p.s.length i m).sum+p.a.getD i 0-x:=by
 unfold fM
 rw [mJ (by rw [ci];exact hm),kM hm,Nat.add_zero,Nat.mod_eq_of_lt hi]
 omega
theorem tC (hp:cg p=true)(hi:i<p.s.length)(hj:j<p.s.length)(h:i≠j):fM p j (stp p.s.length j i) (p.a.getD j 0-fM p i (stp p.s.length i j) x)=p.a.getD i 0-x:=by
 obtain ⟨h1,h2,h3,h4⟩:=co hp
 rw [pZ (gH hj hi h.symm) hj,pZ (gH hi hj h) hi]
 have e1:=pE hi hj h
 have e2:=Pd (l:=p.a) (i:=i) (j:=j) (by omega) (by omega) h
 rw [h2,h4] at e2
 omega
end
def mvP (A P k i n:Nat)(a b:Int):Int:=if a=A then (if stp k i b.toNat<n then (A:Int) else (P:Int)) else a
def mvI (A k i n:Nat)(a b:Int):Int:=if a=A then (if stp k i b.toNat<n then (stp k i b.toNat:Int) else ((stp k i b.toNat-n:Nat):Int)) else b
def mvS (A P k i n:Nat)(s:Sm):Sm:=⟨mvP A P k i n s.A s.I,mvI A k i n s.A s.I,mvP A P k i n s.B s.J,mvI A k i n s.B s.J⟩
def Ac (k i j:Nat)(ln an:Int):Bool:=decide (i≠j/\(i+1) % k≠j/\(j+1) % k≠i/\(1<=ln/\ln<=200)/\(1<=an/\an<=359))
def GQ (p:Pc)(i j:Nat)(an:Int):Bool:=decide ((1<=fM p i (stp p.s.length i j) an/\fM p i (stp p.s.length i j) an<=359)/\(1<=p.a.getD j 0-fM p i (stp p.s.length i j) an/\p.a.getD j 0-fM p i (stp p.s.length i j) an<=359)/\(1<=p.a.getD i 0-an/\p.a.getD i 0-an<=359))
def m7 (c:Cp)(A i j ln an:Int):Int :=
 if cF c≠0 then cF c else if !(cz c.P A i&&cz c.P A j) then 5 else
 if !(Ac (ksN c.P A.toNat) i.toNat j.toNat ln an&&GQ (c.P.getD A.toNat default) i.toNat j.toNat an) then 1 else if c.P.length=8 then 4 else 0
def h1P (p:Pc)(i j:Nat)(ln an:Int):Pc:=eg p i (stp p.s.length i j) ln an
def h2P (p:Pc)(i j:Nat)(ln an:Int):Pc:=eg p j (stp p.s.length j i) ln (p.a.getD j 0-fM p i (stp p.s.length i j) an)
def dY (P:List Pc)(A i j:Nat)(ln an:Int):List Pc:=P.set A (h1P (P.getD A default) i j ln an)++[h2P (P.getD A default) i j ln an]
def jR (P:List Pc)(S:List Sm)(A i j:Nat):List Sm:=S.map (mvS A P.length (ksN P A) i (stp (ksN P A) i j))++[⟨(A:Int),(stp (ksN P A) i j:Int),(P.length:Int),(stp (ksN P A) j i:Int)⟩]
def Rm (c:Cp)(A i j ln an:Int):Cp:=⟨dY c.P A.toNat i.toNat j.toNat ln an,jR c.P c.S A.toNat i.toNat j.toNat,c.e⟩
section
variable {k i j b:Nat}
theorem Ow (hi:i<k)(hj:j<k)(hb:b<k)(h:stp k i j<=stp k i b):stp k j b=stp k i b-stp k i j:=by
 have e1:=j9 hi hj
 have e2:=j9 hi hb
 rw [j9 hj hb]
 split at e1<;>split at e2<;>split<;>omega
theorem CapOk.smB {c:Cp}(h:CapOk c){t:Nat}(ht:t<c.S.length):cz c.P (c.S.getD t default).A (c.S.getD t default).I=true/\cz c.P (c.S.getD t default).B (c.S.getD t default).J=true:=(gL (h.sm t ht)).1
end
section
variable {k i j b:Nat}
theorem Ej {b':Nat}(hi:i<k)(hb:b<k)(hb':b'<k)(h:stp k i b=stp k i b'):b=b':=by
 have e1:=kw hi hb
 have e2:=kw hi hb'
 rw [h] at e1;omega
end
structure Cut (P P':List Pc)(q i j n m:Nat):Prop where
 hq:q<P.length
 hi:i<ksN P q
 hj:j<ksN P q
 hij:i≠j
 hn:n=stp (ksN P q) i j
 hm:m=stp (ksN P q) j i
 len:P'.length=P.length+1
 ks:∀t,t<P.length->t≠q->ksN P' t=ksN P t
 k1:ksN P' q=n+1
 k2:ksN P' P.length=m+1
def gS (P P':List Pc)(q i n x:Nat):Nat :=
 if pcN P x=q then (if stp (ksN P q) i (x-aZ P (pcN P x))<n then aZ P' q+stp (ksN P q) i (x-aZ P (pcN P x)) else aZ P' P.length+(stp (ksN P q) i (x-aZ P (pcN P x))-n)) else aZ P' (pcN P x)+(x-aZ P (pcN P x))
section
variable {P P':List Pc}{q i j n m t b:Nat}
theorem P1 (ht:t<P.length)(hb:b<ksN P t):gS P P' q i n (aZ P t+b)=if t=q then (if stp (ksN P q) i b<n then aZ P' q+stp (ksN P q) i b else aZ P' P.length+(stp (ksN P q) i b-n)) else aZ P' t+b:=by
 unfold gS
 rw [ir ht hb,show aZ P t+b-aZ P t=b by omega]
theorem Cut.nm (h:Cut P P' q i j n m):(0<n/\0<m)/\n+m=ksN P q:=by
 refine ⟨⟨?_,?_⟩,?_⟩
 ·rw [h.hn];exact gH h.hi h.hj h.hij
 ·rw [h.hm];exact gH h.hj h.hi h.hij.symm
 ·rw [h.hn,h.hm];exact pE h.hi h.hj h.hij
theorem Cut.loc (h:Cut P P' q i j n m)(ht:t<P.length)(hb:b<ksN P t):∃t' b',t'<P'.length/\b'<ksN P' t'/\gS P P' q i n (aZ P t+b)=aZ P' t'+b'/\(t'=q->b'<n)/\(t'=P.length->b'<m)/\((t≠q/\t'=t/\b'=b)\/(t=q/\stp (ksN P q) i b<n/\t'=q/\b'=stp (ksN P q) i b)\/(t=q/\n<=stp (ksN P q) i b/\t'=P.length/\b'=stp (ksN P q) i b-n)):=by
 obtain ⟨⟨n0,m0⟩,nm⟩:=h.nm
 have hq:=h.hq
 have hl:=h.len
 rw [P1 ht hb]
 by_cases e:t=q
 ·subst e
  have hs:stp (ksN P t) i b<ksN P t:=j7 h.hi hb
  rw [if_pos rfl]
  by_cases e2:stp (ksN P t) i b<n
  ·rw [if_pos e2]
   exact ⟨t,_,by omega,by rw [h.k1];omega,rfl,fun _=>e2,fun g=>by omega,Or.inr (Or.inl ⟨rfl,e2,rfl,rfl⟩)⟩
  ·rw [if_neg e2]
   exact ⟨P.length,_,by omega,by rw [h.k2];omega,rfl,fun g=>by omega,fun _=>by omega,Or.inr (Or.inr ⟨rfl,by omega,rfl,rfl⟩)⟩
 ·rw [if_neg e]
  exact ⟨t,b,by omega,by rw [h.ks t ht e];exact hb,rfl,fun g=>absurd g e,fun g=>by omega,Or.inl ⟨e,rfl,rfl⟩⟩
end
section
variable {P P':List Pc}{c:Cp}{q i j n m t b:Nat}{ln an e:Int}
theorem Cut.glt (h:Cut P P' q i j n m){x:Nat}(hx:x<nsN P):gS P P' q i n x<nsN P'/\gS P P' q i n x≠aZ P' q+n/\gS P P' q i n x≠aZ P' P.length+m:=by
 have k1:=h.k1
 have k2:=h.k2
 obtain ⟨t,b,h1,h2,rfl⟩:=cH hx
 obtain ⟨t',b',g1,g2,g3,g4,g5,_⟩:=h.loc h1 h2
 rw [g3]
 refine ⟨fh g1 g2,fun e => ?_,fun e => ?_⟩
 ·obtain ⟨e1,e2⟩:=eY g2 (by rw [k1];omega) e
  have:=g4 e1;omega
 ·obtain ⟨e1,e2⟩:=eY g2 (by rw [k2];omega) e
  have:=g5 e1;omega
theorem Cut.ginj (h:Cut P P' q i j n m){x y:Nat}(hx:x<nsN P)(hy:y<nsN P)(e:gS P P' q i n x=gS P P' q i n y):x=y:=by
 have hq:=h.hq
 obtain ⟨t,b,h1,h2,rfl⟩:=cH hx
 obtain ⟨u,c,h3,h4,rfl⟩:=cH hy
 obtain ⟨t',b',g1,g2,g3,g4,g5,g6⟩:=h.loc h1 h2
 obtain ⟨u',c',f1,f2,f3,f4,f5,f6⟩:=h.loc h3 h4
 rw [g3,f3] at e
 obtain ⟨e1,e2⟩:=eY g2 f2 e
 have key:t=u/\b=c:=by
  rcases g6 with ⟨p1,p2,p3⟩ | ⟨p1,p2,p3,p4⟩ | ⟨p1,p2,p3,p4⟩<;>rcases f6 with ⟨r1,r2,r3⟩ | ⟨r1,r2,r3,r4⟩ | ⟨r1,r2,r3,r4⟩
  ·omega
  ·omega
  ·omega
  ·omega
  ·subst p1;subst r1;exact ⟨rfl,Ej h.hi h2 h4 (by omega)⟩
  ·omega
  ·omega
  ·omega
  ·subst p1;subst r1;exact ⟨rfl,Ej h.hi h2 h4 (by omega)⟩
 rw [key.1,key.2]
theorem iU {P:List Pc}(ht:t<P.length):(dY P q i j ln an).getD t default=if t=q then h1P (P.getD q default) i j ln an else P.getD t default:=by
 unfold dY
 rw [bL (by simpa using ht)]
 by_cases hq:q<P.length
 ·rw [gU hq]
 ·rw [List.set_eq_of_length_le (by omega),if_neg (by omega)]
theorem kH {P:List Pc}:(dY P q i j ln an).getD P.length default=h2P (P.getD q default) i j ln an:=by
 unfold dY
 rw [fY (j:=0) (by simp)];rfl
theorem El (hq:q<P.length)(hi:i<ksN P q)(hj:j<ksN P q)(hij:i≠j):Cut P (dY P q i j ln an) q i j (stp (ksN P q) i j) (stp (ksN P q) j i):=by
 refine ⟨hq,hi,hj,hij,rfl,rfl,by simp [dY],fun t ht hne => ?_,?_,?_⟩
 ·unfold ksN;rw [iU ht,if_neg hne]
 ·unfold ksN;rw [iU hq,if_pos rfl];simp [h1P,eg,ci]
 ·unfold ksN;rw [kH];simp [h2P,eg,ci]
theorem PD (h:Cut P P' q i j n m){a b:Int}(hs:cz P a b=true):cz P' (mvP q P.length (ksN P q) i n a b) (mvI q (ksN P q) i n a b)=true/\aZ P' (mvP q P.length (ksN P q) i n a b).toNat+(mvI q (ksN P q) i n a b).toNat=gS P P' q i n (aZ P a.toNat+b.toNat):=by
 obtain ⟨h1,h2,h3,h4⟩:=cK hs
 obtain ⟨⟨n0,m0⟩,nm⟩:=h.nm
 have hq:=h.hq
 have hl:=h.len
 have k1:=h.k1
 have k2:=h.k2
 rw [P1 h1 h2]
 unfold mvP mvI cz
 by_cases e:a=q
 ·have e':a.toNat=q:=by omega
  have hst:stp (ksN P q) i b.toNat<ksN P q:=j7 h.hi (by rw [←e'];exact h2)
  rw [if_pos e,if_pos e,if_pos e']
  by_cases e2:stp (ksN P q) i b.toNat<n
  ·rw [if_pos e2,if_pos e2,if_pos e2]
   simp only [Int.toNat_natCast,Bool.and_eq_true,decide_eq_true_eq]
   exact ⟨⟨by omega,by rw [k1];omega⟩,trivial⟩
  ·rw [if_neg e2,if_neg e2,if_neg e2]
   simp only [Int.toNat_natCast,Bool.and_eq_true,decide_eq_true_eq]
   exact ⟨⟨by omega,by rw [k2];omega⟩,trivial⟩
 ·have e':¬a.toNat=q:=by omega
  rw [if_neg e,if_neg e,if_neg e']
  simp only [Bool.and_eq_true,decide_eq_true_eq]
  exact ⟨⟨by omega,by rw [h.ks _ h1 e'];omega⟩,trivial⟩
theorem Jv (hq:q<P.length)(hi:i<ksN P q)(hj:j<ksN P q)(hij:i≠j){x:Nat}(hx:x<nsN P):lnN (dY P q i j ln an) (gS P (dY P q i j ln an) q i (stp (ksN P q) i j) x)=lnN P x:=by
 have h:=El (ln:=ln) (an:=an) hq hi hj hij
 obtain ⟨t,b,h1,h2,rfl⟩:=cH hx
 obtain ⟨t',b',g1,g2,g3,g4,g5,g6⟩:=h.loc h1 h2
 rw [g3,ox g1 g2,ox h1 h2]
 rcases g6 with ⟨p1,p2,p3⟩ | ⟨p1,p2,p3,p4⟩ | ⟨p1,p2,p3,p4⟩
 ·subst p2;subst p3
  rw [iU h1,if_neg p1]
 ·subst p3;subst p1;subst p4
  rw [iU hq,if_pos rfl]
  unfold h1P eg
  simp only
  rw [bL (by rw [ci];exact p2),kM (show stp (ksN P t) i b<stp (P.getD t default).s.length i j from p2)]
  show (P.getD t default).s.getD ((i+stp (ksN P t) i b) % ksN P t) 0=_
  rw [kw h.hi h2]
 ·subst p3;subst p1;subst p4
  rw [kH]
  have hr:=Ow h.hi h.hj h2 p2
  have hlt:stp (ksN P t) i b-stp (ksN P t) i j<stp (ksN P t) j i:=g5 rfl
  unfold h2P eg
  simp only
  rw [bL (by rw [ci];exact hlt),kM (show stp (ksN P t) i b-stp (ksN P t) i j<stp (P.getD t default).s.length j i from hlt)]
  show (P.getD t default).s.getD ((j+(stp (ksN P t) i b-stp (ksN P t) i j)) % ksN P t) 0=_
  rw [←hr,kw h.hj h2]
theorem Dr {ease:Int}{pre:List Sm}{s:Sm}(h1:cz P s.A s.I=true/\cz P s.B s.J=true)(h2:¬(s.A=s.B/\s.I=s.J))(h3:∀t∈pre,db t s.A s.I=false/\db t s.B s.J=false)(h4:(P.getD s.A.toNat default).s.getD s.I.toNat 0-(P.getD s.B.toNat default).s.getD s.J.toNat 0<=ease/\-((P.getD s.A.toNat default).s.getD s.I.toNat 0-(P.getD s.B.toNat default).s.getD s.J.toNat 0)<=ease):cN P ease pre s=0:=by
 unfold cN
 rw [h1.1,h1.2]
 have e1:(decide (s.A=s.B)&&decide (s.I=s.J))=false:=by
  rw [Bool.and_eq_false_iff]
  by_cases g:s.A=s.B
  ·exact Or.inr (decide_eq_false fun g2=>h2 ⟨g,g2⟩)
  ·exact Or.inl (decide_eq_false g)
 have e2:(pre.any fun t=>db t s.A s.I||db t s.B s.J)=false:=by
  rw [List.any_eq_false]
  intro t ht
  rw [(h3 t ht).1,(h3 t ht).2];simp
 rw [e1,e2,if_neg (by simp),if_neg (by simp),if_neg (by omega)]
theorem D4 {p:Pc}{x:Int}{d:Nat}(hp:cg p=true)(hi:i<p.s.length)(hd:2<=d/\d<=5)(hln:1<=ln/\ln<=200)(hx:1<=x/\x<=359)(hz:1<=fM p i d x/\fM p i d x<=359):cg (eg p i d ln x)=true:=by
 obtain ⟨h1,h2,h3,h4⟩:=co hp
 have e1:(eg p i d ln x).s.length=d+1:=by simp [eg,ci]
 have e2:(eg p i d ln x).a.length=d+1:=by simp [eg,ci]
 have hrl:(rot p.a p.s.length i d).length=d:=ci
 unfold cg
 simp only [Bool.and_eq_true,decide_eq_true_eq,List.all_eq_true,List.mem_range]
 refine ⟨by omega,by omega,fun t ht => ?_,?_⟩
 ·rw [e1] at ht
  have hm:=h3 ((i+t) % p.s.length) (Nat.mod_lt _ (by omega))
  unfold eg
  simp only
  by_cases e:t=d
  ·subst e
   rw [fY (j:=0) (by simp [ci]),fY (j:=0) (by simp [ci])]
   exact ⟨hln,hz⟩
  ·rw [bL (by rw [ci];omega),bL (by rw [List.length_set,ci];omega),kM (by omega),gP (by omega),kM (by omega)]
   refine ⟨hm.1,?_⟩
   split
   ·exact hx
   ·exact hm.2
 ·rw [e1]
  unfold eg fM
  simp only
  rw [List.sum_append]
  simp only [List.sum_cons,List.sum_nil]
  omega
structure GoodC (c:Cp)(q i j:Nat)(ln an:Int):Prop where
 ok:CapOk c
 hq:q<c.P.length
 hi:i<ksN c.P q
 hj:j<ksN c.P q
 hB:Ac (ksN c.P q) i j ln an=true
 hZ:GQ (c.P.getD q default) i j an=true
 h8:c.P.length≠8
theorem NM {A I J:Int}(h:m7 c A I J ln an=0):∃q i j:Nat,A=q/\I=i/\J=j/\GoodC c q i j ln an:=by
 unfold m7 at h
 by_cases h0:cF c=0
 case neg=>rw [if_pos h0] at h;exact absurd h h0
 rw [if_neg (fun g=>g h0)] at h
 cases h1:cz c.P A I&&cz c.P A J with
 | false=>rw [h1] at h;simp at h
 | true =>
   rw [h1] at h
   cases h2:Ac (ksN c.P A.toNat) I.toNat J.toNat ln an&&GQ (c.P.getD A.toNat default) I.toNat J.toNat an with
   | false=>rw [h2] at h;simp at h
   | true =>
     rw [h2] at h
     rw [Bool.and_eq_true] at h1 h2
     obtain ⟨a1,a2,a3,a4⟩:=cK h1.1
     obtain ⟨_,b2,_,b4⟩:=cK h1.2
     refine ⟨A.toNat,I.toNat,J.toNat,by omega,by omega,by omega,cX.1 h0,a1,a2,b2,h2.1,h2.2,fun g => ?_⟩
     rw [g] at h;simp at h
theorem GoodC.ij (h:GoodC c q i j ln an):i≠j/\(2<=stp (ksN c.P q) i j/\2<=stp (ksN c.P q) j i)/\(1<=ln/\ln<=200)/\(1<=an/\an<=359):=by
 have hB:=h.hB
 simp only [Ac,decide_eq_true_eq] at hB
 obtain ⟨b1,b2,b3,b4,b5⟩:=hB
 have hi:=h.hi
 have hj:=h.hj
 have p1:=gH hi hj b1
 have p2:=gH hj hi b1.symm
 have a1:=kw hi hj
 have a2:=kw hj hi
 refine ⟨b1,⟨?_,?_⟩,b4,b5⟩
 ·apply Classical.byContradiction
  intro g
  have:stp (ksN c.P q) i j=1:=by omega
  rw [this] at a1;exact b2 a1
 ·apply Classical.byContradiction
  intro g
  have:stp (ksN c.P q) j i=1:=by omega
  rw [this] at a2;exact b3 a2
def Qz (c:Cp)(q i j:Nat)(ln an:Int):Cp:=⟨dY c.P q i j ln an,jR c.P c.S q i j,c.e⟩
theorem GoodC.cut (h:GoodC c q i j ln an):Cut c.P (dY c.P q i j ln an) q i j (stp (ksN c.P q) i j) (stp (ksN c.P q) j i):=El h.hq h.hi h.hj h.ij.1
theorem GoodC.pieces (h:GoodC c q i j ln an):∀t,t<(dY c.P q i j ln an).length->cg ((dY c.P q i j ln an).getD t default)=true:=by
 intro t ht
 have hl:=h.cut.len
 have hp:=h.ok.pc q h.hq
 obtain ⟨h1,⟨h2,h3⟩,h4,h5⟩:=h.ij
 have ha:=pE h.hi h.hj h1
 have hk:=h.ok.ks h.hq
 have hZ:=h.hZ
 simp only [GQ,decide_eq_true_eq] at hZ
 by_cases e:t=c.P.length
 ·subst e
  rw [kH]
  have z2:=tC (x:=an) hp h.hi h.hj h1
  refine D4 hp h.hj ⟨h3,?_⟩ h4 hZ.2.1 (by rw [z2];exact hZ.2.2)
  show stp (ksN c.P q) j i<=5
  omega
 ·rw [iU (by omega)]
  split
  ·refine D4 hp h.hi ⟨h2,?_⟩ h4 h5 hZ.1
   show stp (ksN c.P q) i j<=5
   omega
  ·exact h.ok.pc t (by omega)
theorem vB {s:Sm}(h1:cz P s.A s.I=true/\cz P s.B s.J=true):(prS P s).1<nsN P/\(prS P s).2<nsN P:=by
 obtain ⟨a1,a2,a3,a4⟩:=cK h1.1
 obtain ⟨b1,b2,b3,b4⟩:=cK h1.2
 exact ⟨fh a1 a2,fh b1 b2⟩
theorem kQ {s:Sm}{a b:Int}(h1:cz P s.A s.I=true/\cz P s.B s.J=true)(hs:cz P a b=true):db s a b=true↔(prS P s).1=aZ P a.toNat+b.toNat\/(prS P s).2=aZ P a.toNat+b.toNat:=by
 obtain ⟨a1,a2,a3,a4⟩:=cK h1.1
 obtain ⟨b1,b2,b3,b4⟩:=cK h1.2
 obtain ⟨c1,c2,c3,c4⟩:=cK hs
 simp only [db,Bool.or_eq_true,Bool.and_eq_true,decide_eq_true_eq,prS]
 constructor
 ·rintro (⟨e1,e2⟩ | ⟨e1,e2⟩)
  ·exact Or.inl (by rw [e1,e2])
  ·exact Or.inr (by rw [e1,e2])
 ·rintro (e | e)
  ·obtain ⟨e1,e2⟩:=eY a2 c2 e
   exact Or.inl ⟨by omega,by omega⟩
  ·obtain ⟨e1,e2⟩:=eY b2 c2 e
   exact Or.inr ⟨by omega,by omega⟩
end
section
variable {P P':List Pc}{c:Cp}{q i j n m t b:Nat}{ln an e:Int}
theorem CapOk.sdM (h:CapOk c){s:Sm}(hs:s∈c.S):cz c.P s.A s.I=true/\cz c.P s.B s.J=true:=by
 obtain ⟨k,hk,hk2⟩:=List.getElem_of_mem hs
 have e:c.S.getD k default=s:=by rw [←hk2,List.getD_eq_getElem?_getD,List.getElem?_eq_getElem hk];rfl
 rw [←e];exact h.smB hk
theorem pH (h:Cut P P' q i j n m){s:Sm}(hs:cz P s.A s.I=true/\cz P s.B s.J=true) :
 (cz P' (mvS q P.length (ksN P q) i n s).A (mvS q P.length (ksN P q) i n s).I=true/\cz P' (mvS q P.length (ksN P q) i n s).B (mvS q P.length (ksN P q) i n s).J=true) /\
  prS P' (mvS q P.length (ksN P q) i n s)=(gS P P' q i n (prS P s).1,gS P P' q i n (prS P s).2):=by
 obtain ⟨a1,a2⟩:=PD h hs.1
 obtain ⟨b1,b2⟩:=PD h hs.2
 exact ⟨⟨a1,b1⟩,Prod.ext a2 b2⟩
theorem kO {a b:Int}(hs:cz P a b=true):(P.getD a.toNat default).s.getD b.toNat 0=lnN P (aZ P a.toNat+b.toNat):=by
 obtain ⟨a1,a2,_,_⟩:=cK hs
 rw [ox a1 a2]
theorem xS (h:Cut P P' q i j n m):(cz P' (q:Int) (n:Int)=true/\cz P' (P.length:Int) (m:Int)=true)/\prS P' ⟨(q:Int),(n:Int),(P.length:Int),(m:Int)⟩=(aZ P' q+n,aZ P' P.length+m):=by
 have k1:=h.k1
 have k2:=h.k2
 have hl:=h.len
 have hq:=h.hq
 refine ⟨⟨?_,?_⟩,by simp [prS]⟩
 ·simp only [cz,Bool.and_eq_true,decide_eq_true_eq,Int.toNat_natCast];omega
 ·simp only [cz,Bool.and_eq_true,decide_eq_true_eq,Int.toNat_natCast];omega
theorem GoodC.lns (h:GoodC c q i j ln an):lnN (dY c.P q i j ln an) (aZ (dY c.P q i j ln an) q+stp (ksN c.P q) i j)=ln/\lnN (dY c.P q i j ln an) (aZ (dY c.P q i j ln an) c.P.length+stp (ksN c.P q) j i)=ln:=by
 have hc:=h.cut
 have k1:=hc.k1
 have k2:=hc.k2
 have hl:=hc.len
 have hq:=h.hq
 constructor
 ·rw [ox (by omega) (by omega),iU hq,if_pos rfl]
  unfold h1P eg
  simp only
  rw [fY (j:=0) (by rw [ci];rfl)];rfl
 ·rw [ox (by omega) (by omega),kH]
  unfold h2P eg
  simp only
  rw [fY (j:=0) (by rw [ci];rfl)];rfl
theorem GoodC.capOk (h:GoodC c q i j ln an):CapOk (Qz c q i j ln an):=by
 have hc:=h.cut
 have hl:=hc.len
 have hq:=h.hq
 have hok:=h.ok
 have hsl:(jR c.P c.S q i j).length=c.S.length+1:=by simp [jR]
 refine ⟨?_,h.pieces,hok.e,fun t ht => ?_⟩
 ·have:=hok.np
  have:=h.h8
  show 1<=(dY c.P q i j ln an).length/\(dY c.P q i j ln an).length<=8
  omega
 ·show cN (dY c.P q i j ln an) c.e ((jR c.P c.S q i j).take t) ((jR c.P c.S q i j).getD t default)=0
  have ht:t<(jR c.P c.S q i j).length:=ht
  have hml:(c.S.map (mvS q c.P.length (ksN c.P q) i (stp (ksN c.P q) i j))).length=c.S.length:=by simp
  by_cases e:t=c.S.length
  ·subst e
   have e1:(jR c.P c.S q i j).take c.S.length=c.S.map (mvS q c.P.length (ksN c.P q) i (stp (ksN c.P q) i j)):=by
    unfold jR
    rw [List.take_append_of_le_length (by omega),List.take_of_length_le (by omega)]
   have e2:(jR c.P c.S q i j).getD c.S.length default=⟨(q:Int),(stp (ksN c.P q) i j:Int),(c.P.length:Int),(stp (ksN c.P q) j i:Int)⟩:=by
    unfold jR
    rw [fY (j:=0) (by rw [hml];rfl)];rfl
   rw [e1,e2]
   obtain ⟨n1,n2⟩:=xS hc
   obtain ⟨l1,l2⟩:=h.lns
   have s1:=kO n1.1
   have s2:=kO n1.2
   simp only [Int.toNat_natCast] at s1 s2
   refine Dr n1 (fun g => ?_) (fun u hu => ?_) ?_
   ·have:=g.1;simp only at this;omega
   ·obtain ⟨s,hs,rfl⟩:=List.mem_map.1 hu
    have hsd:=hok.sdM hs
    obtain ⟨m1,m2⟩:=pH hc hsd
    obtain ⟨p1,p2⟩:=vB hsd
    obtain ⟨g1,g2,g3⟩:=hc.glt p1
    obtain ⟨f1,f2,f3⟩:=hc.glt p2
    refine ⟨?_,?_⟩
    ·rw [Bool.eq_false_iff]
     intro g
     rcases (kQ m1 n1.1).1 g with g | g
     ·rw [m2] at g;simp only [Int.toNat_natCast] at g;exact g2 g
     ·rw [m2] at g;simp only [Int.toNat_natCast] at g;exact f2 g
    ·rw [Bool.eq_false_iff]
     intro g
     rcases (kQ m1 n1.2).1 g with g | g
     ·rw [m2] at g;simp only [Int.toNat_natCast] at g;exact g3 g
     ·rw [m2] at g;simp only [Int.toNat_natCast] at g;exact f3 g
   ·simp only [Int.toNat_natCast]
    rw [s1,s2,l1,l2]
    have:=hok.e
    omega
  ·have htl:t<c.S.length:=by omega
   have e1:(jR c.P c.S q i j).take t=(c.S.take t).map (mvS q c.P.length (ksN c.P q) i (stp (ksN c.P q) i j)):=by
    unfold jR
    rw [List.take_append_of_le_length (by omega),List.map_take]
   have e2:(jR c.P c.S q i j).getD t default=mvS q c.P.length (ksN c.P q) i (stp (ksN c.P q) i j) (c.S.getD t default):=by
    unfold jR
    rw [bL (by omega)]
    simp [List.getD_eq_getElem?_getD,htl]
   rw [e1,e2]
   obtain ⟨o1,o2,o3,o4⟩:=gL (hok.sm t htl)
   have hsd:=hok.smB htl
   generalize hs0:c.S.getD t default=s at *
   obtain ⟨m1,m2⟩:=pH hc hsd
   obtain ⟨p1,p2⟩:=vB hsd
   have x1:aZ (dY c.P q i j ln an) (mvS q c.P.length (ksN c.P q) i (stp (ksN c.P q) i j) s).A.toNat+(mvS q c.P.length (ksN c.P q) i (stp (ksN c.P q) i j) s).I.toNat=gS c.P (dY c.P q i j ln an) q i (stp (ksN c.P q) i j) (prS c.P s).1:=congrArg Prod.fst m2
   have x2:aZ (dY c.P q i j ln an) (mvS q c.P.length (ksN c.P q) i (stp (ksN c.P q) i j) s).B.toNat+(mvS q c.P.length (ksN c.P q) i (stp (ksN c.P q) i j) s).J.toNat=gS c.P (dY c.P q i j ln an) q i (stp (ksN c.P q) i j) (prS c.P s).2:=congrArg Prod.snd m2
   obtain ⟨a1,a2,a3,a4⟩:=cK hsd.1
   obtain ⟨b1,b2,b3,b4⟩:=cK hsd.2
   refine Dr m1 (fun g => ?_) (fun u hu => ?_) ?_
   ·have:gS c.P (dY c.P q i j ln an) q i (stp (ksN c.P q) i j) (prS c.P s).1=gS c.P (dY c.P q i j ln an) q i (stp (ksN c.P q) i j) (prS c.P s).2:=by rw [←x1,←x2,g.1,g.2]
    have:=hc.ginj p1 p2 this
    obtain ⟨y1,y2⟩:=eY a2 b2 this
    exact o2 ⟨by omega,by omega⟩
   ·obtain ⟨w,hw,rfl⟩:=List.mem_map.1 hu
    have hwd:=hok.sdM (List.mem_of_mem_take hw)
    obtain ⟨w1,w2⟩:=pH hc hwd
    obtain ⟨r1,r2⟩:=vB hwd
    obtain ⟨u1,u2⟩:=o3 w hw
    refine ⟨?_,?_⟩
    ·rw [Bool.eq_false_iff]
     intro g
     rw [kQ w1 m1.1,x1,w2] at g
     have:db w s.A s.I=true:=(kQ hwd hsd.1).2 (g.imp (fun g=>hc.ginj r1 p1 g) fun g=>hc.ginj r2 p1 g)
     rw [u1] at this;cases this
    ·rw [Bool.eq_false_iff]
     intro g
     rw [kQ w1 m1.2,x2,w2] at g
     have:db w s.B s.J=true:=(kQ hwd hsd.2).2 (g.imp (fun g=>hc.ginj r1 p2 g) fun g=>hc.ginj r2 p2 g)
     rw [u2] at this;cases this
   ·rw [kO m1.1,kO m1.2,x1,x2,Jv hq h.hi h.hj h.ij.1 p1,Jv hq h.hi h.hj h.ij.1 p2]
    rw [kO hsd.1,kO hsd.2] at o4
    exact o4
theorem GoodC.ls (h:GoodC c q i j ln an):lsN (Qz c q i j ln an)=(aZ (dY c.P q i j ln an) q+stp (ksN c.P q) i j,aZ (dY c.P q i j ln an) c.P.length+stp (ksN c.P q) j i) :: (lsN c).map fun s=>(gS c.P (dY c.P q i j ln an) q i (stp (ksN c.P q) i j) s.1,gS c.P (dY c.P q i j ln an) q i (stp (ksN c.P q) i j) s.2):=by
 have hc:=h.cut
 unfold lsN Qz prL jR
 simp only
 rw [List.map_append,List.reverse_append,List.map_map,List.map_reverse,List.map_map]
 simp only [List.map_cons,List.map_nil,List.reverse_cons,List.reverse_nil,List.nil_append,List.cons_append]
 rw [(xS hc).2]
 have:List.map (prS (dY c.P q i j ln an)∘mvS q c.P.length (ksN c.P q) i (stp (ksN c.P q) i j)) c.S=List.map ((fun s=>(gS c.P (dY c.P q i j ln an) q i (stp (ksN c.P q) i j) s.1,gS c.P (dY c.P q i j ln an) q i (stp (ksN c.P q) i j) s.2))∘prS c.P) c.S :=
  List.map_congr_left fun s hs=>(pH hc (h.ok.sdM hs)).2
 rw [this]
end
end Go.Proofs.YtgjlhdggllakbaaGreatDoor.Vm
namespace Go.Proofs.YtgjlhdggllakbaaGreatDoor.Vm
open Go
set_option maxRecDepth 100000
attribute [-simp] List.getD_eq_getElem?_getD
def Sid.cells (s:Sid):List V:=[.int .i64 s.l,.int .i64 s.a,.int .i64 s.n,.int .i64 s.b,.int .i64 s.p]
def sdC:Cod Sid 5:=⟨Sid.cells,fun _=>rfl⟩
def wlk (l:List Sid)(c:Nat):Nat->Nat
 | 0=>c
 | k+1=>(l.getD (l.getD (wlk l c k) default).p.toNat default).n.toNat
structure LayOk (l:List Sid):Prop where
 n:∀i,i<l.length->0<=(l.getD i default).n/\(l.getD i default).n<l.length
 p:∀i,i<l.length->(l.getD i default).p≠-1->0<=(l.getD i default).p/\(l.getD i default).p<l.length
 len:l.length<=100000
section
variable {lim:Nat}{H:Hp}{K:V->Hp->Prop}
theorem Jf {l:List Sid}(hl:LayOk l){c:Nat}(hc:c<l.length):∀{k:Nat},(∀i,i<k->(l.getD (wlk l c i) default).p≠-1)->wlk l c k<l.length
 | 0,_=>hc
 | k+1,h=>by
   have ih:=Jf hl hc (k:=k) fun i hi=>h i (by omega)
   have h1:=hl.p _ ih (h k (by omega))
   have h2:=hl.n (l.getD (wlk l c k) default).p.toNat (by omega)
   simp only [wlk];omega
theorem oD {b bc bl c n:Nat} {lv:V} {l:List Sid} {I:Nat→Hp→Prop} (hl:LayOk l) (hc:c<l.length) (hw:∀i,i<n→(l.getD (wlk l c i) default).p≠-1∧wlk l c (i+1)≠c) (he:(l.getD (wlk l c n) default).p = -1∨wlk l c (n+1)=c)
 (hI:∀i H',I i H'->H'[bc]? = some (.row [.int .i64 c] true)/\H'[bl]? = some (.row [lv] true)/\LstV sdC H' lv l) (h0:I 0 H)
 (hs:∀i H',i<=n->I i H'->aF tbl lim 3999999 [.yl b,.int .i64 (wlk l c i)] H' fun v H''=>v=.bool true/\I (i+1) H'') (hK:∀H',I (n+1) H'->K (.tup []) H') :
 aF tbl lim 70 [.yl b,.ptr bc 0,.ptr bl 0] H K:=by
 refine ao tbl_at70 rfl ?_
 obtain ⟨g1,g2,g3⟩:=hI 0 H h0
 have rd0:∀x:V,rd none [x] 0=some x:=fun _=>rfl
 have rp:∀s:Sid,rd none (sdC.cells s) 4=some (.int .i64 s.p):=fun _=>rfl
 have rn:∀s:Sid,rd none (sdC.cells s) 2=some (.int .i64 s.n):=fun _=>rfl
 simp [vf70,g1,rd0]
 refine aO n (fun i fr L H'=>(fr 0=.yl b/\fr 1=.ptr bc 0/\fr 2=.ptr bl 0/\fr 4=.int .i64 (wlk l c i))/\L=[]/\I i H') ⟨by simp [wlk],rfl,h0⟩ ?_
 rintro i hi fr L H1 ⟨⟨f0,f1,f2,f4⟩,rfl,hi1⟩
 simp [f0,f1,f2,f4]
 refine (hs i H1 hi hi1).mono ?_
 rintro v H2 ⟨rfl,hi2⟩
 obtain ⟨k1,k2,k3⟩:=hI _ H2 hi2
 have hin:wlk l c i<l.length:=Jf hl hc fun j hj=>(hw j (by omega)).1
 have ad:=k3.at hin
 have fa4:ct 4 (ept 5 lv (wlk l c i))=some (dB 5 lv (wlk l c i) 4):=k3.faddr hin
 have ld4:∀L,aW none L H2 (dB 5 lv (wlk l c i) 4)=some (.int .i64 (l.getD (wlk l c i) default).p):=fun L=>k3.rd1 hin (by omega)
 simp [f0,f1,f2,f4,k1,k2,rd0,ad,fa4,ld4]
 refine bM (fun hp => ?_) fun hp => ?_
 ·have hpp:=hl.p _ hin hp
  have hnn:=hl.n (l.getD (wlk l c i) default).p.toNat (by omega)
  have ep:(((l.getD (wlk l c i) default).p.toNat:Nat):Int)=(l.getD (wlk l c i) default).p:=by omega
  have en:((wlk l c (i+1):Nat):Int)=(l.getD (l.getD (wlk l c i) default).p.toNat default).n:=by simp only [wlk];omega
  have hpl:(l.getD (wlk l c i) default).p.toNat<l.length:=by omega
  have adp:=k3.at hpl
  rw [ep] at adp
  have fa2:ct 2 (ept 5 lv (l.getD (wlk l c i) default).p.toNat)=some (dB 5 lv (l.getD (wlk l c i) default).p.toNat 2):=k3.faddr hpl
  have ld2:∀L,aW none L H2 (dB 5 lv (l.getD (wlk l c i) default).p.toNat 2)=some (.int .i64 (l.getD (l.getD (wlk l c i) default).p.toNat default).n):=fun L=>k3.rd1 hpl (by omega)
  rw [←en] at ld2
  simp [f0,f1,f2,f4,k1,k2,rd0,ad,fa4,ld4,adp,fa2,ld2]
  refine aC (fun ht => ?_) fun ht => ?_
  ·have ht:wlk l c (i+1)=c:=by omega
   have:i=n:=by
    rcases Nat.lt_or_ge i n with h | h
    ·exact absurd ht (hw i h).2
    ·omega
   subst this
   simp
   exact hK _ hi2
  ·have hlt:i<n:=by
    rcases Nat.lt_or_ge i n with h | h
    ·exact h
    ·have e:i=n:=by omega
     subst e
     rcases he with he | he
     ·exact absurd he hp
     ·exact absurd (by rw [he]) ht
   simp [f0,f1,f2,f4]
   exact ⟨hlt,hi2⟩
 ·have:i=n:=by
   rcases Nat.lt_or_ge i n with h | h
   ·exact absurd (by simpa using hp) (hw i h).1
   ·omega
  subst this
  simp
  exact hK _ hi2
end
section
variable {lim:Nat}{H:Hp}{K:V->Hp->Prop}
theorem kL {fr:Fr}{nt p:Nat}{v:V}(hp:p<nt):frR (setPs (eD fr nt) [p] [v])=fun t=>if t=p then v else if t<nt then (if stor (fr t) then fr t else .hid) else .hid:=by
 funext t
 simp only [frR,setPs,List.getD_eq_getElem?_getD]
 by_cases e:t=p
 ·subst e
  rw [List.getElem?_set_self (by simpa [eD] using hp)]
  simp
 ·rw [List.getElem?_set_ne (fun h=>e h.symm),if_neg e]
  by_cases ht:t<nt
  ·simp [eD,ht]
  ·simp [eD,ht]
theorem Jk {X:Hp}{x y:V}(hlim:lim<=H.length):bW lim (H++Blk.row [x] true :: X) H.length 0 [y]=some (H++Blk.row [y] true :: X):=by
 simp [bW,hlim,al]
theorem wh {c n s:Nat}{lv:V}{l:List Sid}(hv:LstV sdC H lv l)(hl:LayOk l)(hs:s<l.length)(hc:c=(l.getD s default).n.toNat)(hw:∀i,i<n->(l.getD (wlk l c i) default).p≠-1/\wlk l c (i+1)≠c)(he:(l.getD (wlk l c n) default).p = -1\/wlk l c (n+1)=c)
 (hlim:lim<=H.length) (hK:∀H',HX H H'->K (.int .i64 (wlk l c n)) H'):aF tbl lim 60 [lv,.int .i64 s] H K:=by
 refine ao tbl_at60 rfl ?_
 have rd0:∀x:V,rd none [x] 0=some x:=fun _=>rfl
 have hn:=hl.n s hs
 have ec:(c:Int)=(l.getD s default).n:=by omega
 have ad:=hv.at hs
 have fa2:ct 2 (ept 5 lv s)=some (dB 5 lv s 2):=hv.faddr hs
 have ld2:∀L X,aW none L (H++X) (dB 5 lv s 2)=some (.int .i64 c):=fun L X=>by rw [ec];exact (hv.mono ⟨X,rfl⟩).rd1 hs (by omega)
 simp [vf60,hv.stor,hv.one,al,ad,fa2,ld2,Jk hlim]
 refine ao tbl_at56 rfl ?_
 simp [vf56,hv.stor,hv.one]
 generalize hg:eD _ 18=frv
 have f5:∀v,frR (setPs frv [15] [v]) 5=.ptr H.length 0:=by
  intro v;rw [←hg,kL (by omega)];simp
 have f15:∀v,frR (setPs frv [15] [v]) 15=v:=by
  intro v;rw [←hg,kL (by omega)];simp
 have flen:18=frv.length:=by rw [←hg];simp [eD]
 clear hg
 have hcl:c<l.length:=by omega
 refine oD (n:=n) (c:=c) (lv:=lv) (l:=l) (I:=fun i H'=>H'=H++[.row [.int .i64 (if i=0 then (s:Int) else wlk l c (i-1))] true,.row [lv] true,.row [.int .i64 c] true,.loop 4000060 [15] frv]) hl hcl hw he ?_ ?_ ?_ ?_
 ·rintro i H' rfl
  exact ⟨by simp,by simp,hv.mono ⟨_,rfl⟩⟩
 ·simp
 ·rintro i H' hi rfl
  refine nZ (f:=4000060) (ps:=[15]) (fr:=frv) (by simp) (by omega) rfl tbl_at4000060 flen rfl ?_
  simp [f5,f15,Jk hlim]
 ·rintro H' rfl
  simp [rd0]
  exact hK _ ⟨_,rfl⟩
end
def PF (xs:List Int):Prop:=∀x∈xs,-1099511627776<=x/\x<=1099511627776
theorem PF.at {xs:List Int}(h:PF xs)(i:Nat) : -1099511627776<=xs.getD i 0/\xs.getD i 0<=1099511627776:=by
 by_cases hi:i<xs.length
 ·rw [List.getD_eq_getElem?_getD,List.getElem?_eq_getElem hi];exact h _ (List.getElem_mem hi)
 ·rw [List.getD_eq_getElem?_getD,List.getElem?_eq_none (by omega)];simp
theorem SlV.at {H:Hp} {v:V} {l:List Int} (h:SlV H v l) {i:Nat} (hi:i<l.length):∃b o,aQ 1 v (.int .i64 i)=some (.ptr b o)∧∀L,aW none L H (.ptr b o)=some (.int .i64 (l.getD i 0)):=by
 cases h with
 | nil=>simp at hi
 | empty=>simp at hi
 | sl h1 h2 h3 =>
   rename_i b off cs own
   refine ⟨b,off+i,?_,fun L => ?_⟩
   ·rw [ah (by omega)];simp
   ·rw [bX h1]
    have hlt:off+i<cs.length:=by omega
    simp only [rd,hlt,if_true]
    have e:(cs.drop off)[i]? = (bH l)[i]? := by
     rw [←h3,List.getElem?_take_of_lt hi]
    rw [List.getElem?_drop,tL,List.getElem?_eq_getElem hi] at e
    simp [List.getD_eq_getElem?_getD,e,hi]
def Kk (l:List Int):Bool:=l.any (·<0)
def JF (l:List Int):Bool:=l.any (1000000<·)
def xk (r w:List Int):Int :=
 if 24<r.length\/24<w.length then 4 else if Kk r\/Kk w then 1 else if JF r\/JF w then 4 else 0
inductive BunV (H:Hp)(r w:List Int):V->Prop
 | mk {rv wv:V}:SlV H rv r->SlV H wv w->BunV H r w (.agg [rv,wv])
theorem BunV.mono {H H':Hp}(hx:HX H H'){v:V}{r w:List Int}(h:BunV H r w v):BunV H' r w v:=by
 cases h with
 | mk h1 h2=>exact .mk (h1.mono hx) (h2.mono hx)
section
variable {lim:Nat}{H:Hp}{bv:V}{r w:List Int}{K:V->Hp->Prop}
theorem BunV.stor (h:BunV H r w bv):stor bv=true/\(aJ bv).length=2:=by
 cases h with
 | mk h1 h2=>exact ⟨rfl,rfl⟩
theorem BunV.load (h:BunV H r w bv):rd (some 2) (aJ bv) 0=some bv:=by
 cases h with
 | mk h1 h2=>exact Lj
end
structure RefOf (xs ys:List Int):Prop where
 len:ys.length=50
 right:∀i,i<24->ys.getD (i+1) 0=xs.getD i 0
 wrong:∀i,i<24->ys.getD (26+i) 0=xs.getD (24+i) 0
 zero:ys.getD 0 0=0/\ys.getD 25 0=0
theorem RefOf.at {xs ys:List Int}(h:RefOf xs ys){m:Nat}(h1:1<=m)(h2:m<=24):ys.getD m 0=xs.getD (m-1) 0/\ys.getD (25+m) 0=xs.getD (24+(m-1)) 0:=by
 obtain ⟨i,rfl⟩:∃i,m=i+1:=⟨m-1,by omega⟩
 refine ⟨h.right i (by omega),?_⟩
 rw [show 25+(i+1)=26+i by omega]
 exact h.wrong i (by omega)
section
variable {lim:Nat}{H:Hp}{bv:V}{r w:List Int}{K:V->Hp->Prop}
end
section
variable {lim:Nat}{H:Hp}{bv:V}{r w:List Int}{K:V->Hp->Prop}
end
inductive OwnB (n:Nat)(H:Hp)(r w:List Int):V->Prop
 | mk {rv wv:V}:OwnV n H rv r->OwnV n H wv w->OwnB n H r w (.agg [rv,wv])
theorem OwnB.mono {n:Nat}{H H':Hp}(hx:HX H H'){v:V}{r w:List Int}(h:OwnB n H r w v):OwnB n H' r w v:=by
 cases h with
 | mk h1 h2=>exact .mk (h1.mono hx) (h2.mono hx)
theorem OwnB.le {n m:Nat}(hnm:n<=m){H:Hp}{v:V}{r w:List Int}(h:OwnB m H r w v):OwnB n H r w v:=by
 cases h with
 | mk h1 h2=>exact .mk (h1.le hnm) (h2.le hnm)
theorem OwnB.zero {n:Nat}{H:Hp}:OwnB n H [] [] (.agg [.snil,.snil]):=.mk .nil .nil
theorem OwnB.stor {n:Nat}{H:Hp}{v:V}{r w:List Int}(h:OwnB n H r w v):stor v=true/\(aJ v).length=2:=by
 cases h;exact ⟨rfl,rfl⟩
abbrev HF:=Nat->Nat->Int
def vZ (f:HF):List Int:=(List.range 48).map fun k=>f (k / 24) (k % 24+1)
def vq (f:HF):List Int:=(List.range 50).map fun k=>if k % 25=0 then 0 else f (k / 25) (k % 25)
@[simp] theorem RU {f:HF}:(vZ f).length=48:=by simp [vZ]
@[simp] theorem R0 {f:HF}:(vq f).length=50:=by simp [vq]
def op (r w:List Int):HF:=fun way n=>if xk r w=0 then (if way=0 then r else w).getD (n-1) 0 else 0
def PM (f:Nat->Int):Nat->Nat
 | 0=>0
 | k+1=>if f (k+1)=0 then PM f k else k+1
def Ly (f:Nat->Int)(n:Nat):List Int:=(List.range n).map fun i=>f (i+1)
@[simp] theorem Ol (f:Nat->Int) (n:Nat):(Ly f n).length=n:=by simp [Ly]
def PH (f:HF)(way:Nat):List Int:=Ly (f way) (PM (f way) 24)
def pvC:Cod (V×V) 2:=⟨fun p=>[p.1,p.2],fun _=>rfl⟩
def smC:Cod Sm 4:=⟨fun s=>[.int .i64 s.A,.int .i64 s.I,.int .i64 s.B,.int .i64 s.J],fun _=>rfl⟩
structure PcsV (H:Hp)(v:V)(ps:List (V×V))(pcs:List Pc):Prop where
 lst:LstV pvC H v ps
 len:ps.length=pcs.length
 at':∀i,i<pcs.length->SlV H (ps.getD i default).1 (pcs.getD i default).s/\SlV H (ps.getD i default).2 (pcs.getD i default).a
inductive CapV (H:Hp):List V->Cp->Prop
 | mk {pv sv:V} {ps:List (V×V)} {P:List Pc} {S:List Sm} {e:Int}:PcsV H pv ps P->LstV smC H sv S->CapV H [pv,sv,.int .i64 e] ⟨P,S,e⟩
section
variable {lim:Nat}{H H':Hp}{K:V->Hp->Prop}{v pv sv:V}{ps:List (V×V)}{pcs P:List Pc}{S:List Sm}{e:Int}{ws:List V}{c:Cp}
theorem PcsV.mono (hx:HX H H')(h:PcsV H v ps pcs):PcsV H' v ps pcs:=⟨h.lst.mono hx,h.len,fun i hi=>⟨(h.at' i hi).1.mono hx,(h.at' i hi).2.mono hx⟩⟩
theorem CapV.mono (hx:HX H H')(h:CapV H ws c):CapV H' ws c:=by
 cases h with
 | mk h1 h2=>exact .mk (h1.mono hx) (h2.mono hx)
theorem PcsV.vlen (h:PcsV H v ps pcs):bD v=some (.int .i64 pcs.length):=by rw [←h.len];exact h.lst.len
theorem PcsV.at (h:PcsV H v ps pcs){i:Nat}(hi:i<pcs.length):aQ 2 v (.int .i64 (i:Int))=some (ept 2 v i):=h.lst.at (by rw [h.len];exact hi)
theorem PcsV.addr (h:PcsV H v ps pcs){i:Int}(hi:0<=i/\i<pcs.length):aQ 2 v (.int .i64 i)=some (ept 2 v i.toNat):=h.lst.addr (by rw [h.len];exact hi)
theorem PcsV.ld2 (h:PcsV H v ps pcs){i:Nat}(hi:i<pcs.length):∀L,aW (some 2) L H (ept 2 v i)=some (.agg [(ps.getD i default).1,(ps.getD i default).2]):=fun L=>h.lst.load (by rw [h.len];exact hi)
theorem PcsV.fa (h:PcsV H v ps pcs){i:Nat}(hi:i<pcs.length):∀j,ct j (ept 2 v i)=some (dB 2 v i j):=fun j=>h.lst.faddr (by rw [h.len];exact hi)
theorem PcsV.ld0 (h:PcsV H v ps pcs){i:Nat}(hi:i<pcs.length):∀L,aW none L H (dB 2 v i 0)=some (ps.getD i default).1:=fun L=>h.lst.rd1 (by rw [h.len];exact hi) (by omega)
theorem PcsV.ld1 (h:PcsV H v ps pcs){i:Nat}(hi:i<pcs.length):∀L,aW none L H (dB 2 v i 1)=some (ps.getD i default).2:=fun L=>h.lst.rd1 (by rw [h.len];exact hi) (by omega)
theorem rd0:∀{x:V} {l:List V},rd none (x :: l) 0=some x:=by intro x l;simp [rd];rfl
theorem cm:∀{x y:V} {l:List V},rd none (x :: y :: l) 1=some y:=by intro x y l;simp [rd];rfl
theorem gW:∀{x y z:V} {l:List V},rd none (x :: y :: z :: l) 2=some z:=by intro x y z l;simp [rd];rfl
theorem rZ:∀{x y z u:V} {l:List V},rd none (x :: y :: z :: u :: l) 3=some u:=by intro x y z u l;simp [rd];rfl
theorem kY {a b:V}:rd (some 2) [a,b] 0=some (.agg [a,b]):=Eq.trans rfl rfl
theorem bh {a b c:V}:rd (some 3) [a,b,c] 0=some (.agg [a,b,c]):=Eq.trans rfl rfl
theorem RG {a b c d:V}:rd (some 4) [a,b,c,d] 0=some (.agg [a,b,c,d]):=Eq.trans rfl rfl
theorem Qx {a b c d:V}:al [a,b] 0 [c,d]=[c,d]:=by simp [al]
theorem LQ {a b c d a' b' c' d':V}:al [a,b,c,d] 0 [a',b',c',d']=[a',b',c',d']:=by simp [al]
theorem kc {a b c a' b' c':V}:al [a,b,c] 0 [a',b',c']=[a',b',c']:=by simp [al]
theorem oH {n:Int}(hK:K (.bool (decide (1<=n/\n<=200))) H):aF tbl lim 46 [.int .i64 n] H K:=by
 refine ao tbl_at46 rfl ?_
 simp [vf46]
 by_cases h:1<=n
 ·simpa [h] using hK
 ·simpa [h] using hK
theorem fH {n:Int}(hK:K (.bool (decide (1<=n/\n<=359))) H):aF tbl lim 47 [.int .i64 n] H K:=by
 refine ao tbl_at47 rfl ?_
 simp [vf47]
 by_cases h:1<=n
 ·simpa [h] using hK
 ·simpa [h] using hK
theorem kf {n:Int}(hn:0<=n/\n<=1000)(hK:K (.int .i64 (180*(n-2))) H):aF tbl lim 48 [.int .i64 n] H K:=by
 refine ao tbl_at48 rfl ?_
 simp (disch:=omega) [vf48,ae]
 exact hK
def oV (p:Pc)(i:Nat):Bool:=decide ((1<=p.s.getD i 0/\p.s.getD i 0<=200)/\(1<=p.a.getD i 0/\p.a.getD i 0<=359))
theorem kG {p:Pc}:cg p=(decide (3<=p.s.length/\p.s.length<=6)&&(decide (p.a.length=p.s.length)&&((List.range p.s.length).all (oV p)&&decide (p.a.sum=180*((p.s.length:Int)-2))))):=rfl
theorem tv {p:Pc}{i:Nat}(hi:i<p.s.length)(h:oV p i=false):cg p=false:=by
 have:(List.range p.s.length).all (oV p)=false:=by
  rw [Bool.eq_false_iff];intro g
  rw [List.all_eq_true] at g
  have:=g i (List.mem_range.2 hi)
  rw [h] at this;cases this
 rw [kG,this];simp
theorem ql {l:List Int}{i:Nat}(hi:i<l.length):(l.take (i+1)).sum=(l.take i).sum+l.getD i 0:=by
 rw [nH hi,List.sum_append];simp
theorem uA {a b:V}{p:Pc}(ha:SlV H a p.s)(hb:SlV H b p.a)(hK:K (.bool (cg p)) H):aF tbl lim 28 [.agg [a,b]] H K:=by
 refine ao tbl_at28 rfl ?_
 by_cases h1:3<=p.s.length/\p.s.length<=6
 case neg =>
  have hn:cg p=false:=by rw [kG];simp [h1]
  rw [hn] at hK
  have e:(decide ((p.s.length:Int)<3)||decide (6<(p.s.length:Int)))=true:=by simp;omega
  simp [vf28,rd0,cm,ha.len,hb.len,ha.stor,ha.one,hb.stor,hb.one,e]
  exact hK
 have e1:decide ((p.s.length:Int)<3)=false:=by simp;omega
 have e2:decide (6<(p.s.length:Int))=false:=by simp;omega
 by_cases h2:p.a.length=p.s.length
 case neg =>
  have hn:cg p=false:=by rw [kG];simp [h2]
  rw [hn] at hK
  have e3:decide ((p.a.length:Int)=(p.s.length:Int))=false:=by simp;omega
  simp [vf28,rd0,cm,ha.len,hb.len,ha.stor,ha.one,hb.stor,hb.one,e1,e2,e3]
  exact hK
 have e3:decide ((p.a.length:Int)=(p.s.length:Int))=true:=by simp;omega
 simp [vf28,rd0,cm,ha.len,hb.len,ha.stor,ha.one,hb.stor,hb.one,e1,e2,e3]
 refine aO p.s.length (fun i fr L H'=>(fr 1=.lp 0 0/\fr 3=.int .i64 p.s.length/\fr 4=.int .i64 (p.a.take i).sum/\fr 22=.int .i64 p.s.length/\fr 23=.int .i64 i)/\L=[[a,b]]/\H'=H/\(0<=(p.a.take i).sum/\(p.a.take i).sum<=359*i)/\∀k,k<i->oV p k=true) ⟨by simp,by simp,rfl,by simp,fun k hk=>by omega⟩ ?_
 rintro i hi fr L H1 ⟨⟨f1,f3,f4,f22,f23⟩,rfl,rfl,hsum,hall⟩
 simp [f1,f3,f4,f22,f23]
 refine aC (fun ht => ?_) fun hfl => ?_
 ·have ht:i<p.s.length:=by omega
  have aa:=ha.addr (i:=(i:Int)) (by omega)
  have ab:=hb.addr (i:=(i:Int)) (by omega)
  simp only [Int.toNat_natCast] at aa ab
  have la:=fun L=>ha.load (i:=i) ht (L:=L)
  have lb:=fun L=>hb.load (i:=i) (by omega) (L:=L)
  simp [f1,f3,f4,f22,f23,rd0,cm,aa,la]
  refine oH ?_
  by_cases g1:1<=p.s.getD i 0/\p.s.getD i 0<=200
  case neg =>
   have:=tv ht (p:=p) (by simp [oV,g1])
   rw [this] at hK
   simp [g1];exact hK
  simp [f1,f3,f4,f22,f23,rd0,cm,g1,ab,lb]
  refine fH ?_
  by_cases g2:1<=p.a.getD i 0/\p.a.getD i 0<=359
  case neg =>
   have:=tv ht (p:=p) (by simp [oV,g2])
   rw [this] at hK
   simp [g2];exact hK
  have hs:=ql (l:=p.a) (i:=i) (by omega)
  simp (disch:=omega) [f1,f3,f4,f22,f23,rd0,cm,g1,g2,ab,lb,ae]
  refine ⟨by omega,by rw [hs],by omega,fun k hk => ?_⟩
  by_cases e:k=i
  ·subst e;simp [oV,g1,g2]
  ·exact hall k (by omega)
 ·have:i=p.s.length:=by omega
  subst this
  have hall':(List.range p.s.length).all (oV p)=true:=by
   rw [List.all_eq_true];intro k hk;exact hall k (List.mem_range.1 hk)
  have hsum':p.a.take p.s.length=p.a:=List.take_of_length_le (by omega)
  simp [f1,f3,f4,f22,f23]
  refine kf (by omega) ?_
  rw [hsum'] at f4 ⊢
  have e:cg p=decide (p.a.sum=180*((p.s.length:Int)-2)):=by rw [kG];simp [h1,h2,hall']
  rw [e] at hK
  simp [f4]
  exact hK
end
structure KeyE (α:Type)[DecidableEq α] where
 kv:α->V
 g:Bool
 ks:List CK
 agg:∀a,cT (kv a)=g
 eq:∀a b,aN ks (aJ (kv a)) (aJ (kv b))=some (decide (a=b))
 st:∀a,stor (kv a)=true
section
variable {α β:Type}[DecidableEq α]
def lkI (a:α):List (α×β)->Option (Nat×β)
 | []=>none
 | p :: r=>if a=p.1 then some (0,p.2) else (lkI a r).map fun q=>(q.1+1,q.2)
def look (a:α)(l:List (α×β)):Option β:=(lkI a l).map fun q=>q.2
def ff (a:α)(u:β)(l:List (α×β)):List (α×β):=match lkI a l with
 | some q=>l.set q.1 (a,u)
 | none=>l++[(a,u)]
theorem D9 {a:α} {u:β}:∀{l:List (α×β)} {i:Nat} {v:β},lkI a l=some (i,v)→i<l.length∧lkI a (l.set i (a,u))=some (i,u)∧∀b,b≠a→(lkI b (l.set i (a,u)))=lkI b l
 | [],i,v,h=>by simp [lkI] at h
 | p :: l,i,v,h=>by
   simp only [lkI] at h
   split at h
   ·rename_i e
    cases h
    refine ⟨by simp,by simp [lkI],fun b hb => ?_⟩
    simp only [List.set_cons_zero,lkI]
    rw [if_neg hb,if_neg (by rw [←e];exact hb)]
   ·rename_i e
    cases hm:lkI a l with
    | none=>rw [hm] at h;cases h
    | some q =>
      rw [hm] at h
      simp only [Option.map_some,Option.some.injEq,Prod.mk.injEq] at h
      obtain ⟨rfl,rfl⟩:=h
      obtain ⟨h1,h2,h3⟩:=D9 (u:=u) (i:=q.1) (v:=q.2) hm
      refine ⟨by simp;exact h1,?_,fun b hb => ?_⟩
      ·simp only [List.set_cons_succ,lkI]
       rw [if_neg e,h2];rfl
      ·simp only [List.set_cons_succ,lkI,h3 b hb]
theorem z6 {a:α} {u:β}:∀{l:List (α×β)},lkI a l=none→lkI a (l++[(a,u)])=some (l.length,u)∧∀b,b≠a→lkI b (l++[(a,u)])=lkI b l
 | [],_=>⟨by simp [lkI],fun b hb=>by simp [lkI,hb]⟩
 | p :: l,h=>by
   simp only [lkI] at h
   split at h
   ·cases h
   ·rename_i e
    have hm:lkI a l=none:=by
     cases hm:lkI a l with
     | none=>rfl
     | some q=>rw [hm] at h;cases h
    obtain ⟨h1,h2⟩:=z6 (u:=u) hm
    refine ⟨?_,fun b hb => ?_⟩
    ·simp only [List.cons_append,lkI]
     rw [if_neg e,h1];rfl
    ·simp only [List.cons_append,lkI,h2 b hb]
theorem mg {a b:α}{u:β}{l:List (α×β)}:look b (ff a u l)=if b=a then some u else look b l:=by
 unfold look ff
 cases hm:lkI a l with
 | none =>
   obtain ⟨h1,h2⟩:=z6 (u:=u) hm
   by_cases e:b=a
   ·subst e;rw [if_pos rfl];simp only [h1];rfl
   ·rw [if_neg e];simp only [h2 b e]
 | some q =>
   obtain ⟨_,h1,h2⟩:=D9 (u:=u) (i:=q.1) (v:=q.2) hm
   by_cases e:b=a
   ·subst e;rw [if_pos rfl];simp only [h1];rfl
   ·rw [if_neg e];simp only [h2 b e]
theorem qg {b:α}:look b ([]:List (α×β))=none:=rfl
def mE (K:KeyE α)(vc:β->V)(l:List (α×β)):List (V×V):=l.map fun p=>(K.kv p.1,vc p.2)
theorem Q5 {K:KeyE α}{vc:β->V}{l:List (α×β)}{i:Nat}{a:α}{u:β}:(mE K vc l).set i (K.kv a,vc u)=mE K vc (l.set i (a,u)):=by simp [mE,List.map_set]
theorem Ny {K:KeyE α}{vc:β->V}{l:List (α×β)}{a:α}{u:β}:mE K vc l++[(K.kv a,vc u)]=mE K vc (l++[(a,u)]):=by simp [mE]
theorem AV {K:KeyE α}{vc:β->V}{a:α}:∀{l:List (α×β)},cO K.ks (K.kv a) (mE K vc l)=some ((lkI a l).map fun q=>(q.1,vc q.2))
 | []=>rfl
 | p :: l=>by
   have ih:=AV (K:=K) (vc:=vc) (a:=a) (l:=l)
   have hc:mE K vc (p :: l)=(K.kv p.1,vc p.2) :: mE K vc l:=rfl
   have hq:(if cT (K.kv a)==cT (K.kv p.1) then aN K.ks (aJ (K.kv a)) (aJ (K.kv p.1)) else none)=some (decide (a=p.1)):=by
    rw [K.agg,K.agg,K.eq];simp
   rw [hc]
   simp only [cO,lkI]
   rw [hq,ih]
   by_cases e:a=p.1
   ·rw [if_pos e];simp [e]
   ·rw [if_neg e]
    simp only [e,decide_false]
    cases lkI a l<;>rfl
theorem IA {K:KeyE α}{a:α}:iv K.g K.ks (K.kv a)=true:=by
 unfold iv
 rw [K.agg,K.st,K.eq];simp
section
variable {lim:Nat}{H:Hp}{K:KeyE α}{vc:β->V}{l:List (α×β)}{a:α}{u z:β}{b:Nat}
theorem wB (hb:H[b]? = some (.map (mE K vc l))):fm K.g K.ks false (vc z) H (.mp b) (K.kv a)=some (vc ((look a l).getD z)):=by
 simp only [fm,hb,IA,if_true,AV,look]
 cases lkI a l<;>rfl
theorem Bk (hb:H[b]? = some (.map (mE K vc l)))(hlim:lim<=b)(hu:stor (vc u)=true):gF lim K.g K.ks H (.mp b) (K.kv a) (vc u)=some (H.set b (.map (mE K vc (ff a u l)))):=by
 simp only [gF,hlim,hb,IA,hu,Bool.and_self,if_true,AV,ff]
 cases lkI a l with
 | none=>simp only [Option.map_none,Ny]
 | some q=>simp only [Option.map_some,Q5]
def entI (a:α)(l:List (α×β)):Nat:=match lkI a l with
 | some q=>q.1
 | none=>l.length
end
end
def kI:KeyE Int:=⟨fun a=>.int .i64 a,false,[.int .i64],fun _=>rfl,fun a b=>by simp [aN,dJ,aJ];by_cases e:a=b<;>simp [e],fun _=>rfl⟩
def kI2:KeyE (Int×Int):=⟨fun a=>.agg [.int .i64 a.1,.int .i64 a.2],true,[.int .i64,.int .i64],fun _=>rfl,fun a b=>by
 obtain ⟨a1,a2⟩:=a
 obtain ⟨b1,b2⟩:=b
 simp only [aN,dJ,aJ,and_self,if_true,Bool.and_true,Option.some.injEq]
 by_cases e:a1=b1<;>by_cases e2:a2=b2<;>simp [e,e2],fun _=>rfl⟩
end Go.Proofs.YtgjlhdggllakbaaGreatDoor.Vm
namespace Go.Proofs.YtgjlhdggllakbaaGreatDoor.Vm
open Go
set_option maxRecDepth 100000
set_option maxHeartbeats 1000000
attribute [-simp] List.getD_eq_getElem?_getD
theorem ft {α:Type}{X:List α}{c:α}:(X++[c])[X.length]? = some c:=by simp
theorem gy {α:Type}{X:List α}{c d:α}:(X++[c]).set X.length d=X++[d]:=by simp
theorem PO {L:Lo}{q:Nat}{c:List V}(h:L[q]? = some c):∀d,(L++[d])[q]? = some c:=fun d=>by
 rw [List.getElem?_append_left (List.getElem?_eq_some_iff.1 h).1];exact h
section
variable {lim:Nat}{H H':Hp}{K:V->Hp->Prop}{v pv sv:V}{ps:List (V×V)}{pcs P:List Pc}{S:List Sm}{e:Int}{ws:List V}{c:Cp}
theorem DZ {pcs:List Pc}{a i:Int}(h:¬(0<=a/\a<pcs.length)):cz pcs a i=false:=by simp only [cz,h,decide_false,Bool.false_and]
theorem Om {pcs:List Pc}{a i:Int}(h:0<=a/\a<pcs.length):cz pcs a i=decide (0<=i/\i<ksN pcs a.toNat):=by simp only [cz,h,and_self,decide_true,Bool.true_and]
theorem gK {a i:Int}(hp:PcsV H pv ps P)(hs:stor sv=true)(hs1:aJ sv=[sv])(hK:K (.bool (cz P a i)) H):aF tbl lim 49 [.agg [pv,sv,.int .i64 e],.int .i64 a,.int .i64 i] H K:=by
 refine ao tbl_at49 rfl ?_
 by_cases h1:0<=a
 case neg =>
  rw [DZ (by omega)] at hK
  simp [vf49,rd0,hp.lst.stor,hp.lst.one,hp.vlen,hs,hs1,h1]
  exact hK
 by_cases h2:a<P.length
 case neg =>
  rw [DZ (by omega)] at hK
  simp [vf49,rd0,hp.lst.stor,hp.lst.one,hp.vlen,hs,hs1,h1,h2]
  exact hK
 rw [Om ⟨h1,h2⟩] at hK
 by_cases h3:0<=i
 case neg =>
  rw [decide_eq_false (by omega)] at hK
  simp [vf49,rd0,hp.lst.stor,hp.lst.one,hp.vlen,hs,hs1,h1,h2,h3]
  exact hK
 have hat:a.toNat<P.length:=by omega
 have ad:=hp.addr (i:=a) ⟨h1,h2⟩
 have hl:=(hp.at' a.toNat hat).1.len
 have e4:decide (0<=i/\i<(ksN P a.toNat:Int))=decide (i<((P.getD a.toNat default).s.length:Int)):=by
  rw [decide_eq_decide];simp only [ksN];omega
 rw [e4] at hK
 simp [vf49,rd0,hp.lst.stor,hp.lst.one,hp.vlen,hs,hs1,h1,h2,h3,ad,hp.fa hat,hp.ld0 hat,hl]
 exact hK
def Et (pre:List Sm)(s:Sm):Bool:=pre.any fun t=>db t s.A s.I||db t s.B s.J
def wN (s:Sm):Bool:=decide (s.A=s.B)&&decide (s.I=s.J)
def dfS (pcs:List Pc)(s:Sm):Int:=(pcs.getD s.A.toNat default).s.getD s.I.toNat 0-(pcs.getD s.B.toNat default).s.getD s.J.toNat 0
theorem L5 {pcs:List Pc}{ease:Int}{pre:List Sm}{s:Sm}:cN pcs ease pre s=if !(cz pcs s.A s.I&&cz pcs s.B s.J) then 5 else if wN s||Et pre s then 7 else if ease<dfS pcs s\/ease < -dfS pcs s then 8 else 0:=rfl
theorem qR {α:Type}[Inhabited α]{l:List α}{i:Nat}(h:i<l.length):l.getD i default∈l:=by
 rw [List.getD_eq_getElem?_getD,List.getElem?_eq_getElem h];exact List.getElem_mem h
theorem Eg {p:Pc}(h:cg p=true){i:Nat}(hi:i<p.s.length):1<=p.s.getD i 0/\p.s.getD i 0<=200:=((co h).2.2.1 i hi).1
def DN (P:List Pc):Prop:=∀q,q<P.length->cg (P.getD q default)=true
theorem QL {s:Sm}(hok:DN P)(h1:cz P s.A s.I=true)(h2:cz P s.B s.J=true) : -199<=dfS P s/\dfS P s<=199:=by
 obtain ⟨a1,a2,_,_⟩:=cK h1
 obtain ⟨b1,b2,_,_⟩:=cK h2
 have:=Eg (hok _ a1) a2
 have:=Eg (hok _ b1) b2
 simp only [dfS];omega
end
section
variable {lim:Nat}{H H':Hp}{K:V->Hp->Prop}{v pv sv:V}{ps:List (V×V)}{pcs P:List Pc}{S:List Sm}{e:Int}{ws:List V}{c:Cp}
theorem Cc {pcs:List Pc}{ease:Int}{sm:List Sm}{k i:Nat}(h:cN pcs ease (sm.take i) (sm.getD i default)=0):eZ pcs ease sm (k+1) i=eZ pcs ease sm k (i+1):=by
 simp only [eZ,h,if_true]
theorem CZ {pcs:List Pc}{ease:Int}{sm:List Sm}{k i:Nat}(h:cN pcs ease (sm.take i) (sm.getD i default)≠0):eZ pcs ease sm (k+1) i=cN pcs ease (sm.take i) (sm.getD i default):=by
 simp only [eZ,h,if_false]
theorem lM {pcs:List Pc}{ease:Int}{sm:List Sm}:∀{n:Nat},n<=sm.length->(∀t,t<n->cN pcs ease (sm.take t) (sm.getD t default)=0)->eZ pcs ease sm sm.length 0=eZ pcs ease sm (sm.length-n) n
 | 0,_,_=>rfl
 | n+1,hn,h=>by
   rw [lM (n:=n) (by omega) (fun t ht=>h t (by omega)),show sm.length-n=sm.length-(n+1)+1 by omega,Cc (h n (by omega))]
theorem kC {pcs:List Pc}{ease:Int}{sm:List Sm}{n:Nat}(hn:n<sm.length)(h:∀t,t<n->cN pcs ease (sm.take t) (sm.getD t default)=0)(hne:cN pcs ease (sm.take n) (sm.getD n default)≠0):eZ pcs ease sm sm.length 0=cN pcs ease (sm.take n) (sm.getD n default):=by
 rw [lM (n:=n) (by omega) h,show sm.length-n=sm.length-(n+1)+1 by omega,CZ hne]
theorem BS {pcs:List Pc}{ease:Int}{sm:List Sm}(h:∀t,t<sm.length->cN pcs ease (sm.take t) (sm.getD t default)=0):eZ pcs ease sm sm.length 0=0:=by
 rw [lM (n:=sm.length) (Nat.le_refl _) h,Nat.sub_self];rfl
theorem Dx {P:List Pc}:((List.range P.length).all fun q=>cg (P.getD q default))=true↔DN P:=by
 rw [List.all_eq_true]
 exact ⟨fun h q hq=>h q (List.mem_range.2 hq),fun h q hq=>h q (List.mem_range.1 hq)⟩
def CO (M:List ((Int×Int)×Bool))(pre:List Sm):Prop:=∀a i,(look (a,i) M).getD false=pre.any fun t=>db t a i
theorem CO.nil:CO [] []:=fun a i=>by simp [qg]
theorem CO.snoc {M:List ((Int×Int)×Bool)} {pre:List Sm} {s:Sm} (h:CO M pre):CO (ff (s.B,s.J) true (ff (s.A,s.I) true M)) (pre++[s]):=by
 intro a i
 rw [mg,mg,List.any_append,←h a i]
 simp only [List.any_cons,List.any_nil,Bool.or_false,db,Prod.mk.injEq]
 by_cases h1:a=s.B/\i=s.J
 ·simp [h1.1,h1.2]
 ·rw [if_neg h1]
  by_cases h2:a=s.A/\i=s.I
  ·simp [h2.1,h2.2]
  ·rw [if_neg h2]
   have e1:(decide (s.A=a)&&decide (s.I=i))=false:=by
    rw [Bool.and_eq_false_iff]
    by_cases e:s.A=a
    ·right;rw [decide_eq_false_iff_not];exact fun e2=>h2 ⟨e.symm,e2.symm⟩
    ·left;exact decide_eq_false e
   have e2:(decide (s.B=a)&&decide (s.J=i))=false:=by
    rw [Bool.and_eq_false_iff]
    by_cases e:s.B=a
    ·right;rw [decide_eq_false_iff_not];exact fun e2=>h1 ⟨e.symm,e2.symm⟩
    ·left;exact decide_eq_false e
   rw [e1,e2];simp
theorem DT {pre:List Sm}{s:Sm}:Et pre s=((pre.any fun t=>db t s.A s.I)||(pre.any fun t=>db t s.B s.J)):=by
 induction pre with
 | nil=>rfl
 | cons t pre ih =>
   simp only [Et,List.any_cons] at ih ⊢
   rw [ih]
   cases db t s.A s.I<;>cases db t s.B s.J<;>simp
theorem kF {S:List Sm}{n:Nat}(hn:n<S.length):S.take (n+1)=S.take n++[S.getD n default]:=by
 rw [List.take_add_one,List.getElem?_eq_getElem hn,List.getD_eq_getElem?_getD,List.getElem?_eq_getElem hn];rfl
theorem Ng {a b c d:Int}:ig false [.int .i64,.int .i64] (.agg [.int .i64 a,.int .i64 b]) (.agg [.int .i64 c,.int .i64 d])=some (.bool (decide (a=c)&&decide (b=d))):=by rw [Qb];simp
theorem zs4:bH (zs 4)=[.int .i64 0,.int .i64 0,.int .i64 0,.int .i64 0]:=Eq.trans rfl rfl
theorem lD (hp:PcsV H pv ps P) (hsv:LstV smC H sv S) (hok:DN P) (hb:S.length≤1000000) (he:0≤e∧e≤5) (hlim:lim≤H.length) (hK:∀H',HX H H'→K (.int .i64 (eZ P e S S.length 0)) H') :
 aF tbl lim 29 [.agg [pv,sv,.int .i64 e]] H K:=by
 refine ao tbl_at29 rfl ?_
 simp [vf29,rd0,cm,gW,hp.lst.stor,hp.lst.one,hsv.stor,hsv.one,hsv.len]
 refine aO S.length (fun i fr L H'=>∃M X,(fr 1=.lp 0 0/\fr 3=.mp H.length/\fr 11=sv/\fr 12=.int .i64 S.length/\fr 13=.int .i64 i)/\L=[pv,sv,.int .i64 e] :: X/\H'=H++[.map (mE kI2 .bool M)]/\CO M (S.take i)/\∀t,t<i->cN P e (S.take t) (S.getD t default)=0) ⟨[],[],by simp,by simp,rfl,by simpa using CO.nil,fun k hk=>by omega⟩ ?_
 rintro i hi fr L H1 ⟨M,X,⟨f1,f3,f11,f12,f13⟩,rfl,rfl,hM,hall⟩
 simp [f1,f3,f11,f12,f13]
 have hx:∀x,HX H (H++[x]):=fun x=>HX.push
 refine aC (fun ht => ?_) fun hfl => ?_
 ·have ht:i<S.length:=by omega
  have hp1:=hp.mono (hx (.map (mE kI2 .bool M)))
  have hs1:=hsv.mono (hx (.map (mE kI2 .bool M)))
  have ld:=fun L=>hs1.load ht (L:=L)
  generalize hs:S.getD i default=s at ld
  have ec:smC.cells s=[.int .i64 s.A,.int .i64 s.I,.int .i64 s.B,.int .i64 s.J]:=rfl
  rw [ec] at ld
  have hseam:=L5 (pcs:=P) (ease:=e) (pre:=S.take i) (s:=s)
  simp [f1,f3,f11,f12,f13,hs1.at ht,ld,zs4,ft,gy,al,LQ,rd0,cm,gW,rZ,bh,hp.lst.stor,hp.lst.one,hsv.stor,hsv.one]
  refine gK hp1 hsv.stor hsv.one ?_
  by_cases h1:cz P s.A s.I=true
  case neg =>
   have h1:cz P s.A s.I=false:=by simpa using h1
   have h5:cN P e (S.take i) (S.getD i default)=5:=by rw [hs,hseam];simp [h1]
   have hK5:=hK _ (hx (.map (mE kI2 .bool M)))
   rw [kC ht hall (by omega),h5] at hK5
   simp [h1];exact hK5
  simp [f1,f3,f11,f12,f13,h1,ft,gy,rd0,cm,gW,rZ,bh,hp.lst.stor,hp.lst.one,hsv.stor,hsv.one]
  refine gK hp1 hsv.stor hsv.one ?_
  by_cases h2:cz P s.B s.J=true
  case neg =>
   have h2:cz P s.B s.J=false:=by simpa using h2
   have h5:cN P e (S.take i) (S.getD i default)=5:=by rw [hs,hseam];simp [h1,h2]
   have hK5:=hK _ (hx (.map (mE kI2 .bool M)))
   rw [kC ht hall (by omega),h5] at hK5
   simp [h2];exact hK5
  rw [h1,h2] at hseam
  simp only [Bool.and_self,Bool.not_true,Bool.false_eq_true,if_false] at hseam
  have hg:∀a b,fm true [.int .i64,.int .i64] false (.bool false) (H++[.map (mE kI2 .bool M)]) (.mp H.length) (.agg [.int .i64 a,.int .i64 b])=some (.bool ((S.take i).any fun t=>db t a b)):=by
   intro a b
   have:=wB (K:=kI2) (vc:=V.bool) (l:=M) (a:=(a,b)) (z:=false) (b:=H.length) (H:=H++[.map (mE kI2 .bool M)]) (by simp)
   rw [hM a b] at this
   exact this
  have hself:ig false [.int .i64,.int .i64] (.agg [.int .i64 s.A,.int .i64 s.I]) (.agg [.int .i64 s.B,.int .i64 s.J])=some (.bool (wN s)):=Ng
  have h7:(wN s||Et (S.take i) s)=true->K (.int .i64 7) (H++[.map (mE kI2 .bool M)]):=by
   intro hh
   have h5:cN P e (S.take i) (S.getD i default)=7:=by rw [hs,hseam,if_pos hh]
   have hK5:=hK _ (hx (.map (mE kI2 .bool M)))
   rwa [kC ht hall (by omega),h5] at hK5
  rw [DT] at h7
  by_cases h3:wN s=true
  ·have h7:=h7 (by simp [h3])
   simp [f1,f3,f11,f12,f13,h2,ft,gy,rd0,cm,gW,rZ,bh,kY,hp.lst.stor,hp.lst.one,hsv.stor,hsv.one,al,hself,hg,h3]
   exact h7
  have h3:wN s=false:=by simpa using h3
  by_cases u1:((S.take i).any fun t=>db t s.A s.I)=true
  ·have h7:=h7 (by simp [u1])
   simp [f1,f3,f11,f12,f13,h2,ft,gy,rd0,cm,gW,rZ,bh,kY,hp.lst.stor,hp.lst.one,hsv.stor,hsv.one,al,hself,hg,h3,u1,-List.any_eq_true]
   exact h7
  have u1:((S.take i).any fun t=>db t s.A s.I)=false:=Bool.eq_false_iff.2 u1
  by_cases u2:((S.take i).any fun t=>db t s.B s.J)=true
  ·have h7:=h7 (by simp [u2])
   simp [f1,f3,f11,f12,f13,h2,ft,gy,rd0,cm,gW,rZ,bh,kY,hp.lst.stor,hp.lst.one,hsv.stor,hsv.one,al,hself,hg,h3,u1,u2,-List.any_eq_true]
   exact h7
  have u2:((S.take i).any fun t=>db t s.B s.J)=false:=Bool.eq_false_iff.2 u2
  clear h7
  have hseam:cN P e (S.take i) s=if e<dfS P s\/e < -dfS P s then 8 else 0:=by
   rw [hseam,DT,h3,u1,u2];rfl
  have hput:∀(M:List ((Int×Int)×Bool)) a b,gF lim true [.int .i64,.int .i64] (H++[.map (mE kI2 .bool M)]) (.mp H.length) (.agg [.int .i64 a,.int .i64 b]) (.bool true)=some (H++[.map (mE kI2 .bool (ff (a,b) true M))]):=by
   intro M a b
   have:=Bk (K:=kI2) (vc:=V.bool) (l:=M) (a:=(a,b)) (u:=true) (b:=H.length) (H:=H++[.map (mE kI2 .bool M)]) (lim:=lim) (by simp) hlim rfl
   rw [gy] at this
   exact this
  have hp2:=hp.mono (hx (.map (mE kI2 .bool (ff (s.B,s.J) true (ff (s.A,s.I) true M)))))
  obtain ⟨a1,a2,a3,a4⟩:=cK h1
  obtain ⟨b1,b2,b3,b4⟩:=cK h2
  have ad1:=hp2.addr (i:=s.A) (by omega)
  have ad2:=hp2.addr (i:=s.B) (by omega)
  have ai1:=(hp2.at' _ a1).1.addr (i:=s.I) (by simp only [ksN] at a2;omega)
  have ai2:=(hp2.at' _ b1).1.addr (i:=s.J) (by simp only [ksN] at b2;omega)
  have li1:=fun L=>(hp2.at' _ a1).1.load (i:=s.I.toNat) a2 (L:=L)
  have li2:=fun L=>(hp2.at' _ b1).1.load (i:=s.J.toNat) b2 (L:=L)
  have hd:=QL hok h1 h2
  have ed:(P.getD s.A.toNat default).s.getD s.I.toNat 0-(P.getD s.B.toNat default).s.getD s.J.toNat 0=dfS P s:=rfl
  have w1:IntKind.wrap .i64 (dfS P s)=dfS P s:=ae (by omega) (by omega)
  have w2:IntKind.wrap .i64 (-dfS P s) = -dfS P s:=ae (by omega) (by omega)
  simp [f1,f3,f11,f12,f13,h2,ft,gy,rd0,cm,gW,rZ,bh,kY,hp.lst.stor,hp.lst.one,hsv.stor,hsv.one,al,hself,hg,h3,u1,u2,hput,-List.any_eq_true,-List.any_eq_false,ad1,ad2,hp2.fa a1,hp2.fa b1,hp2.ld0 a1,hp2.ld0 b1,ai1,ai2,li1,li2,ed,w1,w2]
  by_cases hc:e<dfS P s\/e < -dfS P s
  ·have h8:cN P e (S.take i) (S.getD i default)=8:=by rw [hs,hseam,if_pos hc]
   have hK5:=hK _ (hx (.map (mE kI2 .bool (ff (s.B,s.J) true (ff (s.A,s.I) true M)))))
   rw [kC ht hall (by omega),h8] at hK5
   have hc:e<max (dfS P s) (-dfS P s):=by omega
   simp [hc];exact hK5
  ·have h8:cN P e (S.take i) (S.getD i default)=0:=by rw [hs,hseam,if_neg hc]
   have hc:¬e<max (dfS P s) (-dfS P s):=by omega
   simp (disch:=omega) [hc,f1,f3,f11,f12,f13,ae]
   refine ⟨ht,_,rfl,?_,fun k hk => ?_⟩
   ·rw [kF ht,hs];exact hM.snoc
   ·by_cases ek:k=i
    ·subst ek;exact h8
    ·exact hall k (by omega)
 ·have:i=S.length:=by omega
  subst this
  have hK5:=hK _ (hx (.map (mE kI2 .bool M)))
  rw [BS hall] at hK5
  simp;exact hK5
theorem ce (hc:CapV H ws c) (hb:c.S.length≤1000000) (hlim:lim≤H.length) (hK:∀H',HX H H'→K (.int .i64 (cF c)) H'):aF tbl lim 13 [.agg ws] H K:=by
 cases hc with
 | mk hp hsv =>
 rename_i pv sv ps P S e
 simp only at hb
 refine ao tbl_at13 rfl ?_
 unfold cF at hK
 simp only at hK
 by_cases h1:P.length<1\/8<P.length
 ·have e1:(decide ((P.length:Int)<1)||decide (8<(P.length:Int)))=true:=by simp;omega
  rw [if_pos h1] at hK
  simp [vf13,rd0,cm,gW,hp.lst.stor,hp.lst.one,hsv.stor,hsv.one,hp.vlen,e1]
  exact hK _ HX.refl
 have e1:decide ((P.length:Int)<1)=false:=by simp;omega
 have e2:decide (8<(P.length:Int))=false:=by simp;omega
 rw [if_neg h1] at hK
 by_cases h2:e<0\/5<e
 ·have e3:(decide (e<0)||decide (5<e))=true:=by simp;omega
  rw [if_pos h2] at hK
  simp [vf13,rd0,cm,gW,hp.lst.stor,hp.lst.one,hsv.stor,hsv.one,hp.vlen,e1,e2,e3]
  exact hK _ HX.refl
 have e3:decide (e<0)=false:=by simp;omega
 have e4:decide (5<e)=false:=by simp;omega
 rw [if_neg h2] at hK
 simp [vf13,rd0,cm,gW,hp.lst.stor,hp.lst.one,hsv.stor,hsv.one,hp.vlen,e1,e2,e3,e4]
 refine aO P.length (fun i fr L H'=>∃X,(fr 1=.lp 0 0/\fr 24=pv/\fr 25=.int .i64 P.length/\fr 26=.int .i64 i)/\L=[pv,sv,.int .i64 e] :: X/\H'=H/\∀k,k<i->cg (P.getD k default)=true) ⟨[],by simp,rfl,rfl,fun k hk=>by omega⟩ ?_
 rintro i hi fr L H1 ⟨X,⟨f1,f24,f25,f26⟩,rfl,rfl,hall⟩
 simp [f1,f24,f25,f26]
 refine aC (fun ht => ?_) fun hfl => ?_
 ·have ht:i<P.length:=by omega
  obtain ⟨s1,s2⟩:=hp.at' i ht
  simp [f1,f24,f25,f26,rd0,kY,hp.at ht,hp.ld2 ht,s1.stor,s2.stor,s1.one,s2.one,ft,gy,al]
  refine uA (p:=P.getD i default) s1 s2 ?_
  by_cases g:cg (P.getD i default)=true
  ·simp (disch:=omega) [f1,f24,f25,f26,g,ae]
   refine ⟨ht,fun k hk => ?_⟩
   by_cases ek:k=i
   ·subst ek;exact g
   ·exact hall k (by omega)
  ·have hn:((List.range P.length).all fun q=>cg (P.getD q default))=false:=by
    rw [Bool.eq_false_iff];intro hh;exact g (Dx.1 hh i ht)
   rw [hn] at hK
   have g:cg (P.getD i default)=false:=by simpa using g
   simp at hK
   simp [g];exact hK _ HX.refl
 ·have:i=P.length:=by omega
  subst this
  have hok:DN P:=hall
  rw [Dx.2 hok] at hK
  simp only [Bool.not_true,Bool.false_eq_true,if_false] at hK
  simp [f1,f24,f25,f26,bh]
  refine lD hp hsv hok hb (by omega) hlim fun H2 x2 => ?_
  simp
  exact hK _ x2
end
def sdP (P:List Pc)(L:List (Nat×Nat))(i:Nat):Sid:=⟨lnN P i,anN P i,nxN P i,bfN P i,if alf L i=i then -1 else (alf L i:Nat)⟩
def fi (P:List Pc)(L:List (Nat×Nat)):List Sid:=(List.range (nsN P)).map (sdP P L)
theorem cx {P:List Pc}{L:List (Nat×Nat)}:(fi P L).length=nsN P:=by simp [fi]
theorem cC {P:List Pc}{L:List (Nat×Nat)}{i:Nat}(hi:i<nsN P):(fi P L).getD i default=sdP P L i:=kP hi
theorem tw {α:Type}[Inhabited α]{l m:List α}(h:l.length=m.length)(hk:∀k,k<l.length->l.getD k default=m.getD k default):l=m:=by
 apply List.ext_getElem h
 intro i h1 h2
 have:=hk i h1
 simpa [List.getD_eq_getElem?_getD,h1,h2] using this
theorem MV {P:List Pc}:mz P P.length=fi P []:=by
 refine tw (by rw [gq,cx];rfl) fun i hi => ?_
 rw [gq] at hi
 rw [cC hi]
 obtain ⟨q,j,h1,h2,rfl⟩:=cH hi
 have h3:=ma h1 h2
 have h4:=PU h1 h2
 rw [sdP,ox h1 h2,Iq h1 h2,h3,h4,kU h1 h2]
 simp only [alf,if_true,E4];rfl
theorem nC {α:Type}[Inhabited α]{l:List α}{i t:Nat}{x:α}(h:i<l.length):(l.set i x).getD t default=if t=i then x else l.getD t default:=by
 simp only [List.getD_eq_getElem?_getD,List.getElem?_set]
 by_cases e:i=t
 ·subst e;simp [h]
 ·rw [if_neg e,if_neg (fun h=>e h.symm)]
theorem Lx {P:List Pc}{L:List (Nat×Nat)}{a b:Nat}(h:SmOk (nsN P) ((a,b) :: L)):((fi P L).set a { sdP P L a with p:=(b:Nat) }).set b { sdP P L b with p:=(a:Nat) }=fi P ((a,b) :: L):=by
 have hc:=fun {c}=>fw h (c:=c)
 cases h with
 | cons h h1 h2 h3 h4 =>
 simp only at h1 h2 h3
 refine tw (by simp [cx]) fun i hi => ?_
 have hi:i<nsN P:=by simpa [cx] using hi
 rw [nC (by simpa [cx] using h2),nC (by simpa [cx] using h1),cC hi,cC hi]
 by_cases e1:i=b
 ·subst e1
  have hne:¬i=a:=fun e=>h3 e.symm
  have e:alf ((a,i) :: L) i=a:=by rw [hc,if_neg hne,if_pos rfl]
  rw [if_pos rfl];simp only [sdP,e];rw [if_neg h3]
 ·rw [if_neg e1]
  by_cases e2:i=a
  ·subst e2
   have e:alf ((i,b) :: L) i=b:=by rw [hc,if_pos rfl]
   rw [if_pos rfl];simp only [sdP,e];rw [if_neg (fun e=>e1 e.symm)]
  ·have e:alf ((a,b) :: L) i=alf L i:=by rw [hc,if_neg e2,if_neg e1]
   rw [if_neg e2];simp only [sdP,e]
theorem KP {P:List Pc}{L:List (Nat×Nat)}(h:SmOk (nsN P) L)(hn:nsN P<=100000):LayOk (fi P L) where
 n := fun i hi=>by
   rw [cx] at hi ⊢
   rw [cC hi]
   have:=qV.lt i hi
   simp only [sdP];omega
 p := fun i hi=>by
   rw [cx] at hi ⊢
   rw [cC hi]
   have:=h.pr.lt i hi
   simp only [sdP];split<;>omega
 len:=by rw [cx];exact hn
theorem mm {P:List Pc}{L:List (Nat×Nat)}{i:Nat}(hi:i<nsN P):((fi P L).getD i default).p = -1↔alf L i=i:=by
 rw [cC hi];simp only [sdP];split<;>(constructor<;>intro h)<;>first | assumption | rfl | omega | contradiction
theorem Bf {P:List Pc}{L:List (Nat×Nat)}(h:SmOk (nsN P) L){c:Nat}(hc:c<nsN P):∀{k:Nat},(∀i,i<k->alf L (itN (nuN (nxN P) L) i c)≠itN (nuN (nxN P) L) i c)->wlk (fi P L) c k=itN (nuN (nxN P) L) k c
 | 0,_=>rfl
 | k+1,hf=>by
   have ih:=Bf h hc (k:=k) fun i hi=>hf i (by omega)
   have hlt:=(tP qV h).it hc k
   have hk:=hf k (by omega)
   simp only [wlk,ih,itN]
   rw [cC hlt]
   simp only [sdP,hk,if_false,Int.toNat_natCast]
   rw [cC (h.pr.lt _ hlt)]
   simp only [sdP,Int.toNat_natCast];rfl
section
variable {n lim:Nat}{H H0 H':Hp}{K:V->Hp->Prop}{v lv fv pv sv:V}{ps:List (V×V)}{pcs P:List Pc}{S:List Sm}{e:Int}{ws:List V}{c:Cp}{l:List Sid}{f:List Int}
theorem OwnV.keepB (h:OwnV n H v f)(hk:∀b o m z,v=.sl b o m z->H'[b]? = H[b]?):OwnV n H' v f:=by
 cases h with
 | nil=>exact .nil
 | row h1 h3=>exact .row h1 (by rw [hk _ _ _ _ rfl];exact h3)
theorem OwnT.keepB {α:Type}{k:Nat}{c:Cod α k}{l:List α}(h:OwnT n c H v l)(hk:∀b o m z,v=.sl b o m z->H'[b]? = H[b]?):OwnT n c H' v l:=by
 cases h with
 | nil=>exact .nil
 | row h1 h3=>exact .row h1 (by rw [hk _ _ _ _ rfl];exact h3)
theorem OwnT.belowB {α:Type}{k:Nat}{c:Cod α k}{l:List α}(h:OwnT n c H v l):∀b o m z,v=.sl b o m z->n<=b/\b<H.length:=by
 rintro b o m z rfl
 cases h with
 | row h1 h3=>exact ⟨h1,(List.getElem?_eq_some_iff.1 h3).1⟩
theorem OwnV.belowB (h:OwnV n H v f):∀b o m z,v=.sl b o m z->n<=b/\b<H.length:=by
 rintro b o m z rfl
 cases h with
 | row h1 h3=>exact ⟨h1,(List.getElem?_eq_some_iff.1 h3).1⟩
theorem OwnV.appendF (h:OwnV n H v f){x:Int}(hn:lim<=n/\n<=H.length)(hl:f.length<1000000) :
 ∃v' H',aP lim 1 8 (H++[.row [.int .i64 x] true]) v (.sl H.length 0 1 1)=some (v',H')/\OwnV n H' v' (f++[x])/\(∀H0,HX H0 H->H0.length<=n->HX H0 H')/\H.length<=H'.length/\(∀b',b'<H.length->(∀o z y,v≠.sl b' o z y)->H'[b']? = H[b']?)/\∀b o z y,v'=.sl b o z y->H.length<=b:=by
 refine ⟨_,_,h.append ⟨hn.1,hl⟩,h.ap hn.2,fun H0 hx h0=>h.apX hx h0,h.apLen,fun b' hb' hne => ?_,fun b o z y e=>by cases e;omega⟩
 cases h with
 | nil=>simp only [apH];rw [List.getElem?_append_left (by simp;omega),List.getElem?_append_left hb']
 | row h1 h3 =>
   rename_i b
   simp only [apH]
   rw [List.getElem?_append_left (by simp;omega),List.getElem?_set_ne (fun e=>hne _ _ _ (by rw [e])),List.getElem?_append_left hb']
theorem OwnT.appendF2 {α:Type}{k:Nat}{c:Cod α k}{l:List α}(h:OwnT n c H v l){lim bytes:Nat}{x:α}{cs:List V}(hcs:c.cells x=cs)(hn:lim<=n/\n<=H.length)(hb:bytes<=1000)(hl:l.length<1000000) :
 ∃v' H',aP lim k bytes (H++[.row cs true]) v (.sl H.length 0 1 k)=some (v',H')/\OwnT n c H' v' (l++[x])/\(∀H0,HX H0 H->H0.length<=n->HX H0 H')/\H.length<=H'.length/\(∀b',b'<H.length->(∀o z y,v≠.sl b' o z y)->H'[b']? = H[b']?)/\∀b o z y,v'=.sl b o z y->H.length<=b:=by
 have hh:=h
 subst hcs
 obtain ⟨v',H',a1,a2,a3,a4,a5,a6⟩:=h.append (lim:=lim) (bytes:=bytes) (x:=x) rfl hn hb hl
 refine ⟨v',H',a1,a2,a3,by omega,a6,?_⟩
 have hy:LstV c (H++[.row (c.cells x) true]) (.sl H.length 0 1 k) [x]:=by
  have:=LstV.sl (c:=c) (l:=[x]) (off:=0) (H:=H++[.row (c.cells x) true]) (b:=H.length) (own:=true) (cs:=c.cells x) List.getElem?_concat_length (by simp [c.len]) (by simp [Cod.all_one];rw [List.take_of_length_le (by rw [c.len];omega)])
  simpa using this
 have hb1:(l.length+1)*bytes<=1000000*1000:=Nat.mul_le_mul (by omega) hb
 have hb2:1*bytes<=1000000*1000:=Nat.mul_le_mul (by omega) hb
 rintro b o z y rfl
 cases hh with
 | nil =>
   simp [aP,hy.cells,hy.len,show bytes<=140737488355328 by omega] at a1
   omega
 | row h1 h2 =>
   rename_i b'
   have hbl:=(List.getElem?_eq_some_iff.1 h2).1
   have h2':(H++[Blk.row (c.cells x) true])[b']? = some (.row (c.all l) true):=by rw [List.getElem?_append_left hbl];exact h2
   simp [aP,hy.cells,hy.len,h2',Cod.all_len,show lim<=b' by omega,show (l.length+1)*bytes<=140737488355328 by omega,show l.length+1<4611686018427387904 by omega] at a1
   omega
structure LayS (n:Nat)(H0 H:Hp)(lv fv:V)(l:List Sid)(f:List Int):Prop where
 hx:HX H0 H
 ol:OwnT n sdC H lv l
 of:OwnV n H fv f
 ap:∀b o z y o' z' y',lv=.sl b o z y->fv=.sl b o' z' y'->False
theorem LayS.pushF (h:LayS n H0 H lv fv l f){x:Int}(hn:lim<=n/\H0.length<=n/\n<=H.length)(hl:f.length<1000000) :
 ∃v' H',aP lim 1 8 (H++[.row [.int .i64 x] true]) fv (.sl H.length 0 1 1)=some (v',H')/\LayS n H0 H' lv v' l (f++[x])/\H.length<=H'.length:=by
 obtain ⟨v',H',a1,a2,a3,a4,a5,a6⟩:=h.of.appendF (x:=x) ⟨hn.1,hn.2.2⟩ hl
 refine ⟨v',H',a1,⟨a3 _ h.hx hn.2.1,h.ol.keepB fun b o m z e=>a5 b (h.ol.belowB _ _ _ _ e).2 fun o' z' y' e'=>h.ap _ _ _ _ _ _ _ e e',a2,fun b o z y o' z' y' e e' => ?_⟩,a4⟩
 have:=(h.ol.belowB _ _ _ _ e).2
 have:=a6 _ _ _ _ e'
 omega
theorem LayS.pushL (h:LayS n H0 H lv fv l f){x:Sid}{cs:List V}(hcs:sdC.cells x=cs)(hn:lim<=n/\H0.length<=n/\n<=H.length)(hl:l.length<1000000) :
 ∃v' H',aP lim 5 40 (H++[.row cs true]) lv (.sl H.length 0 1 5)=some (v',H')/\LayS n H0 H' v' fv (l++[x]) f/\H.length<=H'.length:=by
 obtain ⟨v',H',a1,a2,a3,a4,a5,a6⟩:=h.ol.appendF2 (lim:=lim) (bytes:=40) hcs ⟨hn.1,hn.2.2⟩ (by omega) hl
 refine ⟨v',H',a1,⟨a3 _ h.hx hn.2.1,a2,h.of.keepB fun b o m z e=>a5 b (h.of.belowB _ _ _ _ e).2 fun o' z' y' e'=>h.ap _ _ _ _ _ _ _ e' e,fun b o z y o' z' y' e e' => ?_⟩,a4⟩
 have:=(h.of.belowB _ _ _ _ e').2
 have:=a6 _ _ _ _ e
 omega
theorem LayS.setL (h:LayS n H0 H lv fv l f){l':List Sid}(hl:l'.length=l.length)(hn:H0.length<=n):LayS n H0 (dI H lv (sdC.all l')) lv fv l' f where
 hx:=h.ol.setX h.hx hn
 ol:=h.ol.put hl
 of:=h.of.keepB fun b o m z e=>by
  have:=h.ap
  cases h.ol with
  | nil=>rfl
  | row h1 h2=>simp only [dI];rw [List.getElem?_set_ne];rintro rfl;exact h.ap _ _ _ _ _ _ _ rfl e
 ap:=h.ap
def uH (P:List Pc)(i:Nat):List Int:=(List.range i).map fun q=>(aZ P q:Int)
theorem kg {P:List Pc}{i:Nat}:(uH P i).length=i:=by simp [uH]
theorem EP {P:List Pc}{i:Nat}:uH P (i+1)=uH P i++[(aZ P i:Int)]:=by simp [uH,List.range_succ]
theorem zj {P:List Pc}{i q:Nat}(h:q<i):(uH P i).getD q 0=aZ P q:=ri h
theorem zs5:bH (zs 5)=[.int .i64 0,.int .i64 0,.int .i64 0,.int .i64 0,.int .i64 0]:=Eq.trans rfl rfl
theorem kh (hc:CapV H ws c) (hok:CapOk c) (hlim:lim≤H.length) (hK:∀H' lv,HX H H'→OwnT H.length sdC H' lv (fi c.P (lsN c))→K lv H'):aF tbl lim 34 [.agg ws] H K:=by
 cases hc with
 | mk hp hsv =>
 rename_i pv sv ps P S e
 refine ao tbl_at34 rfl ?_
 simp only at hK
 have hnp:=hok.np
 have hns:=hok.ns
 simp only at hnp hns
 have hsl:S.length<=24:=by
  have:=ja hok.sm_ok
  rw [nK] at this
  simp only at this;omega
 have hks:∀q,q<P.length->3<=ksN P q/\ksN P q<=6:=fun q hq=>hok.ks hq
 have hof:∀q,q<=P.length->aZ P q<=48:=fun q hq=>by have:=kr (pcs:=P) hq;unfold nsN at hns;omega
 simp [vf34,rd0,cm,gW,hp.lst.stor,hp.lst.one,hsv.stor,hsv.one,hp.vlen]
 refine aO P.length (fun i fr L H'=>∃lv fv X,(fr 1=.lp 0 0/\fr 3=lv/\fr 4=fv/\fr 15=pv/\fr 16=.int .i64 P.length/\fr 17=.int .i64 i)/\L=[pv,sv,.int .i64 e] :: X/\LayS H.length H H' lv fv (mz P i) (uH P i)) ⟨.snil,.snil,[],by simp,by simp,.refl,.nil,.nil,fun b o z y o' z' y' e _=>by cases e⟩ ?_
 rintro i hi fr L H1 ⟨lv,fv,X,⟨f1,f3,f4,f15,f16,f17⟩,rfl,hS⟩
 simp [f1,f3,f4,f15,f16,f17]
 have x1:HX H H1:=hS.hx
 have l1:=x1.len
 refine aC (fun ht => ?_) fun hfl => ?_
 ·have ht:i<P.length:=by omega
  have hp1:=hp.mono x1
  obtain ⟨s1,s2⟩:=hp1.at' i ht
  have hpo:=hok.pc i ht
  obtain ⟨g1,g2,g3,g4⟩:=co hpo
  simp only at g1 g2 g3 g4
  have hl1:=hS.ol.lst.len
  rw [gq] at hl1
  have hki:=hks i ht
  have hoi:=hof i (by omega)
  have ksd:ksN P i=(P.getD i default).s.length:=rfl
  obtain ⟨fv2,H2,b1,hS2,l2⟩:=hS.pushF (lim:=lim) (x:=(aZ P i:Int)) ⟨hlim,Nat.le_refl _,by omega⟩ (by rw [kg];omega)
  have x2:HX H H2:=hS2.hx
  simp [f1,f3,f4,f15,f16,f17,hp1.at ht,hp1.ld2 ht,rd0,cm,gW,kY,al,ft,gy,s1.stor,s1.one,s2.stor,s2.one,s1.len,hl1,b1]
  refine aO (ksN P i) (fun j fr L' H'=>∃lv,(fr 1=.lp 0 0/\fr 3=lv/\fr 4=fv2/\fr 6=.lp (X.length+1) 0/\fr 7=.int .i64 (aZ P i)/\fr 8=.int .i64 (ksN P i)/\fr 15=pv/\fr 16=.int .i64 P.length/\fr 17=.int .i64 i/\fr 30=.int .i64 (ksN P i)/\fr 31=.int .i64 j)/\L'=[pv,sv,.int .i64 e] :: (X++[[(ps.getD i default).1,(ps.getD i default).2]])/\LayS H.length H H' lv fv2 (mz P i++(List.range j).map (E4 (aZ P i) (P.getD i default))) (uH P i++[(aZ P i:Int)])) ⟨lv,by simp [f1,f3,f4,f15,f16,f17,ksd],rfl,by simpa using hS2⟩ ?_
  clear f1 f3 f4 f15 f16 f17 hl1 hS hS2 hi fr
  rintro j hj fr L' H3 ⟨lv,⟨f1,f3,f4,f6,f7,f8,f15,f16,f17,f30,f31⟩,rfl,hS3⟩
  have x3:HX H H3:=hS3.hx
  have l3:=x3.len
  simp [f1,f3,f4,f6,f7,f8,f15,f16,f17,f30,f31]
  refine aC (fun hjt => ?_) fun hjf => ?_
  ·have hjt:j<ksN P i:=by omega
   have hp3:=hp.mono x3
   obtain ⟨t1,t2⟩:=hp3.at' i ht
   have aa:=t1.addr (i:=(j:Int)) (by rw [←ksd];omega)
   have ab:=t2.addr (i:=(j:Int)) (by rw [g2,←ksd];omega)
   simp only [Int.toNat_natCast] at aa ab
   have la:=fun L=>t1.load (i:=j) (by rw [←ksd];omega) (L:=L)
   have lb:=fun L=>t2.load (i:=j) (by rw [g2,←ksd];omega) (L:=L)
   have e1:((j:Int)+1).tmod (ksN P i:Int)=(((j+1) % ksN P i:Nat):Int):=g8 (j+1) (ksN P i)
   have e2:((j:Int)+(ksN P i:Int)-1).tmod (ksN P i:Int)=(((j+ksN P i-1) % ksN P i:Nat):Int):=by
    rw [show (j:Int)+(ksN P i:Int)-1=((j+ksN P i-1:Nat):Int) by omega];exact g8 _ _
   have hne:(ksN P i:Int)≠0:=by omega
   have m1:(j+1) % ksN P i<ksN P i:=Nat.mod_lt _ (by omega)
   have m2:(j+ksN P i-1) % ksN P i<ksN P i:=Nat.mod_lt _ (by omega)
   obtain ⟨lv2,H4,c1,hS4,l4⟩:=hS3.pushL (lim:=lim) (x:=E4 (aZ P i) (P.getD i default) j) (cs:=[.int .i64 ((P.getD i default).s.getD j 0),.int .i64 ((P.getD i default).a.getD j 0),.int .i64 ((aZ P i:Int)+((j+1) % ksN P i:Nat)),.int .i64 ((aZ P i:Int)+((j+ksN P i-1) % ksN P i:Nat)),.int .i64 (-1)]) (by
    simp only [sdC,Sid.cells,E4,←ksd,Int.natCast_add]) ⟨hlim,Nat.le_refl _,by omega⟩ (by
    rw [List.length_append,gq,List.length_map,List.length_range];omega)
   generalize hm1:(j+1) % ksN P i=r1 at *
   generalize hm2:(j+ksN P i-1) % ksN P i=r2 at *
   have hvr:∀a:Int,bU .rem (.int .i64 a) (.int .i64 (ksN P i:Int))=some (.int .i64 (a.tmod (ksN P i:Int))):=fun a=>gx hne
   simp (disch:=omega) [f1,f3,f4,f6,f7,f8,f15,f16,f17,f30,f31,rd0,cm,ft,aa,ab,la,lb,ae,hvr,e1,e2,al,zs5,c1]
   refine ⟨hjt,?_⟩
   rw [List.range_succ,List.map_append,←List.append_assoc]
   exact hS4
  ·have:j=ksN P i:=by omega
   subst this
   simp (disch:=omega) [f1,f3,f4,f6,f7,f8,f15,f16,f17,f30,f31,ae]
   exact ⟨ht,_,_,⟨rfl,rfl⟩,by rw [EP];exact hS3⟩
 ·have:i=P.length:=by omega
  subst this
  simp [f1,f3,f4,f15,f16,f17,cm,hsv.len]
  refine aO S.length (fun i fr L H'=>∃X,(fr 1=.lp 0 0/\fr 3=lv/\fr 4=fv/\fr 65=sv/\fr 66=.int .i64 S.length/\fr 67=.int .i64 i)/\L=[pv,sv,.int .i64 e] :: X/\LayS H.length H H' lv fv (fi P (prL P (S.take i))) (uH P P.length)) ⟨X,by simp [f1,f3,f4],rfl,by
   have e0:prL P (S.take 0)=[]:=by simp [prL]
   rw [e0,←MV];exact hS⟩ ?_
  clear f1 f3 f4 f15 f16 f17 hS hi fr hfl
  rintro i hi fr L H3 ⟨X,⟨f1,f3,f4,f65,f66,f67⟩,rfl,hS3⟩
  have x3:HX H H3:=hS3.hx
  have l3:=x3.len
  simp [f1,f3,f4,f65,f66,f67]
  refine aC (fun ht => ?_) fun hfl => ?_
  ·have ht:i<S.length:=by omega
   have hs3:=hsv.mono x3
   have ld:=fun L=>hs3.load ht (L:=L)
   have hso:=hok.sm i ht
   have hpl:prL P (S.take (i+1))=prS P (S.getD i default) :: prL P (S.take i):=by
    rw [kF ht,prL,List.map_append,List.reverse_append];rfl
   have hsk:=qj hok (n:=i+1) ht
   simp only at hsk
   rw [hpl] at hsk ⊢
   simp only at hso
   generalize hs:S.getD i default=s at ld hso hsk ⊢
   have ec:smC.cells s=[.int .i64 s.A,.int .i64 s.I,.int .i64 s.B,.int .i64 s.J]:=rfl
   rw [ec] at ld
   obtain ⟨⟨q1,q2⟩,_,_,_⟩:=gL hso
   obtain ⟨a1,a2,a3,a4⟩:=cK q1
   obtain ⟨b1,b2,b3,b4⟩:=cK q2
   have oa:=hof s.A.toNat (by omega)
   have ob:=hof s.B.toNat (by omega)
   have ka:=hks _ a1
   have kb:=hks _ b1
   have aa:=hS3.of.sl.addr (i:=s.A) (by rw [kg];omega)
   have ab:=hS3.of.sl.addr (i:=s.B) (by rw [kg];omega)
   have la:=fun L=>hS3.of.sl.load (i:=s.A.toNat) (by rw [kg];omega) (L:=L)
   have lb:=fun L=>hS3.of.sl.load (i:=s.B.toNat) (by rw [kg];omega) (L:=L)
   rw [zj a1] at la
   rw [zj b1] at lb
   have hsk2:=hsk
   generalize hab:prS P s=ab' at hsk hsk2 ⊢
   obtain ⟨a,b⟩:=ab'
   simp only [prS,Prod.mk.injEq] at hab
   cases hsk2 with
   | cons _ h1 h2 h3 h4 =>
   simp only at h1 h2 h3
   have ea:(aZ P s.A.toNat:Int)+s.I=(a:Nat):=by omega
   have eb:(aZ P s.B.toNat:Int)+s.J=(b:Nat):=by omega
   have wa:IntKind.wrap .i64 (a:Int)=(a:Int):=ae (by omega) (by omega)
   have wb:IntKind.wrap .i64 (b:Int)=(b:Int):=ae (by omega) (by omega)
   have hll:=cx (P:=P) (L:=prL P (S.take i))
   have ga:=hS3.ol.lst.at (i:=a) (by omega)
   have gb:=hS3.ol.lst.at (i:=b) (by omega)
   have fa:ct 4 (ept 5 lv a)=some (dB 5 lv a 4):=hS3.ol.lst.faddr (by omega)
   have fb:ct 4 (ept 5 lv b)=some (dB 5 lv b 4):=hS3.ol.lst.faddr (by omega)
   have st1:=fun L=>hS3.ol.store (lim:=lim) (i:=a) (j:=4) (x:=.int .i64 (b:Int)) (y:={ sdP P (prL P (S.take i)) a with p:=(b:Int) }) (L:=L) (sz:=1) hlim (by omega) rfl rfl (by omega) (by
    rw [cC h1];rfl)
   have hS4:=hS3.setL (l':=(fi P (prL P (S.take i))).set a { sdP P (prL P (S.take i)) a with p:=(b:Int) }) (by simp) (Nat.le_refl _)
   have st2:=fun L=>hS4.ol.store (lim:=lim) (i:=b) (j:=4) (x:=.int .i64 (a:Int)) (y:={ sdP P (prL P (S.take i)) b with p:=(a:Int) }) (L:=L) (sz:=1) hlim (by simp;omega) rfl rfl (by omega) (by
    rw [nC (by omega),if_neg (fun e=>h3 e.symm),cC h2];rfl)
   have hS5:=hS4.setL (l':=((fi P (prL P (S.take i))).set a { sdP P (prL P (S.take i)) a with p:=(b:Int) }).set b { sdP P (prL P (S.take i)) b with p:=(a:Int) }) (by simp) (Nat.le_refl _)
   rw [Lx hsk] at hS5 st2
   have ls:aD lim ([pv,sv,.int .i64 e] :: (X++[[.int .i64 0,.int .i64 0,.int .i64 0,.int .i64 0]])) H3 (.lp (X.length+1) 0) (.agg [.int .i64 s.A,.int .i64 s.I,.int .i64 s.B,.int .i64 s.J]) 4=some ([pv,sv,.int .i64 e] :: (X++[[.int .i64 s.A,.int .i64 s.I,.int .i64 s.B,.int .i64 s.J]]),H3):=by simp [aD,al]
   simp (disch:=omega) [f1,f3,f4,f65,f66,f67,hs3.at ht,ld,zs4,LQ,al,ft,gy,rd0,cm,gW,rZ,aa,ab,la,lb,ea,eb,wa,wb,ga,gb,fa,fb,st1,st2,ls,-aD,ae,nl]
   exact ⟨ht,hS5⟩
  ·have:i=S.length:=by omega
   subst this
   rw [List.take_length] at hS3
   simp [f3,hS3.ol.lst.stor]
   exact hK _ _ x3 hS3.ol
end
theorem bO {α:Type}{l:List α}{x d:α}{i:Nat}(h:i=l.length):(l++[x]).getD i d=x:=by
 subst h;simp [List.getD_eq_getElem?_getD]
theorem CapV.form {H:Hp}{ws:List V}{c:Cp}(h:CapV H ws c):∃pv sv ps,ws=[pv,sv,.int .i64 c.e]/\PcsV H pv ps c.P/\LstV smC H sv c.S/\stor pv=true/\aJ pv=[pv]/\stor sv=true/\aJ sv=[sv]:=by
 cases h with
 | mk hp hs=>exact ⟨_,_,_,rfl,hp,hs,hp.lst.stor,hp.lst.one,hs.stor,hs.one⟩
end Go.Proofs.YtgjlhdggllakbaaGreatDoor.Vm
namespace Go.Proofs.YtgjlhdggllakbaaGreatDoor.Vm
open Go
set_option maxRecDepth 100000
attribute [-simp] List.getD_eq_getElem?_getD
section
variable {α:Type}[Inhabited α]
structure PermR (a b:Nat)(l l':List α):Prop where
 perm:l'.Perm l
 out:∀i,(i<a\/b<=i)->l'.getD i default=l.getD i default
theorem PermR.refl {a b:Nat}{l:List α}:PermR a b l l:=⟨.refl _,fun _ _=>rfl⟩
theorem PermR.trans {a b:Nat}{l l' l'':List α}(h:PermR a b l l')(k:PermR a b l' l''):PermR a b l l'':=⟨k.perm.trans h.perm,fun i hi=>(k.out i hi).trans (h.out i hi)⟩
theorem PermR.len {a b:Nat}{l l':List α}(h:PermR a b l l'):l'.length=l.length:=h.perm.length_eq
def swp (l:List α)(i j:Nat):List α:=(l.set i (l.getD j default)).set j (l.getD i default)
theorem uP {l:List α}{i j:Nat}:(swp l i j).length=l.length:=by simp [swp]
theorem gf {l:List α}{i:Nat}(h:i<l.length):l.getD i default=l[i]:=by simp [List.getD_eq_getElem?_getD,h]
theorem z7 {l:List α}{i k:Nat}{x:α}(h:i<l.length):(l.set i x).getD k default=if k=i then x else l.getD k default:=by
 simp only [List.getD_eq_getElem?_getD,List.getElem?_set]
 by_cases e:k=i
 ·subst e;simp [h]
 ·rw [if_neg (fun e'=>e e'.symm),if_neg e]
theorem d9 {l:List α}{i j k:Nat}(hi:i<l.length)(hj:j<l.length):(swp l i j).getD k default=if k=j then l.getD i default else if k=i then l.getD j default else l.getD k default:=by
 rw [swp,z7 (by simpa using hj),z7 hi]
theorem aY {a b:Nat}{l:List α}{i j:Nat}(hi:a<=i/\i<b)(hj:a<=j/\j<b)(hb:b<=l.length):PermR a b l (swp l i j):=by
 refine ⟨?_,fun k hk=>by rw [d9 (by omega) (by omega),if_neg (by omega),if_neg (by omega)]⟩
 have h1:i<l.length:=by omega
 have h2:j<l.length:=by omega
 rw [swp,gf h1,gf h2]
 exact List.set_set_perm h1 h2
end
section
variable {α:Type}[Inhabited α]{cf:α->α->Int}
def leC (cf:α->α->Int)(x y:α):Prop:=¬cf y x<0
structure Ordr (cf:α->α->Int):Prop where
 tr:∀x y z,leC cf x y->leC cf y z->leC cf x z
 tot:∀x y,leC cf x y\/leC cf y x
omit [Inhabited α] in
theorem Ordr.rf (h:Ordr cf)(x:α):leC cf x x:=(h.tot x x).elim id id
def br (cf:α->α->Int)(a b:Nat)(l:List α):Prop:=∀p q,a<=p->p<q->q<b->leC cf (l.getD p default) (l.getD q default)
def gJ (cf:α->α->Int)(a i j:Nat)(l:List α):Prop :=
 (∀p q,a<=p->p<q->q<=i->p≠j->q≠j->leC cf (l.getD p default) (l.getD q default))/\∀q,j<q->q<=i->leC cf (l.getD j default) (l.getD q default)
theorem gJ.start {a i:Nat}{l:List α}(h:br cf a i l):gJ cf a i i l :=
 ⟨fun p q h1 h2 h3 _ h5=>h p q h1 h2 (by omega),fun q h1 h2=>absurd h1 (by omega)⟩
theorem gJ.swap (ho:Ordr cf) {a i j:Nat} {l:List α} (h:gJ cf a i j l) (ha:a<j) (hj:j≤i) (hi:i<l.length) (hlt:cf (l.getD j default) (l.getD (j-1) default)<0):gJ cf a i (j-1) (swp l j (j-1)):=by
 have hle:leC cf (l.getD j default) (l.getD (j-1) default):=by
  rcases ho.tot (l.getD j default) (l.getD (j-1) default) with h1 | h1
  ·exact h1
  ·exact absurd hlt h1
 have g:∀k,(swp l j (j-1)).getD k default=if k=j-1 then l.getD j default else if k=j then l.getD (j-1) default else l.getD k default:=fun k=>d9 (by omega) (by omega)
 refine ⟨fun p q h1 h2 h3 h4 h5 => ?_,fun q h1 h2 => ?_⟩
 ·rw [g p,g q,if_neg h4,if_neg h5]
  by_cases e1:p=j
  ·rw [if_pos e1,if_neg (by omega)]
   exact h.1 (j-1) q (by omega) (by omega) h3 (by omega) (by omega)
  ·rw [if_neg e1]
   by_cases e2:q=j
   ·rw [if_pos e2]
    exact h.1 p (j-1) h1 (by omega) (by omega) (by omega) (by omega)
   ·rw [if_neg e2];exact h.1 p q h1 h2 h3 e1 e2
 ·rw [g (j-1),g q,if_pos rfl,if_neg (by omega)]
  by_cases e:q=j
  ·rw [if_pos e];exact hle
  ·rw [if_neg e];exact h.2 q (by omega) h2
theorem gJ.done (ho:Ordr cf) {a i j:Nat} {l:List α} (h:gJ cf a i j l) (ha:a≤j) (hj:j≤i) (hx:j=a∨¬cf (l.getD j default) (l.getD (j-1) default)<0):br cf a (i+1) l:=by
 intro p q h1 h2 h3
 by_cases e1:p=j
 ·subst e1;exact h.2 q h2 (by omega)
 ·by_cases e2:q=j
  ·subst e2
   rcases hx with hx | hx
   ·omega
   ·by_cases e3:p=q-1
    ·subst e3;exact hx
    ·exact ho.tr _ _ _ (h.1 p (q-1) h1 (by omega) (by omega) e1 (by omega)) hx
  ·exact h.1 p q h1 h2 (by omega) e1 e2
end
section
variable {α:Type}[Inhabited α]
def swr (l:List α)(a b:Nat):Nat->List α
 | 0=>l
 | n+1=>swp (swr l a b n) (a+n) (b+n)
theorem uo {l:List α}{a b:Nat}:∀{n:Nat},(swr l a b n).length=l.length
 | 0=>rfl
 | n+1=>by rw [swr,uP,uo]
theorem pO {l:List α}{a b N:Nat}(hab:a+N<=b)(hb:b+N<=l.length):∀{n:Nat},n<=N->∀k,(swr l a b n).getD k default=if a<=k/\k<a+n then l.getD (k-a+b) default else if b<=k/\k<b+n then l.getD (k-b+a) default else l.getD k default
 | 0,_,k=>by rw [swr,if_neg (by omega),if_neg (by omega)]
 | n+1,hn,k=>by
   have ih:=pO hab hb (n:=n) (by omega)
   rw [swr,d9 (by rw [uo];omega) (by rw [uo];omega),ih (a+n),ih (b+n),ih k]
   repeat' split
   all_goals first | rfl | (exfalso;omega) | (exact congrArg (fun z=>List.getD _ z default) (by omega))
def Q6 (a m b:Nat)(l l':List α):Prop:=∀k,l'.getD k default=if a<=k/\k<b then (if k<a+(b-m) then l.getD (k+(m-a)) default else l.getD (k-(b-m)) default) else l.getD k default
def sk (a m b i j:Nat)(l l':List α):Prop:=∀k,(if a<=k/\k<b then (if k<a+(b-m) then l.getD (k+(m-a)) default else l.getD (k-(b-m)) default) else l.getD k default) =
 if m-i<=k/\k<m+j then (if k<m-i+j then l'.getD (k+i) default else l'.getD (k-j) default) else l'.getD k default
theorem sk.start {a m b:Nat}{l:List α}(h:a<=m/\m<=b):sk a m b (m-a) (b-m) l l:=fun k=>by
 repeat' split
 all_goals first | rfl | (exfalso;omega) | (exact congrArg (fun z=>List.getD _ z default) (by omega))
theorem sk.more {a m b i j:Nat}{l l':List α}(h:sk a m b i j l l')(hi:i<=m)(hj:j<i)(hl:m+j<=l'.length):sk a m b (i-j) j l (swr l' (m-i) m j):=fun k=>by
 have g:=pO (l:=l') (a:=m-i) (b:=m) (N:=j) (by omega) hl (Nat.le_refl _)
 rw [h k]
 simp only [g]
 repeat' split
 all_goals first | rfl | (exfalso;omega) | (exact congrArg (fun z=>List.getD _ z default) (by omega))
theorem sk.less {a m b i j:Nat}{l l':List α}(h:sk a m b i j l l')(hi:i<=m)(hj:i<j)(hl:m+j<=l'.length):sk a m b i (j-i) l (swr l' (m-i) (m+j-i) i):=fun k=>by
 have g:=pO (l:=l') (a:=m-i) (b:=m+j-i) (N:=i) (by omega) (by omega) (Nat.le_refl _)
 rw [h k]
 simp only [g]
 repeat' split
 all_goals first | rfl | (exfalso;omega) | (exact congrArg (fun z=>List.getD _ z default) (by omega))
theorem sk.done {a m b i:Nat}{l l':List α}(h:sk a m b i i l l')(hi:i<=m)(hl:m+i<=l'.length):Q6 a m b l (swr l' (m-i) m i):=fun k=>by
 have g:=pO (l:=l') (a:=m-i) (b:=m) (N:=i) (by omega) hl (Nat.le_refl _)
 rw [h k,g k]
 repeat' split
 all_goals first | rfl | (exfalso;omega) | (exact congrArg (fun z=>List.getD _ z default) (by omega))
theorem Q6.same {a m b:Nat}{l:List α}(h:(a=m/\m<=b)\/(m=b/\a<=m)):Q6 a m b l l:=fun k=>by
 rcases h with ⟨rfl,h⟩ | ⟨rfl,h⟩
 ·repeat' split
  all_goals first | rfl | (exfalso;omega) | (exact congrArg (fun z=>List.getD _ z default) (by omega))
 ·repeat' split
  all_goals first | rfl | (exfalso;omega) | (exact congrArg (fun z=>List.getD _ z default) (by omega))
theorem PermR.mem {a b:Nat}{l l':List α}(h:PermR a b l l')(hb:b<=l.length){k:Nat}(hk:a<=k/\k<b):∃k',(a<=k'/\k'<b)/\l'.getD k default=l.getD k' default:=by
 have hlen:=h.len
 have e1:l'.take a=l.take a:=by
  apply List.ext_getElem?
  intro i
  by_cases hi:i<a
  ·rw [List.getElem?_take_of_lt hi,List.getElem?_take_of_lt hi]
   have:=h.out i (Or.inl hi)
   rw [gf (by omega),gf (by omega)] at this
   rw [List.getElem?_eq_getElem (by omega),List.getElem?_eq_getElem (by omega),this]
  ·rw [List.getElem?_eq_none (by simp;omega),List.getElem?_eq_none (by simp;omega)]
 have e2:l'.drop b=l.drop b:=by
  apply List.ext_getElem?
  intro i
  rw [List.getElem?_drop,List.getElem?_drop]
  by_cases hi:b+i<l.length
  ·have:=h.out (b+i) (Or.inr (by omega))
   rw [gf (by omega),gf (by omega)] at this
   rw [List.getElem?_eq_getElem (by omega),List.getElem?_eq_getElem (by omega),this]
  ·rw [List.getElem?_eq_none (by omega),List.getElem?_eq_none (by omega)]
 have sp:∀q:List α,q=q.take a++((q.drop a).take (b-a)++q.drop b):=fun q=>by
  have:=(List.take_append_drop a q).symm
  have h2:=(List.take_append_drop (b-a) (q.drop a)).symm
  rw [List.drop_drop,show a+(b-a)=b by omega] at h2
  rw [←h2];exact this
 have hp:=h.perm
 rw [sp l',sp l,e1,e2] at hp
 have hp2:=(List.perm_append_right_iff _).1 ((List.perm_append_left_iff _).1 hp)
 have hm:l'.getD k default∈(l'.drop a).take (b-a):=by
  rw [List.mem_iff_getElem?]
  refine ⟨k-a,?_⟩
  rw [List.getElem?_take_of_lt (by omega),List.getElem?_drop,show a+(k-a)=k by omega,gf (by omega),List.getElem?_eq_getElem (by omega)]
 have hm2:=hp2.mem_iff.1 hm
 obtain ⟨i,hi⟩:=List.mem_iff_getElem?.1 hm2
 have hil:i<b-a:=by
  have:=(List.getElem?_eq_some_iff.1 hi).1
  simp at this;omega
 rw [List.getElem?_take_of_lt hil,List.getElem?_drop] at hi
 refine ⟨a+i,by omega,?_⟩
 rw [gf (show a+i<l.length by omega)]
 rw [List.getElem?_eq_getElem (by omega)] at hi
 exact (Option.some.inj hi).symm
theorem PermR.wide {a b x y:Nat}{l l':List α}(h:PermR a b l l')(hx:x<=a)(hy:b<=y):PermR x y l l':=⟨h.perm,fun i hi=>h.out i (by omega)⟩
variable {cf:α->α->Int}
theorem br.keep {a b:Nat}{l l':List α}(h:br cf a b l)(e:∀k,a<=k/\k<b->l'.getD k default=l.getD k default):br cf a b l':=fun p q h1 h2 h3=>by
 rw [e p (by omega),e q (by omega)];exact h p q h1 h2 h3
structure SymS (cf:α->α->Int)(l:List α)(n lo hi s:Nat):Prop where
 rng:lo<=s/\s<=hi
 yes:lo<s->leC cf (l.getD (s-1) default) (l.getD (n-s) default)
 no:s<hi->cf (l.getD (n-1-s) default) (l.getD s default)<0
theorem SymS.box {a m b s:Nat}{l:List α}(hab:a<m/\m<b)(h:SymS cf l ((a+b) / 2+m) (if (a+b) / 2<m then (a+b) / 2+m-b else a) (if (a+b) / 2<m then (a+b) / 2 else m) s) :
 a<=s/\s<=m/\s<=(a+b) / 2/\m<=(a+b) / 2+m-s/\(a+b) / 2<=(a+b) / 2+m-s/\(a+b) / 2+m-s<=b:=by
 obtain ⟨rng,_,_⟩:=h
 have hd:2*((a+b) / 2)<=a+b/\a+b<=2*((a+b) / 2)+1:=by omega
 generalize (a+b) / 2=mid at *
 by_cases h:mid<m
 ·rw [if_pos h,if_pos h] at rng;omega
 ·rw [if_neg h,if_neg h] at rng;omega
inductive Pr (cf:α->α->Int)(l:List α)(w:Nat):Nat->Nat->Prop
 | nil {a:Nat}:Pr cf l w a a
 | snoc {a b:Nat}:Pr cf l w a b->br cf b (b+w) l->Pr cf l w a (b+w)
inductive Rn (cf:α->α->Int)(l:List α)(w n:Nat):Nat->Prop
 | last {a:Nat}:n<=a+w->br cf a n l->Rn cf l w n a
 | more {a:Nat}:a+w<=n->br cf a (a+w) l->Rn cf l w n (a+w)->Rn cf l w n a
theorem Pr.le {l:List α}{w a b:Nat}(h:Pr cf l w a b):a<=b:=by
 induction h with
 | nil=>exact Nat.le_refl _
 | snoc _ _ ih=>omega
theorem Pr.keep {l l':List α}{w a b:Nat}(h:Pr cf l w a b)(e:∀k,k<b->l'.getD k default=l.getD k default):Pr cf l' w a b:=by
 induction h with
 | nil=>exact .nil
 | snoc h1 h2 ih=>exact .snoc (ih fun k hk=>e k (by omega)) (h2.keep fun k hk=>e k (by omega))
theorem Rn.keep {l l':List α}{w n a:Nat}(h:Rn cf l w n a)(e:∀k,a<=k->l'.getD k default=l.getD k default):Rn cf l' w n a:=by
 induction h with
 | last h1 h2=>exact .last h1 (h2.keep fun k hk=>e k hk.1)
 | more h1 h2 h3 ih=>exact .more h1 (h2.keep fun k hk=>e k hk.1) (ih fun k hk=>e k (by omega))
theorem L4 {l:List α}{n a:Nat}(h:n<=a+1):br cf a n l:=fun p q h1 h2 h3=>by omega
theorem Rn.two {l:List α}{w n a:Nat}(h:Rn cf l w n a)(hw:0<w)(hn:a+2*w<=n):br cf a (a+w) l/\br cf (a+w) (a+2*w) l/\Rn cf l w n (a+2*w):=by
 have e:a+w+w=a+2*w:=by omega
 cases h with
 | last h1 h2=>omega
 | more h1 h2 h3 =>
   cases h3 with
   | last k1 k2 =>
     have:n=a+2*w:=by omega
     subst this
     exact ⟨h2,k2,.last (by omega) (L4 (by omega))⟩
   | more k1 k2 k3=>rw [e] at k2 k3;exact ⟨h2,k2,k3⟩
theorem Rn.end2 {l:List α}{w n a:Nat}(h:Rn cf l w n a)(hn:n<a+2*w)(hm:a+w<n):br cf a (a+w) l/\br cf (a+w) n l:=by
 cases h with
 | last h1 h2=>omega
 | more h1 h2 h3 =>
   cases h3 with
   | last k1 k2=>exact ⟨h2,k2⟩
   | more k1 k2 k3=>omega
theorem Rn.end1 {l : List α} {w n a:Nat} (h:Rn cf l w n a) (hm:n≤a+w):br cf a n l:=by
 cases h with
 | last h1 h2=>exact h2
 | more h1 h2 h3 => have:n=a+w:=by omega
                    subst this;exact h2
end
end Go.Proofs.YtgjlhdggllakbaaGreatDoor.Vm
