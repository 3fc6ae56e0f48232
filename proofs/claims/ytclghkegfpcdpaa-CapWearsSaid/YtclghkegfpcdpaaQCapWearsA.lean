/- Classes of numbers and how many there are; the cycles of a permutation; two numbers exchanged before it. Pure. -/
import Derived.Test.YtclghkegfpcdpaaVmRec
import Derived.Test.YtclghkegfpcdpaaVmTab
import Derived.Test.YtclghkegfpcdpaaVmMove
import Derived.KernelRfl
import Derived.Test.YtclghkegfpcdpaaVmArg
namespace Go.Proofs.Ytclghkegfpcdpaa.Vm
set_option linter.unusedVariables false
set_option linter.unusedSimpArgs false
structure Eqv (E:Nat→Nat→Prop):Prop where
  rf:∀a,E a a
  sy:∀{a b},E a b→E b a
  tr:∀{a b c},E a b→E b c→E a c
section
variable {E F:Nat→Nat→Prop}{N:Nat}
def LeE (E:Nat→Nat→Prop)(c:Nat):Prop:=∀d,d<c→¬E c d
theorem Eqv.low (h:Eqv E):∀c,∃d,d≤c∧E c d∧LeE E d:=by
  intro c
  induction c using Nat.strongRecOn with
  | _ c ih =>
    by_cases hl:LeE E c
    · exact ⟨c,Nat.le_refl _,h.rf c,hl⟩
    · have:∃d,d<c∧E c d:=by
        apply Classical.byContradiction
        intro hn
        exact hl fun d hd he=>hn ⟨d,hd,he⟩
      obtain ⟨d,hd,he⟩:=this
      obtain ⟨e,h1,h2,h3⟩:=ih d hd
      exact ⟨e,by omega,h.tr he h2,h3⟩
theorem Eqv.least_eq (h:Eqv E){c d:Nat}(hc:LeE E c)(hd:LeE E d)(he:E c d):c=d:=by
  rcases Nat.lt_trichotomy c d with hlt | he' | hlt
  · exact absurd (h.sy he) (hd c hlt)
  · exact he'
  · exact absurd he (hc d hlt)
open Classical in
noncomputable def minsE (E:Nat→Nat→Prop)(N:Nat):List Nat:=(List.range N).filter fun c=>decide (LeE E c)
noncomputable def nCls (E:Nat→Nat→Prop)(N:Nat):Nat:=(minsE E N).length
theorem mem_mins {c:Nat}:c∈minsE E N↔c<N∧LeE E c:=by
  simp [minsE]
theorem mins_nodup:(minsE E N).Nodup:=List.Nodup.sublist List.filter_sublist List.nodup_range
theorem mins_asc:(minsE E N).Pairwise (·<·):=List.Pairwise.sublist List.filter_sublist List.pairwise_lt_range
theorem perm_nodup {α:Type}{l m:List α}(hl:l.Nodup)(hm:m.Nodup)(h:∀x,x∈l↔x∈m):l.Perm m:=(List.perm_ext_iff_of_nodup hl hm).2 h
structure Reps (E:Nat→Nat→Prop)(N:Nat)(R:List Nat):Prop where
  lt:∀r,r∈R→r<N
  dis:R.Pairwise fun a b=>¬E a b
  cov:∀c,c<N→∃r,r∈R∧E c r
open Classical in
noncomputable def lowE (E:Nat→Nat→Prop)(c:Nat):Nat:=if h:∃d,d≤c∧E c d∧LeE E d then Classical.choose h else c
theorem lowE_spec (h:Eqv E)(c:Nat):lowE E c≤c∧E c (lowE E c)∧LeE E (lowE E c):=by
  have hx:=h.low c
  unfold lowE
  rw [dif_pos hx]
  exact Classical.choose_spec hx
theorem lowE_eq (h:Eqv E){c d:Nat}(he:E c d):lowE E c=lowE E d:=by
  obtain ⟨_,a2,a3⟩:=lowE_spec h c
  obtain ⟨_,b2,b3⟩:=lowE_spec h d
  exact h.least_eq a3 b3 (h.tr (h.sy a2) (h.tr he b2))
theorem lowE_iff (h:Eqv E){c d:Nat}:lowE E c=lowE E d↔E c d:=by
  refine ⟨fun e => ?_,lowE_eq h⟩
  obtain ⟨_,a2,a3⟩:=lowE_spec h c
  obtain ⟨_,b2,b3⟩:=lowE_spec h d
  rw [e] at a2
  exact h.tr a2 (h.sy b2)
theorem lowE_min (h:Eqv E){c:Nat}(hc:LeE E c):lowE E c=c:=by
  obtain ⟨_,a2,a3⟩:=lowE_spec h c
  exact (h.least_eq hc a3 a2).symm
theorem Reps.perm (h:Eqv E){R:List Nat}(hr:Reps E N R):(R.map (lowE E)).Perm (minsE E N):=by
  refine perm_nodup ?_ mins_nodup fun x => ?_
  · rw [List.Nodup,List.pairwise_map]
    exact hr.dis.imp fun hne e=>hne ((lowE_iff h).1 e)
  · rw [mem_mins,List.mem_map]
    constructor
    · rintro ⟨r,h1,rfl⟩
      have:=lowE_spec h r
      have:=hr.lt r h1
      exact ⟨by omega,(lowE_spec h r).2.2⟩
    · rintro ⟨h1,h2⟩
      obtain ⟨r,h3,h4⟩:=hr.cov x h1
      exact ⟨r,h3,by rw [←lowE_eq h h4,lowE_min h h2]⟩
theorem Reps.len (h:Eqv E){R:List Nat}(hr:Reps E N R):R.length=nCls E N:=by
  have:=(hr.perm h).length_eq
  simpa [nCls] using this
theorem Reps.mins (h:Eqv E):Reps E N (minsE E N) where
  lt:=fun r hr=>(mem_mins.1 hr).1
  dis:=(mins_nodup (E:=E) (N:=N)).imp_of_mem fun {a b} ha hb hne he=>hne (h.least_eq (mem_mins.1 ha).2 (mem_mins.1 hb).2 he)
  cov:=fun c hc=>by
    obtain ⟨a1,a2,a3⟩:=lowE_spec h c
    exact ⟨lowE E c,mem_mins.2 ⟨by omega,a3⟩,a2⟩
theorem Reps.weigh (h:Eqv E){R S:List Nat}(hr:Reps E N R)(hs:Reps E N S){α:Type}{w:Nat→α}(hw:∀c d,c<N→d<N→E c d→w c=w d):(R.map w).Perm (S.map w):=by
  have key:∀{R:List Nat},Reps E N R→R.map w=(R.map (lowE E)).map w:=by
    intro R hr
    rw [List.map_map]
    refine List.map_congr_left fun r hm => ?_
    have h1:=hr.lt r hm
    obtain ⟨a1,a2,a3⟩:=lowE_spec h r
    exact hw _ _ h1 (by omega) a2
  rw [key hr,key hs]
  exact ((hr.perm h).trans (hs.perm h).symm).map w
def merE (E:Nat→Nat→Prop)(a b:Nat):Nat→Nat→Prop:=fun c d=>E c d∨(E c a∧E b d)∨(E c b∧E a d)
theorem merE_eqv (h:Eqv E)(a b:Nat):Eqv (merE E a b) where
  rf:=fun x=>Or.inl (h.rf x)
  sy:=by
    rintro x y (h1 | ⟨h1,h2⟩ | ⟨h1,h2⟩)
    · exact Or.inl (h.sy h1)
    · exact Or.inr (Or.inr ⟨h.sy h2,h.sy h1⟩)
    · exact Or.inr (Or.inl ⟨h.sy h2,h.sy h1⟩)
  tr:=by
    rintro x y z (h1 | ⟨h1,h2⟩ | ⟨h1,h2⟩) (h3 | ⟨h3,h4⟩ | ⟨h3,h4⟩)
    · exact Or.inl (h.tr h1 h3)
    · exact Or.inr (Or.inl ⟨h.tr h1 h3,h4⟩)
    · exact Or.inr (Or.inr ⟨h.tr h1 h3,h4⟩)
    · exact Or.inr (Or.inl ⟨h1,h.tr h2 h3⟩)
    · exact Or.inr (Or.inl ⟨h1,h4⟩)
    · exact Or.inl (h.tr h1 h4)
    · exact Or.inr (Or.inr ⟨h1,h.tr h2 h3⟩)
    · exact Or.inl (h.tr h1 h4)
    · exact Or.inr (Or.inr ⟨h1,h4⟩)
theorem len_less {l:List Nat} (hn:l.Nodup) {x:Nat} (hx:x∈l):(l.filter fun y=>decide (y≠x)).length+1=l.length:=by
  induction l with
  | nil=>cases hx
  | cons y l ih =>
    rw [List.nodup_cons] at hn
    by_cases e:y=x
    · subst e
      have:(l.filter fun z=>decide (z≠y))=l:=List.filter_eq_self.2 fun z hz=>by
        have:z≠y:=fun e=>hn.1 (e ▸ hz)
        simpa using this
      rw [List.filter_cons_of_neg (by simp),this];rfl
    · have hx:x∈l:=by
        rcases List.mem_cons.1 hx with h | h
        · exact absurd h.symm e
        · exact h
      rw [List.filter_cons_of_pos (by simpa using e),List.length_cons,List.length_cons,ih hn.2 hx]
theorem merE_cls (h:Eqv E) {a b:Nat} (ha:a<N) (hb:b<N) (hab:¬E a b):nCls (merE E a b) N+1=nCls E N:=by
  have hm:lowE E b∈minsE E N:=mem_mins.2 ⟨by have:=lowE_spec h b;omega,(lowE_spec h b).2.2⟩
  have hr:Reps (merE E a b) N ((minsE E N).filter fun y=>decide (y≠lowE E b)):=by
    refine ⟨fun r hr=>(mem_mins.1 (List.mem_filter.1 hr).1).1,?_,?_⟩
    · have h1:(minsE E N).Pairwise fun x y=>¬E x y:=(Reps.mins h).dis
      refine (List.Pairwise.sublist List.filter_sublist h1).imp_of_mem ?_
      rintro x y hx hy hne (h2 | ⟨h2,h3⟩ | ⟨h2,h3⟩)
      · exact hne h2
      · have hy2:=List.mem_filter.1 hy
        have:y=lowE E b:=by rw [lowE_eq h h3,lowE_min h (mem_mins.1 hy2.1).2]
        simp [this] at hy2
      · have hx2:=List.mem_filter.1 hx
        have:x=lowE E b:=by rw [←lowE_eq h h2,lowE_min h (mem_mins.1 hx2.1).2]
        simp [this] at hx2
    · intro c hc
      by_cases e:lowE E c=lowE E b
      · have h1:lowE E a≠lowE E b:=fun e=>hab ((lowE_iff h).1 e)
        refine ⟨lowE E a,List.mem_filter.2 ⟨mem_mins.2 ⟨by have:=lowE_spec h a;omega,(lowE_spec h a).2.2⟩,by simpa using h1⟩,?_⟩
        exact Or.inr (Or.inr ⟨(lowE_iff h).1 e,(lowE_spec h a).2.1⟩)
      · exact ⟨lowE E c,List.mem_filter.2 ⟨mem_mins.2 ⟨by have:=lowE_spec h c;omega,(lowE_spec h c).2.2⟩,by simpa using e⟩,Or.inl (lowE_spec h c).2.1⟩
  rw [←hr.len (merE_eqv h a b),len_less mins_nodup hm];rfl
theorem nCls_congr (h:∀a b,a<N→b<N→(E a b↔F a b)):nCls E N=nCls F N:=by
  have:minsE E N=minsE F N:=by
    unfold minsE
    refine List.filter_congr fun c hc => ?_
    have hc:=List.mem_range.1 hc
    rw [decide_eq_decide]
    constructor
    · intro h1 d hd h2;exact h1 d hd ((h c d hc (by omega)).2 h2)
    · intro h1 d hd h2;exact h1 d hd ((h c d hc (by omega)).1 h2)
  rw [nCls,this];rfl
end
def itN (f:Nat→Nat):Nat→Nat→Nat
  | 0,c=>c
  | k+1,c=>f (itN f k c)
theorem itN_add (f:Nat→Nat)(j k c:Nat):itN f (j+k) c=itN f j (itN f k c):=by
  induction j with
  | zero=>simp [itN]
  | succ j ih=>rw [Nat.succ_add];simp [itN,ih]
theorem itN_succ (f:Nat→Nat)(k c:Nat):itN f (k+1) c=itN f k (f c):=by rw [itN_add];rfl
structure PrN (N:Nat)(f:Nat→Nat):Prop where
  lt:∀c,c<N→f c<N
  inj:∀c d,c<N→d<N→f c=f d→c=d
section
variable {N:Nat}{f g:Nat→Nat}
theorem PrN.it (h:PrN N f){c:Nat}(hc:c<N):∀k,itN f k c<N
  | 0=>hc
  | k+1=>h.lt _ (h.it hc k)
theorem PrN.back (h:PrN N f){c:Nat}(hc:c<N):∀i k,itN f (i+k) c=itN f i c→itN f k c=c
  | 0,k,e=>by simpa [itN] using e
  | i+1,k,e=>by
    rw [Nat.succ_add] at e
    simp only [itN] at e
    exact h.back hc i k (h.inj _ _ (h.it hc _) (h.it hc _) e)
theorem few_below:∀(m:Nat) (l:List Nat),l.Nodup→(∀x∈l,x<m)→l.length≤m
  | 0,l,_,h=>by
    cases l with
    | nil=>simp
    | cons x l=>have:=h x (by simp);omega
  | m + 1,l,hn,h=>by
    by_cases hm:m∈l
    · have h1:=few_below m (l.erase m) (hn.erase m) (fun x hx=>by
        have h2:=h x (List.mem_of_mem_erase hx)
        have h3:x≠m:=fun e=>by
          subst e
          exact (List.Nodup.mem_erase_iff hn).1 hx |>.1 rfl
        omega)
      have:=List.length_erase_of_mem hm
      have:0<l.length:=List.length_pos_of_mem hm
      omega
    · have:=few_below m l hn (fun x hx=>by
        have h2:=h x hx
        have h3:x≠m:=fun e=>hm (e ▸ hx)
        omega)
      omega
theorem PrN.per (h:PrN N f){c:Nat}(hc:c<N):∃k,0<k∧k≤N∧itN f k c=c:=by
  apply Classical.byContradiction
  intro hn
  have hnd:((List.range (N+1)).map fun i=>itN f i c).Nodup:=by
    rw [List.Nodup,List.pairwise_map]
    refine List.pairwise_lt_range.imp_of_mem ?_
    intro i j hi hj hlt e
    have hj:=List.mem_range.1 hj
    refine hn ⟨j-i,by omega,by omega,?_⟩
    refine h.back hc i (j-i) ?_
    rw [show i+(j-i)=j by omega];exact e.symm
  have:=few_below N _ hnd (by
    intro x hx
    obtain ⟨i,_,rfl⟩:=List.mem_map.1 hx
    exact h.it hc i)
  simp at this
  omega
def Orb (N:Nat)(f:Nat→Nat):Nat→Nat→Prop:=fun c d=>c=d∨(c<N∧d<N∧∃k,itN f k c=d)
theorem it_per {c k:Nat}(h:itN f k c=c):∀m,itN f (m*k) c=c
  | 0=>by simp [itN]
  | m+1=>by rw [Nat.add_mul,Nat.one_mul,itN_add,h,it_per h m]
theorem PrN.eqv (h:PrN N f):Eqv (Orb N f) where
  rf:=fun _=>Or.inl rfl
  sy:=by
    rintro a b (rfl | ⟨ha,hb,k,hk⟩)
    · exact Or.inl rfl
    · obtain ⟨m,h1,_,h2⟩:=h.per ha
      refine Or.inr ⟨hb,ha,(k+1)*m-k,?_⟩
      rw [←hk,←itN_add]
      have:k≤(k+1)*m:=Nat.le_trans (by omega) (Nat.le_mul_of_pos_right (k+1) h1)
      rw [show (k+1)*m-k+k=(k+1)*m by omega]
      exact it_per h2 _
  tr:=by
    rintro a b c (rfl | ⟨ha,hb,k,hk⟩) (rfl | ⟨hb',hc,j,hj⟩)
    · exact Or.inl rfl
    · exact Or.inr ⟨hb',hc,j,hj⟩
    · exact Or.inr ⟨ha,hb,k,hk⟩
    · exact Or.inr ⟨ha,hc,j+k,by rw [itN_add,hk,hj]⟩
theorem PrN.one (h:PrN N f){c:Nat}(hc:c<N):Orb N f c (f c):=Or.inr ⟨hc,h.lt c hc,1,rfl⟩
theorem PrN.orb (h:PrN N f){c:Nat}(hc:c<N)(k:Nat):Orb N f c (itN f k c):=Or.inr ⟨hc,h.it hc k,k,rfl⟩
theorem Orb.sub {E:Nat→Nat→Prop}(hE:Eqv E)(h:PrN N f)(hs:∀c,c<N→E c (f c)){c d:Nat}(ho:Orb N f c d):E c d:=by
  rcases ho with rfl | ⟨hc,hd,k,rfl⟩
  · exact hE.rf _
  · clear hd
    induction k with
    | zero=>exact hE.rf _
    | succ k ih=>exact hE.tr ih (hs _ (h.it hc k))
def swN (a b c:Nat):Nat:=if c=a then b else if c=b then a else c
theorem swN_lt {a b c : Nat} (ha : a < N) (hb : b < N) (hc : c < N) : swN a b c < N := by unfold swN;split;· exact hb
                                                                                          · split;· exact ha
                                                                                            · exact hc
theorem swN_sw {a b c:Nat}:swN a b (swN a b c)=c:=by
  unfold swN
  by_cases h1:c=a
  · subst h1;simp only [if_true];split<;>simp_all
  · by_cases h2:c=b
    · subst h2;simp [h1]
    · simp [h1,h2]
theorem swN_a {a b:Nat}:swN a b a=b:=by simp [swN]
theorem swN_b {a b:Nat}:swN a b b=a:=by unfold swN;split<;>simp_all
theorem swN_o {a b c:Nat}(h1:c≠a)(h2:c≠b):swN a b c=c:=by simp [swN,h1,h2]
theorem PrN.sw (h:PrN N f){a b:Nat}(ha:a<N)(hb:b<N):PrN N fun c=>f (swN a b c) where
  lt:=fun c hc=>h.lt _ (swN_lt ha hb hc)
  inj:=fun c d hc hd e=>by
    have:=h.inj _ _ (swN_lt ha hb hc) (swN_lt ha hb hd) e
    rw [←swN_sw (a:=a) (b:=b) (c:=c),this,swN_sw]
theorem first_step {p:Nat→Prop}{k:Nat}(h:p k):∃m,m≤k∧p m∧∀j,j<m→¬p j:=by
  induction k using Nat.strongRecOn with
  | _ k ih =>
    by_cases hx:∃j,j<k∧p j
    · obtain ⟨j,h1,h2⟩:=hx
      obtain ⟨m,h3,h4,h5⟩:=ih j h1 h2
      exact ⟨m,by omega,h4,h5⟩
    · exact ⟨k,Nat.le_refl _,h,fun j hj hp=>hx ⟨j,hj,hp⟩⟩
theorem sw_join (h:PrN N f) {a b:Nat} (ha:a<N) (hb:b<N) (hab:¬Orb N f a b):Orb N (fun c=>f (swN a b c)) a b:=by
  obtain ⟨k,h1,_,h2⟩:=h.per hb
  obtain ⟨m,_,⟨h3,h4⟩,h5⟩:=first_step (p:=fun m=>0<m∧itN f m b=b) ⟨h1,h2⟩
  have key:∀j,0<j→j≤m→itN (fun c=>f (swN a b c)) j a=itN f j b:=by
    intro j
    induction j with
    | zero=>intro h;omega
    | succ j ih =>
      intro _ hj
      by_cases h0:j=0
      · subst h0;simp [itN,swN_a]
      · simp only [itN]
        rw [ih (by omega) (by omega)]
        have e1:itN f j b≠a:=fun e=>hab (h.eqv.sy (Or.inr ⟨hb,ha,j,e⟩))
        have e2:itN f j b≠b:=fun e=>h5 j (by omega) ⟨by omega,e⟩
        rw [swN_o e1 e2]
  exact Or.inr ⟨ha,hb,m,by rw [key m h3 (Nat.le_refl _),h4]⟩
theorem sw_merge (h:PrN N f) {a b:Nat} (ha:a<N) (hb:b<N) (hab:¬Orb N f a b) {c d:Nat}:Orb N (fun c=>f (swN a b c)) c d↔merE (Orb N f) a b c d:=by
  have hp:=h.sw ha hb
  have hj:=sw_join h ha hb hab
  have hE:=merE_eqv h.eqv a b
  constructor
  · refine Orb.sub hE hp fun c hc => ?_
    show merE (Orb N f) a b c (f (swN a b c))
    have hsw:merE (Orb N f) a b c (swN a b c):=by
      by_cases e1:c=a
      · subst e1;rw [swN_a];exact Or.inr (Or.inl ⟨h.eqv.rf _,h.eqv.rf _⟩)
      · by_cases e2:c=b
        · subst e2;rw [swN_b];exact Or.inr (Or.inr ⟨h.eqv.rf _,h.eqv.rf _⟩)
        · rw [swN_o e1 e2];exact hE.rf _
    exact hE.tr hsw (Or.inl (h.one (swN_lt ha hb hc)))
  · have hs:∀{c d},Orb N f c d→Orb N (fun c=>f (swN a b c)) c d:=by
      intro c d
      refine Orb.sub hp.eqv h fun c hc => ?_
      by_cases e1:c=a
      · subst e1
        refine hp.eqv.tr hj ?_
        have:=hp.one hb
        rwa [swN_b] at this
      · by_cases e2:c=b
        · subst e2
          refine hp.eqv.tr (hp.eqv.sy hj) ?_
          have:=hp.one ha
          rwa [swN_a] at this
        · have:=hp.one hc
          rwa [swN_o e1 e2] at this
    rintro (h1 | ⟨h1,h2⟩ | ⟨h1,h2⟩)
    · exact hs h1
    · exact hp.eqv.tr (hs h1) (hp.eqv.tr hj (hs h2))
    · exact hp.eqv.tr (hs h1) (hp.eqv.tr (hp.eqv.sy hj) (hs h2))
theorem sw_part (h:PrN N f) {a b:Nat} (ha:a<N) (hb:b<N) (hne:a≠b) (hab:Orb N f a b):¬Orb N (fun c=>f (swN a b c)) a b:=by
  have hba:=h.eqv.sy hab
  rcases hba with e | ⟨_,_,k,hk⟩
  · exact absurd e.symm hne
  obtain ⟨m,_,h4,h5⟩:=first_step (p:=fun m=>itN f m b=a) hk
  have h3:0<m:=by
    rcases Nat.eq_zero_or_pos m with e | e
    · subst e;exact absurd h4.symm hne
    · exact e
  have nb:∀j,0<j→j≤m→itN f j b≠b:=by
    intro j h0 hj e
    refine h5 (m-j) (by omega) ?_
    rw [←h4]
    conv=>rhs;rw [show m=m-j+j by omega,itN_add,e]
  have key:∀j,0<j→j≤m→itN (fun c=>f (swN a b c)) j a=itN f j b:=by
    intro j
    induction j with
    | zero=>intro h;omega
    | succ j ih =>
      intro _ hj
      by_cases h0:j=0
      · subst h0;simp [itN,swN_a]
      · simp only [itN]
        rw [ih (by omega) (by omega)]
        rw [swN_o (fun e=>h5 j (by omega) e) (nb j (by omega) (by omega))]
  have hper:itN (fun c=>f (swN a b c)) m a=a:=by rw [key m h3 (Nat.le_refl _),h4]
  rintro (e | ⟨_,_,j,hj⟩)
  · exact hne e
  · have e:itN (fun c=>f (swN a b c)) (j % m) a=b:=by
      have:j=j % m+j / m*m:=by rw [Nat.mul_comm];exact (Nat.mod_add_div j m).symm
      rw [this,itN_add,it_per hper] at hj
      exact hj
    have hlt:=Nat.mod_lt j h3
    by_cases h0:j % m=0
    · rw [h0] at e;exact hne e
    · rw [key _ (by omega) (by omega)] at e
      exact nb _ (by omega) (by omega) e
theorem sw_count (h:PrN N f){a b:Nat}(ha:a<N)(hb:b<N)(hne:a≠b) :
    (¬Orb N f a b∧nCls (Orb N fun c=>f (swN a b c)) N+1=nCls (Orb N f) N)∨(Orb N f a b∧nCls (Orb N fun c=>f (swN a b c)) N=nCls (Orb N f) N+1):=by
  by_cases hab:Orb N f a b
  · refine Or.inr ⟨hab,?_⟩
    have hp:=h.sw ha hb
    have hn:=sw_part h ha hb hne hab
    have:=merE_cls hp.eqv ha hb hn
    rw [←this]
    congr 1
    refine nCls_congr fun c d _ _ => ?_
    rw [←sw_merge hp ha hb hn]
    have:(fun c=>f (swN a b (swN a b c)))=f:=by funext c;rw [swN_sw]
    show Orb N (fun c=>f (swN a b (swN a b c))) c d↔Orb N f c d
    rw [this]
  · refine Or.inl ⟨hab,?_⟩
    rw [←merE_cls h.eqv ha hb hab]
    congr 1
    exact nCls_congr fun c d _ _=>sw_merge h ha hb hab
end
end Go.Proofs.Ytclghkegfpcdpaa.Vm
namespace Go.Proofs.Ytclghkegfpcdpaa.Vm
set_option linter.unusedVariables false
set_option linter.unusedSimpArgs false
def alf:List (Nat×Nat)→Nat→Nat
  | [],c=>c
  | s :: L,c=>alf L (swN s.1 s.2 c)
inductive SmOk (N:Nat):List (Nat×Nat)→Prop
  | nil:SmOk N []
  | cons {s:Nat×Nat} {L:List (Nat×Nat)}:SmOk N L→s.1<N→s.2<N→s.1≠s.2→(∀t∈L,t.1≠s.1∧t.1≠s.2∧t.2≠s.1∧t.2≠s.2)→SmOk N (s :: L)
section
variable {N P:Nat}{nx pc:Nat→Nat}{L:List (Nat×Nat)}
theorem alf_off:∀{L:List (Nat×Nat)} {c:Nat},(∀t∈L,t.1≠c∧t.2≠c)→alf L c=c
  | [],c,_=>rfl
  | s :: L,c,h=>by
    have h1:=h s (by simp)
    simp only [alf]
    rw [swN_o (fun e=>h1.1 e.symm) (fun e=>h1.2 e.symm)]
    exact alf_off fun t ht=>h t (List.mem_cons_of_mem _ ht)
theorem SmOk.pr (h:SmOk N L):PrN N (alf L):=by
  induction h with
  | nil=>exact ⟨fun c hc=>hc,fun c d _ _ e=>e⟩
  | cons h h1 h2 h3 h4 ih=>exact ih.sw h1 h2
theorem alf_cons {s:Nat×Nat}(h:SmOk N (s :: L)){c:Nat}:alf (s :: L) c=if c=s.1 then s.2 else if c=s.2 then s.1 else alf L c:=by
  cases h with
  | cons h h1 h2 h3 h4 =>
    have e1:alf L s.1=s.1:=alf_off fun t ht=>⟨(h4 t ht).1,(h4 t ht).2.2.1⟩
    have e2:alf L s.2=s.2:=alf_off fun t ht=>⟨(h4 t ht).2.1,(h4 t ht).2.2.2⟩
    simp only [alf]
    by_cases a1:c=s.1
    · subst a1;rw [swN_a,e2,if_pos rfl]
    · by_cases a2:c=s.2
      · subst a2;rw [swN_b,e1,if_neg a1,if_pos rfl]
      · rw [swN_o a1 a2,if_neg a1,if_neg a2]
theorem SmOk.inv (h:SmOk N L) {c:Nat} (hc:c<N):alf L (alf L c)=c:=by
  induction h generalizing c with
  | nil=>rfl
  | @cons s L h h1 h2 h3 h4 ih =>
    have hh:SmOk N (s :: L):=.cons h h1 h2 h3 h4
    have e1:alf L s.1=s.1:=alf_off fun t ht=>⟨(h4 t ht).1,(h4 t ht).2.2.1⟩
    have e2:alf L s.2=s.2:=alf_off fun t ht=>⟨(h4 t ht).2.1,(h4 t ht).2.2.2⟩
    rw [alf_cons hh (c:=c)]
    by_cases a1:c=s.1
    · subst a1;rw [if_pos rfl,alf_cons hh,if_neg (fun e=>h3 e.symm),if_pos rfl]
    · by_cases a2:c=s.2
      · subst a2;rw [if_neg a1,if_pos rfl,alf_cons hh,if_pos rfl]
      · rw [if_neg a1,if_neg a2,alf_cons hh]
        have b1:alf L c≠s.1:=fun e=>a1 (h.pr.inj _ _ hc h1 (by rw [e,e1]))
        have b2:alf L c≠s.2:=fun e=>a2 (h.pr.inj _ _ hc h2 (by rw [e,e2]))
        rw [if_neg b1,if_neg b2]
        exact ih hc
def freeN (L:List (Nat×Nat))(c:Nat):Bool:=decide (alf L c=c)
def freesN (L:List (Nat×Nat))(N:Nat):List Nat:=(List.range N).filter (freeN L)
theorem freeN_iff {c:Nat}:freeN L c=true↔alf L c=c:=by simp [freeN]
theorem mem_frees {c:Nat}:c∈freesN L N↔c<N∧freeN L c=true:=by simp [freesN]
theorem frees_nodup:(freesN L N).Nodup:=List.Nodup.sublist List.filter_sublist List.nodup_range
theorem frees_len (h:SmOk N L):(freesN L N).length+2*L.length=N:=by
  induction h with
  | nil =>
    have:freesN [] N=List.range N:=List.filter_eq_self.2 fun c _=>by simp [freeN,alf]
    rw [this];simp
  | @cons s L h h1 h2 h3 h4 ih =>
    have hh:SmOk N (s :: L):=.cons h h1 h2 h3 h4
    have e1:alf L s.1=s.1:=alf_off fun t ht=>⟨(h4 t ht).1,(h4 t ht).2.2.1⟩
    have e2:alf L s.2=s.2:=alf_off fun t ht=>⟨(h4 t ht).2.1,(h4 t ht).2.2.2⟩
    have e:freesN (s :: L) N=((freesN L N).filter fun y=>decide (y≠s.1)).filter fun y=>decide (y≠s.2):=by
      simp only [freesN,List.filter_filter]
      refine List.filter_congr fun c hc => ?_
      rw [Bool.eq_iff_iff]
      simp only [freeN,decide_eq_true_eq,Bool.and_eq_true,decide_not,Bool.not_eq_true',decide_eq_false_iff_not]
      rw [alf_cons hh]
      by_cases a1:c=s.1
      · subst a1;simp [h3.symm]
      · by_cases a2:c=s.2
        · subst a2;simp [a1,h3]
        · simp [a1,a2]
    have l1:=len_less (l:=freesN L N) frees_nodup (x:=s.1) (mem_frees.2 ⟨h1,freeN_iff.2 e1⟩)
    have l2:=len_less (l:=(freesN L N).filter fun y=>decide (y≠s.1)) (List.Nodup.sublist List.filter_sublist frees_nodup) (x:=s.2) (List.mem_filter.2 ⟨mem_frees.2 ⟨h2,freeN_iff.2 e2⟩,by simpa using fun e=>h3 e.symm⟩)
    rw [e,List.length_cons];omega
def prtE (pc:Nat→Nat):List (Nat×Nat)→Nat→Nat→Prop
  | []=>fun a b=>a=b
  | s :: L=>merE (prtE pc L) (pc s.1) (pc s.2)
theorem prtE_eqv:∀{L:List (Nat×Nat)},Eqv (prtE pc L)
  | []=>⟨fun _=>rfl,fun h=>h.symm,fun h g=>h.trans g⟩
  | s :: L=>merE_eqv prtE_eqv _ _
theorem prtE_more {s:Nat×Nat}{a b:Nat}(h:prtE pc L a b):prtE pc (s :: L) a b:=Or.inl h
theorem prtE_sewn:∀{L:List (Nat×Nat)} {c:Nat},prtE pc L (pc c) (pc (alf L c))
  | [],c=>rfl
  | s :: L,c=>by
    simp only [alf]
    have h1:prtE pc (s :: L) (pc c) (pc (swN s.1 s.2 c)):=by
      by_cases e1:c=s.1
      · rw [e1,swN_a];exact Or.inr (Or.inl ⟨prtE_eqv.rf _,prtE_eqv.rf _⟩)
      · by_cases e2:c=s.2
        · rw [e2,swN_b];exact Or.inr (Or.inr ⟨prtE_eqv.rf _,prtE_eqv.rf _⟩)
        · rw [swN_o e1 e2];exact prtE_eqv.rf _
    exact prtE_eqv.tr h1 (prtE_more prtE_sewn)
def nuN (nx:Nat→Nat)(L:List (Nat×Nat))(c:Nat):Nat:=nx (alf L c)
theorem nu_pr (hn:PrN N nx)(h:SmOk N L):PrN N (nuN nx L) where
  lt:=fun c hc=>hn.lt _ (h.pr.lt c hc)
  inj:=fun c d hc hd e=>h.pr.inj _ _ hc hd (hn.inj _ _ (h.pr.lt c hc) (h.pr.lt d hd) e)
theorem nu_cons {s:Nat×Nat}:nuN nx (s :: L)=fun c=>nuN nx L (swN s.1 s.2 c):=rfl
theorem orb_prt (hn:PrN N nx)(hpc:∀c,c<N→pc (nx c)=pc c)(h:SmOk N L){a b:Nat}(ho:Orb N (nuN nx L) a b):prtE pc L (pc a) (pc b):=by
  refine Orb.sub (E:=fun a b=>prtE pc L (pc a) (pc b)) ⟨fun _=>prtE_eqv.rf _,fun h=>prtE_eqv.sy h,fun h g=>prtE_eqv.tr h g⟩ (nu_pr hn h) (fun c hc => ?_) ho
  show prtE pc L (pc c) (pc (nx (alf L c)))
  rw [hpc _ (h.pr.lt c hc)]
  exact prtE_sewn
theorem seam_step (hn:PrN N nx) (hpc:∀c,c<N→pc (nx c)=pc c) (hP:∀c,c<N→pc c<P) {s:Nat×Nat} (h:SmOk N (s :: L)) :
    (nCls (prtE pc (s :: L)) P=nCls (prtE pc L) P∧(nCls (Orb N (nuN nx (s :: L))) N=nCls (Orb N (nuN nx L)) N+1∨nCls (Orb N (nuN nx (s :: L))) N+1=nCls (Orb N (nuN nx L)) N)) ∨
    (nCls (prtE pc (s :: L)) P+1=nCls (prtE pc L) P∧nCls (Orb N (nuN nx (s :: L))) N+1=nCls (Orb N (nuN nx L)) N):=by
  cases h with
  | cons h h1 h2 h3 h4 =>
    have hp:=nu_pr hn h
    have hsame:prtE pc L (pc s.1) (pc s.2)→nCls (prtE pc (s :: L)) P=nCls (prtE pc L) P:=by
      intro hs
      refine nCls_congr fun a b _ _ => ?_
      constructor
      · rintro (g | ⟨g1,g2⟩ | ⟨g1,g2⟩)
        · exact g
        · exact prtE_eqv.tr g1 (prtE_eqv.tr hs g2)
        · exact prtE_eqv.tr g1 (prtE_eqv.tr (prtE_eqv.sy hs) g2)
      · exact prtE_more
    rw [nu_cons]
    rcases sw_count hp h1 h2 h3 with ⟨g1,g2⟩ | ⟨g1,g2⟩
    · by_cases hs:prtE pc L (pc s.1) (pc s.2)
      · exact Or.inl ⟨hsame hs,Or.inr g2⟩
      · exact Or.inr ⟨merE_cls prtE_eqv (hP _ h1) (hP _ h2) hs,g2⟩
    · exact Or.inl ⟨hsame (orb_prt hn hpc h g1),Or.inl g2⟩
theorem genus (hn:PrN N nx) (hpc:∀c,c<N→pc (nx c)=pc c) (hP:∀c,c<N→pc c<P) (h0:nCls (Orb N nx) N=P) (h:SmOk N L) :
    ∃g:Nat,2*nCls (prtE pc L) P+L.length=P+nCls (Orb N (nuN nx L)) N+2*g:=by
  induction h with
  | nil =>
    refine ⟨0,?_⟩
    have e1:nCls (prtE pc []) P=P:=by
      have:minsE (prtE pc []) P=List.range P:=by
        unfold minsE
        rw [List.filter_eq_self]
        intro c _
        simp only [decide_eq_true_eq]
        intro d hd he
        have:c=d:=he
        omega
      rw [nCls,this,List.length_range]
    have e2:nuN nx []=nx:=rfl
    rw [e1,e2,h0];simp;omega
  | @cons s L h h1 h2 h3 h4 ih =>
    obtain ⟨g,hg⟩:=ih
    have hh:SmOk N (s :: L):=.cons h h1 h2 h3 h4
    rw [List.length_cons]
    rcases seam_step (P:=P) hn hpc hP hh with ⟨a1,a2 | a2⟩ | ⟨a1,a2⟩
    · exact ⟨g,by omega⟩
    · exact ⟨g+1,by omega⟩
    · exact ⟨g,by omega⟩
end
end Go.Proofs.Ytclghkegfpcdpaa.Vm
namespace Go.Proofs.Ytclghkegfpcdpaa.Vm
set_option linter.unusedVariables false
set_option linter.unusedSimpArgs false
section
variable {N P:Nat}{nx pc:Nat→Nat}{L:List (Nat×Nat)}
structure WkN (nx:Nat→Nat)(L:List (Nat×Nat))(c k d:Nat):Prop where
  it:itN (nuN nx L) k c=d
  nf:∀i,i<k→alf L (itN (nuN nx L) i c)≠itN (nuN nx L) i c
theorem WkN.zero {c:Nat}:WkN nx L c 0 c:=⟨rfl,fun i hi=>by omega⟩
theorem WkN.one {c:Nat}(h:alf L c≠c):WkN nx L c 1 (nuN nx L c):=⟨rfl,fun i hi=>by
  have:i=0:=by omega
  subst this;exact h⟩
theorem WkN.trans {c d e j k:Nat}(h:WkN nx L c k d)(g:WkN nx L d j e):WkN nx L c (j+k) e where
  it:=by rw [itN_add,h.it,g.it]
  nf:=fun i hi=>by
    by_cases hk:i<k
    · exact h.nf i hk
    · have:=g.nf (i-k) (by omega)
      rw [←h.it,←itN_add,show i-k+k=i by omega] at this
      exact this
theorem WkN.cut {c d e j k:Nat}(h:WkN nx L d k c)(g:WkN nx L d j e)(hk:k≤j):WkN nx L c (j-k) e where
  it:=by rw [←h.it,←itN_add,show j-k+k=j by omega,g.it]
  nf:=fun i hi=>by
    have:=g.nf (i+k) (by omega)
    rw [itN_add,h.it] at this
    exact this
theorem WkN.meet (hp:PrN N (nuN nx L)){c d e j k:Nat}(hc:c<N)(he:e<N)(h:WkN nx L c k d)(g:WkN nx L e j d)(hk:k≤j):WkN nx L e (j-k) c where
  it:=by
    have h1:itN (nuN nx L) k (itN (nuN nx L) (j-k) e)=itN (nuN nx L) k c:=by rw [←itN_add,show k+(j-k)=j by omega,g.it,h.it]
    have inj:∀k a b,a<N→b<N→itN (nuN nx L) k a=itN (nuN nx L) k b→a=b:=by
      intro k
      induction k with
      | zero=>intro a b _ _ e;exact e
      | succ k ih=>intro a b ha hb e;exact ih a b ha hb (hp.inj _ _ (hp.it ha k) (hp.it hb k) e)
    exact inj k _ _ (hp.it he _) hc h1
  nf:=fun i hi=>g.nf i (by omega)
def ptE (N:Nat)(nx:Nat→Nat)(L:List (Nat×Nat)):Nat→Nat→Prop:=fun c d=>c=d∨(c<N∧d<N∧∃k,WkN nx L c k d∨WkN nx L d k c)
theorem ptE_eqv (hp:PrN N (nuN nx L)):Eqv (ptE N nx L) where
  rf:=fun _=>Or.inl rfl
  sy:=by
    rintro a b (rfl | ⟨ha,hb,k,h | h⟩)
    · exact Or.inl rfl
    · exact Or.inr ⟨hb,ha,k,Or.inr h⟩
    · exact Or.inr ⟨hb,ha,k,Or.inl h⟩
  tr := by
    rintro a b c (rfl | ⟨ha,hb,k,h⟩) (rfl | ⟨hb',hc,j,g⟩)
    · exact Or.inl rfl
    · exact Or.inr ⟨hb',hc,j,g⟩
    · exact Or.inr ⟨ha,hb,k,h⟩
    · refine Or.inr ⟨ha,hc,?_⟩
      rcases h with h | h<;>rcases g with g | g
      · exact ⟨_,Or.inl (h.trans g)⟩
      · rcases Nat.le_total k j with hk | hk
        · exact ⟨_,Or.inr (WkN.meet hp ha hc h g hk)⟩
        · exact ⟨_,Or.inl (WkN.meet hp hc ha g h hk)⟩
      · rcases Nat.le_total k j with hk | hk
        · exact ⟨_,Or.inl (h.cut g hk)⟩
        · exact ⟨_,Or.inr (g.cut h hk)⟩
      · exact ⟨_,Or.inr (g.trans h)⟩
theorem ptE_orb (hp:PrN N (nuN nx L)){c d:Nat}(h:ptE N nx L c d):Orb N (nuN nx L) c d:=by
  rcases h with rfl | ⟨hc,hd,k,h | h⟩
  · exact Or.inl rfl
  · exact Or.inr ⟨hc,hd,k,h.it⟩
  · exact hp.eqv.sy (Or.inr ⟨hd,hc,k,h.it⟩)
theorem ptE_lt {c d:Nat}(h:ptE N nx L c d)(hc:c<N):d<N:=by
  rcases h with rfl | ⟨_,hd,_⟩
  · exact hc
  · exact hd
theorem ptE_step (hp:PrN N (nuN nx L)){c:Nat}(hc:c<N)(h:alf L c≠c):ptE N nx L c (nuN nx L c):=Or.inr ⟨hc,hp.lt c hc,1,Or.inl (.one h)⟩
theorem free_one {c d:Nat}(hc:alf L c=c)(hd:alf L d=d)(h:ptE N nx L c d):c=d:=by
  rcases h with rfl | ⟨_,_,k,h | h⟩
  · rfl
  · rcases Nat.eq_zero_or_pos k with e | e
    · subst e;exact h.it
    · exact absurd hc (h.nf 0 e)
  · rcases Nat.eq_zero_or_pos k with e | e
    · subst e;exact h.it.symm
    · exact absurd hd (h.nf 0 e)
def InnN (N:Nat)(nx:Nat→Nat)(L:List (Nat×Nat))(c:Nat):Prop:=∀d,ptE N nx L c d→alf L d≠d
theorem InnN.iff (hp:PrN N (nuN nx L)){c d:Nat}(h:ptE N nx L c d):InnN N nx L c↔InnN N nx L d :=
  ⟨fun g e he=>g e ((ptE_eqv hp).tr h he),fun g e he=>g e ((ptE_eqv hp).tr ((ptE_eqv hp).sy h) he)⟩
theorem InnN.orb (hp:PrN N (nuN nx L)){c d:Nat}(hi:InnN N nx L c)(h:Orb N (nuN nx L) c d):ptE N nx L c d:=by
  rcases h with rfl | ⟨hc,hd,k,h⟩
  · exact Or.inl rfl
  · refine Or.inr ⟨hc,hd,k,Or.inl ⟨h,?_⟩⟩
    intro i hi'
    clear h hi'
    have key:∀i,ptE N nx L c (itN (nuN nx L) i c):=by
      intro i
      induction i with
      | zero=>exact Or.inl rfl
      | succ i ih=>exact (ptE_eqv hp).tr ih (ptE_step hp (hp.it hc i) (hi _ ih))
    exact hi _ (key i)
theorem ring_ex (hp:PrN N (nuN nx L)){c:Nat}(hc:c<N):∃n,n<N∧(alf L (itN (nuN nx L) n c)=itN (nuN nx L) n c∨itN (nuN nx L) (n+1) c=c)∧∀i,i<n→alf L (itN (nuN nx L) i c)≠itN (nuN nx L) i c∧itN (nuN nx L) (i+1) c≠c:=by
  obtain ⟨m,h1,h2,h3⟩:=hp.per hc
  have h4:alf L (itN (nuN nx L) (m-1) c)=itN (nuN nx L) (m-1) c∨itN (nuN nx L) (m-1+1) c=c:=Or.inr (by rw [show m-1+1=m by omega];exact h3)
  obtain ⟨n,h5,h6,h7⟩:=first_step (p:=fun n=>alf L (itN (nuN nx L) n c)=itN (nuN nx L) n c∨itN (nuN nx L) (n+1) c=c) h4
  exact ⟨n,by omega,h6,fun i hi=>⟨fun e=>h7 i hi (Or.inl e),fun e=>h7 i hi (Or.inr e)⟩⟩
open Classical in
noncomputable def rnN (N:Nat)(nx:Nat→Nat)(L:List (Nat×Nat))(c:Nat):Nat:=if h:∃n,n<N∧(alf L (itN (nuN nx L) n c)=itN (nuN nx L) n c∨itN (nuN nx L) (n+1) c=c)∧∀i,i<n→alf L (itN (nuN nx L) i c)≠itN (nuN nx L) i c∧itN (nuN nx L) (i+1) c≠c then Classical.choose h else 0
theorem rn_spec (hp:PrN N (nuN nx L)){c:Nat}(hc:c<N):rnN N nx L c<N∧(alf L (itN (nuN nx L) (rnN N nx L c) c)=itN (nuN nx L) (rnN N nx L c) c∨itN (nuN nx L) (rnN N nx L c+1) c=c)∧∀i,i<rnN N nx L c→alf L (itN (nuN nx L) i c)≠itN (nuN nx L) i c∧itN (nuN nx L) (i+1) c≠c:=by
  have hx:=ring_ex (L:=L) hp hc
  unfold rnN
  rw [dif_pos hx]
  exact Classical.choose_spec hx
noncomputable def ringN (N:Nat)(nx:Nat→Nat)(L:List (Nat×Nat))(c:Nat):List Nat:=(List.range (rnN N nx L c+1)).map fun i=>itN (nuN nx L) i c
theorem ring_nodup (hp:PrN N (nuN nx L)){c:Nat}(hc:c<N):(ringN N nx L c).Nodup:=by
  obtain ⟨h1,h2,h3⟩:=rn_spec (L:=L) hp hc
  rw [ringN,List.Nodup,List.pairwise_map]
  refine List.pairwise_lt_range.imp_of_mem ?_
  intro i j hi hj hlt e
  have hj:=List.mem_range.1 hj
  have:=hp.back hc i (j-i) (by rw [show i+(j-i)=j by omega];exact e.symm)
  have h4:=(h3 (j-i-1) (by omega)).2
  rw [show j-i-1+1=j-i by omega] at h4
  exact h4 this
def StaN (N:Nat)(nx:Nat→Nat)(L:List (Nat×Nat))(c:Nat):Prop:=∀x,x<N→nuN nx L x=c→alf L x=x
theorem sta_next {s:Nat}(hp:PrN N (nuN nx L))(hs:s<N)(hf:alf L s=s):StaN N nx L (nuN nx L s):=by
  intro x hx e
  have:=hp.inj _ _ hx hs e
  subst this;exact hf
theorem ring_free (hp:PrN N (nuN nx L)){c:Nat}(hc:c<N)(hs:StaN N nx L c):alf L (itN (nuN nx L) (rnN N nx L c) c)=itN (nuN nx L) (rnN N nx L c) c:=by
  obtain ⟨h1,h2,h3⟩:=rn_spec (L:=L) hp hc
  rcases h2 with h2 | h2
  · exact h2
  · exact hs _ (hp.it hc _) h2
theorem ring_sub (hp:PrN N (nuN nx L)){c:Nat}(hc:c<N){i:Nat}(hi:i≤rnN N nx L c):ptE N nx L c (itN (nuN nx L) i c) :=
  Or.inr ⟨hc,hp.it hc i,i,Or.inl ⟨rfl,fun j hj=>((rn_spec (L:=L) hp hc).2.2 j (by omega)).1⟩⟩
theorem ring_mem (hp:PrN N (nuN nx L)) {c d:Nat} (hc:c<N) (hs:StaN N nx L c∨InnN N nx L c):ptE N nx L c d↔d∈ringN N nx L c:=by
  obtain ⟨h1,h2,h3⟩:=rn_spec (L:=L) hp hc
  simp only [ringN,List.mem_map,List.mem_range]
  constructor
  · rintro (rfl | ⟨_,hd,k,h | h⟩)
    · exact ⟨0,by omega,rfl⟩
    · by_cases hk:k≤rnN N nx L c
      · exact ⟨k,by omega,h.it⟩
      · have h4:itN (nuN nx L) (rnN N nx L c+1) c=c:=by
          rcases h2 with h2 | h2
          · exact absurd h2 (h.nf _ (by omega))
          · exact h2
        refine ⟨k % (rnN N nx L c+1),Nat.mod_lt _ (by omega),?_⟩
        have h5:=h.it
        have e:k=k % (rnN N nx L c+1)+k / (rnN N nx L c+1)*(rnN N nx L c+1):=by rw [Nat.mul_comm];exact (Nat.mod_add_div k _).symm
        rw [e,itN_add,it_per h4] at h5
        exact h5
    · rcases hs with hs | hs
      · rcases Nat.eq_zero_or_pos k with e | e
        · subst e;exact ⟨0,by omega,h.it.symm⟩
        · obtain ⟨k,rfl⟩:=Nat.exists_eq_add_of_lt e
          rw [Nat.zero_add] at h
          exact absurd (hs _ (hp.it hd k) h.it) (h.nf k (by omega))
      · have h4:itN (nuN nx L) (rnN N nx L c+1) c=c:=by
          rcases h2 with h2 | h2
          · exact absurd h2 (hs _ (ring_sub hp hc (Nat.le_refl _)))
          · exact h2
        have h5:d=itN (nuN nx L) ((k+1)*(rnN N nx L c+1)-k) c:=by
          have inj:∀k a b,a<N→b<N→itN (nuN nx L) k a=itN (nuN nx L) k b→a=b:=by
            intro k
            induction k with
            | zero=>intro a b _ _ e;exact e
            | succ k ih=>intro a b ha hb e;exact ih a b ha hb (hp.inj _ _ (hp.it ha k) (hp.it hb k) e)
          refine inj k _ _ hd (hp.it hc _) ?_
          have hk:k≤(k+1)*(rnN N nx L c+1):=Nat.le_trans (by omega) (Nat.le_mul_of_pos_right (k+1) (by omega))
          rw [h.it,←itN_add,show k+((k+1)*(rnN N nx L c+1)-k)=(k+1)*(rnN N nx L c+1) by omega,it_per h4]
        generalize (k+1)*(rnN N nx L c+1)-k=q at h5
        refine ⟨q % (rnN N nx L c+1),Nat.mod_lt _ (by omega),?_⟩
        have e:q=q % (rnN N nx L c+1)+q / (rnN N nx L c+1)*(rnN N nx L c+1):=by rw [Nat.mul_comm];exact (Nat.mod_add_div q _).symm
        rw [e,itN_add,it_per h4] at h5
        exact h5.symm
  · rintro ⟨i,hi,rfl⟩
    exact ring_sub hp hc (by omega)
theorem sta_ex (hp:PrN N (nuN nx L)){c:Nat}(hc:c<N)(hi:¬InnN N nx L c):∃s,s<N∧StaN N nx L s∧ptE N nx L c s:=by
  have:∃d,ptE N nx L c d∧alf L d=d:=by
    apply Classical.byContradiction
    intro hn
    exact hi fun d hd e=>hn ⟨d,hd,e⟩
  obtain ⟨d,hd,hf⟩:=this
  have hdl:=ptE_lt hd hc
  obtain ⟨m,h1,_,h2⟩:=hp.per hdl
  obtain ⟨j,_,h4,h5⟩:=first_step (p:=fun j=>alf L (itN (nuN nx L) (m-1-j) d)=itN (nuN nx L) (m-1-j) d) (k:=m-1) (by simpa [itN] using hf)
  have hjm:j≤m-1:=by omega
  refine ⟨nuN nx L (itN (nuN nx L) (m-1-j) d),hp.lt _ (hp.it hdl _),sta_next hp (hp.it hdl _) h4,(ptE_eqv hp).tr hd ((ptE_eqv hp).sy ?_)⟩
  refine Or.inr ⟨hp.lt _ (hp.it hdl _),hdl,j,Or.inl ⟨?_,?_⟩⟩
  · rw [←itN_succ,←itN_add,show j+1+(m-1-j)=m by omega,h2]
  · intro i hij
    rw [←itN_succ,←itN_add]
    have:=h5 (j-1-i) (by omega)
    rw [show m-1-(j-1-i)=i+1+(m-1-j) by omega] at this
    exact this
theorem sta_free {c:Nat}(hp:PrN N (nuN nx L))(hc:c<N)(hs:StaN N nx L c):¬InnN N nx L c:=fun h =>
  h _ (ring_sub hp hc (Nat.le_refl _)) (ring_free hp hc hs)
theorem sta_one (hp:PrN N (nuN nx L)){c d:Nat}(hc:StaN N nx L c)(hd:StaN N nx L d)(h:ptE N nx L c d):c=d:=by
  rcases h with rfl | ⟨h1,h2,k,h | h⟩
  · rfl
  · rcases Nat.eq_zero_or_pos k with e | e
    · subst e;exact h.it
    · obtain ⟨k,rfl⟩:=Nat.exists_eq_add_of_lt e
      rw [Nat.zero_add] at h
      exact absurd (hd _ (hp.it h1 k) h.it) (h.nf k (by omega))
  · rcases Nat.eq_zero_or_pos k with e | e
    · subst e;exact h.it.symm
    · obtain ⟨k,rfl⟩:=Nat.exists_eq_add_of_lt e
      rw [Nat.zero_add] at h
      exact absurd (hc _ (hp.it h2 k) h.it) (h.nf k (by omega))
open Classical in
noncomputable def memE (E:Nat→Nat→Prop)(N c:Nat):List Nat:=(List.range N).filter fun d=>decide (E c d)
theorem mem_memE {E:Nat→Nat→Prop}{c d:Nat}:d∈memE E N c↔d<N∧E c d:=by simp [memE]
theorem memE_nodup {E:Nat→Nat→Prop}{c:Nat}:(memE E N c).Nodup:=List.Nodup.sublist List.filter_sublist List.nodup_range
theorem memE_asc {E:Nat→Nat→Prop}{c:Nat}:(memE E N c).Pairwise (·<·):=List.Pairwise.sublist List.filter_sublist List.pairwise_lt_range
theorem memE_congr {E:Nat→Nat→Prop}(h:Eqv E){c d:Nat}(he:E c d):memE E N c=memE E N d:=by
  unfold memE
  refine List.filter_congr fun x _ => ?_
  rw [decide_eq_decide]
  exact ⟨fun g=>h.tr (h.sy he) g,fun g=>h.tr he g⟩
theorem ring_perm (hp:PrN N (nuN nx L)){c:Nat}(hc:c<N)(hs:StaN N nx L c∨InnN N nx L c):(ringN N nx L c).Perm (memE (ptE N nx L) N c) :=
  perm_nodup (ring_nodup hp hc) memE_nodup fun x=>by
    rw [mem_memE,←ring_mem hp hc hs]
    exact ⟨fun h=>⟨ptE_lt h hc,h⟩,fun h=>h.2⟩
theorem flat_reps {E:Nat→Nat→Prop}(h:Eqv E){R:List Nat}(hr:Reps E N R):((R.map (memE E N)).flatten).Perm (List.range N):=by
  refine perm_nodup ?_ List.nodup_range fun x => ?_
  · rw [List.Nodup,List.pairwise_flatten]
    refine ⟨?_,?_⟩
    · intro l hl
      obtain ⟨c,_,rfl⟩:=List.mem_map.1 hl
      exact memE_nodup
    · rw [List.pairwise_map]
      refine hr.dis.imp fun {a b} hne x hx y hy e => ?_
      subst e
      exact hne (h.tr (mem_memE.1 hx).2 (h.sy (mem_memE.1 hy).2))
  · simp only [List.mem_flatten,List.mem_map,List.mem_range]
    constructor
    · rintro ⟨l,⟨c,_,rfl⟩,hx⟩
      exact (mem_memE.1 hx).1
    · intro hx
      obtain ⟨r,h1,h2⟩:=hr.cov x hx
      exact ⟨_,⟨r,h1,rfl⟩,mem_memE.2 ⟨hx,h.sy h2⟩⟩
open Classical in
noncomputable def innMins (N:Nat)(nx:Nat→Nat)(L:List (Nat×Nat)):List Nat:=(minsE (ptE N nx L) N).filter fun c=>decide (InnN N nx L c)
theorem mem_inn {c:Nat}:c∈innMins N nx L↔(c<N∧LeE (ptE N nx L) c)∧InnN N nx L c:=by
  simp only [innMins,List.mem_filter,mem_mins,decide_eq_true_eq]
theorem inn_dis:(innMins N nx L).Pairwise (·<·):=List.Pairwise.sublist List.filter_sublist mins_asc
theorem reps_free (hp:PrN N (nuN nx L)):Reps (ptE N nx L) N (innMins N nx L++freesN L N) where
  lt:=fun r hr=>by
    rcases List.mem_append.1 hr with h | h
    · exact (mem_inn.1 h).1.1
    · exact (mem_frees.1 h).1
  dis := by
    rw [List.pairwise_append]
    refine ⟨?_,?_,?_⟩
    · refine (inn_dis (N:=N) (nx:=nx) (L:=L)).imp_of_mem ?_
      intro a b ha hb hlt he
      exact absurd ((ptE_eqv hp).least_eq (mem_inn.1 ha).1.2 (mem_inn.1 hb).1.2 he) (by omega)
    · refine (frees_nodup (L:=L) (N:=N)).imp_of_mem ?_
      intro a b ha hb hne he
      exact hne (free_one (freeN_iff.1 (mem_frees.1 ha).2) (freeN_iff.1 (mem_frees.1 hb).2) he)
    · intro a ha b hb he
      exact (mem_inn.1 ha).2 b he (freeN_iff.1 (mem_frees.1 hb).2)
  cov := fun c hc=>by
    by_cases hi:InnN N nx L c
    · obtain ⟨a1,a2,a3⟩:=lowE_spec (ptE_eqv hp) c
      exact ⟨_,List.mem_append_left _ (mem_inn.2 ⟨⟨by omega,a3⟩,(InnN.iff hp a2).1 hi⟩),a2⟩
    · have:∃d,ptE N nx L c d∧alf L d=d:=by
        apply Classical.byContradiction
        intro hn
        exact hi fun d hd e=>hn ⟨d,hd,e⟩
      obtain ⟨d,hd,hf⟩:=this
      exact ⟨d,List.mem_append_right _ (mem_frees.2 ⟨ptE_lt hd hc,freeN_iff.2 hf⟩),hd⟩
open Classical in
noncomputable def stasN (N:Nat)(nx:Nat→Nat)(L:List (Nat×Nat)):List Nat:=(List.range N).filter fun c=>decide (StaN N nx L c)
theorem mem_stas {c:Nat}:c∈stasN N nx L↔c<N∧StaN N nx L c:=by simp [stasN]
theorem reps_sta (hp:PrN N (nuN nx L)):Reps (ptE N nx L) N (stasN N nx L++innMins N nx L) where
  lt:=fun r hr=>by
    rcases List.mem_append.1 hr with h | h
    · exact (mem_stas.1 h).1
    · exact (mem_inn.1 h).1.1
  dis := by
    rw [List.pairwise_append]
    refine ⟨?_,?_,?_⟩
    · have:(stasN N nx L).Nodup:=List.Nodup.sublist List.filter_sublist List.nodup_range
      refine this.imp_of_mem ?_
      intro a b ha hb hne he
      exact hne (sta_one hp (mem_stas.1 ha).2 (mem_stas.1 hb).2 he)
    · refine (inn_dis (N:=N) (nx:=nx) (L:=L)).imp_of_mem ?_
      intro a b ha hb hlt he
      exact absurd ((ptE_eqv hp).least_eq (mem_inn.1 ha).1.2 (mem_inn.1 hb).1.2 he) (by omega)
    · intro a ha b hb he
      exact sta_free hp (mem_stas.1 ha).1 (mem_stas.1 ha).2 ((InnN.iff hp he).2 (mem_inn.1 hb).2)
  cov := fun c hc=>by
    by_cases hi:InnN N nx L c
    · obtain ⟨a1,a2,a3⟩:=lowE_spec (ptE_eqv hp) c
      exact ⟨_,List.mem_append_right _ (mem_inn.2 ⟨⟨by omega,a3⟩,(InnN.iff hp a2).1 hi⟩),a2⟩
    · obtain ⟨s,h1,h2,h3⟩:=sta_ex hp hc hi
      exact ⟨s,List.mem_append_left _ (mem_stas.2 ⟨h1,h2⟩),h3⟩
noncomputable def sgN (N:Nat)(nx:Nat→Nat)(L:List (Nat×Nat))(s:Nat):Nat:=if alf L s=s then itN (nuN nx L) (rnN N nx L (nuN nx L s)) (nuN nx L s) else s
theorem sg_free (hp:PrN N (nuN nx L)){s:Nat}(hs:s<N)(hf:alf L s=s):alf L (sgN N nx L s)=sgN N nx L s:=by
  simp only [sgN,hf,if_true]
  exact ring_free hp (hp.lt _ hs) (sta_next hp hs hf)
theorem sg_wk (hp:PrN N (nuN nx L)){s:Nat}(hs:s<N)(hf:alf L s=s):WkN nx L (nuN nx L s) (rnN N nx L (nuN nx L s)) (sgN N nx L s) :=
  ⟨by simp [sgN,hf],fun i hi=>((rn_spec (L:=L) hp (hp.lt _ hs)).2.2 i hi).1⟩
theorem sg_pr (hp:PrN N (nuN nx L)):PrN N (sgN N nx L) where
  lt:=fun c hc=>by
    unfold sgN;split
    · exact hp.it (hp.lt _ hc) _
    · exact hc
  inj := by
    intro c d hc hd e
    by_cases fc:alf L c=c<;>by_cases fd:alf L d=d
    · have w1:=sg_wk hp hc fc
      have w2:=sg_wk hp hd fd
      rw [←e] at w2
      have key:∀{c d j k x},c<N→d<N→alf L c=c→alf L d=d→WkN nx L (nuN nx L c) k x→WkN nx L (nuN nx L d) j x→k≤j→c=d:=by
        intro c d j k x hc hd fc fd w1 w2 hk
        have w:=WkN.meet hp (hp.lt _ hc) (hp.lt _ hd) w1 w2 hk
        rcases Nat.eq_zero_or_pos (j-k) with e | e
        · rw [e] at w
          exact (hp.inj _ _ hd hc w.it).symm
        · obtain ⟨q,hq⟩:=Nat.exists_eq_add_of_lt e
          rw [Nat.zero_add] at hq
          rw [hq] at w
          have h1:=hp.inj _ _ (hp.it (hp.lt _ hd) q) hc w.it
          have h2:=w.nf q (by omega)
          rw [h1] at h2
          exact absurd fc h2
      rcases Nat.le_total (rnN N nx L (nuN nx L c)) (rnN N nx L (nuN nx L d)) with h | h
      · exact key hc hd fc fd w1 w2 h
      · exact (key hd hc fd fc w2 w1 h).symm
    · have:=sg_free hp hc fc
      rw [e] at this
      simp only [sgN,fd,if_false] at this
    · have:=sg_free hp hd fd
      rw [←e] at this
      simp only [sgN,fc,if_false] at this
    · simpa [sgN,fc,fd] using e
theorem sg_orb (hp:PrN N (nuN nx L)){c:Nat}(hc:c<N):Orb N (nuN nx L) c (sgN N nx L c):=by
  by_cases hf:alf L c=c
  · have:=hp.eqv.tr (hp.one hc) (hp.orb (hp.lt _ hc) (rnN N nx L (nuN nx L c)))
    simpa [sgN,hf] using this
  · simp only [sgN,hf,if_false];exact Or.inl rfl
theorem sg_sub (hp:PrN N (nuN nx L)){c d:Nat}(h:Orb N (sgN N nx L) c d):Orb N (nuN nx L) c d:=Orb.sub hp.eqv (sg_pr hp) (fun c hc=>sg_orb hp hc) h
theorem sg_all (hp:PrN N (nuN nx L)):∀(k:Nat) {c d:Nat},c<N→alf L c=c→alf L d=d→itN (nuN nx L) k c=d→Orb N (sgN N nx L) c d:=by
  intro k
  induction k using Nat.strongRecOn with
  | _ k ih =>
    intro c d hc fc fd h
    rcases Nat.eq_zero_or_pos k with e | e
    · subst e;exact Or.inl h
    · have w:=sg_wk hp hc fc
      have hle:rnN N nx L (nuN nx L c)+1≤k:=by
        rcases Nat.lt_or_ge (rnN N nx L (nuN nx L c)) k with h1 | h1
        · exact h1
        · have:=w.nf (k-1) (by omega)
          rw [←itN_succ,show k-1+1=k by omega,h] at this
          exact absurd fd this
      have h2:itN (nuN nx L) (k-(rnN N nx L (nuN nx L c)+1)) (sgN N nx L c)=d:=by
        rw [←w.it,←itN_succ,←itN_add,show k-(rnN N nx L (nuN nx L c)+1)+(rnN N nx L (nuN nx L c)+1)=k by omega,h]
      have:=ih (k-(rnN N nx L (nuN nx L c)+1)) (by omega) ((sg_pr hp).lt c hc) (sg_free hp hc fc) fd h2
      exact (sg_pr hp).eqv.tr ((sg_pr hp).one hc) this
theorem sg_iff (hp:PrN N (nuN nx L)){c d:Nat}(fc:alf L c=c)(fd:alf L d=d):Orb N (sgN N nx L) c d↔Orb N (nuN nx L) c d:=by
  refine ⟨sg_sub hp,?_⟩
  rintro (rfl | ⟨hc,hd,k,h⟩)
  · exact Or.inl rfl
  · exact sg_all hp k hc fc fd h
theorem sg_stays (hp:PrN N (nuN nx L)){c d:Nat}(hf:alf L c=c)(h:Orb N (sgN N nx L) c d):alf L d=d:=by
  rcases h with rfl | ⟨hc,hd,k,rfl⟩
  · exact hf
  · clear hd
    induction k with
    | zero=>exact hf
    | succ k ih=>exact sg_free hp ((sg_pr hp).it hc k) ih
noncomputable def firstsN (N:Nat)(nx:Nat→Nat)(L:List (Nat×Nat)):List Nat:=(minsE (Orb N (sgN N nx L)) N).filter (freeN L)
theorem mem_firsts {c:Nat}:c∈firstsN N nx L↔(c<N∧LeE (Orb N (sgN N nx L)) c)∧alf L c=c:=by
  simp only [firstsN,List.mem_filter,mem_mins,freeN_iff]
theorem reps_loop (hp:PrN N (nuN nx L)):Reps (Orb N (nuN nx L)) N (innMins N nx L++firstsN N nx L) where
  lt:=fun r hr=>by
    rcases List.mem_append.1 hr with h | h
    · exact (mem_inn.1 h).1.1
    · exact (mem_firsts.1 h).1.1
  dis := by
    rw [List.pairwise_append]
    refine ⟨?_,?_,?_⟩
    · refine (inn_dis (N:=N) (nx:=nx) (L:=L)).imp_of_mem ?_
      intro a b ha hb hlt he
      exact absurd ((ptE_eqv hp).least_eq (mem_inn.1 ha).1.2 (mem_inn.1 hb).1.2 (InnN.orb hp (mem_inn.1 ha).2 he)) (by omega)
    · have:(firstsN N nx L).Nodup:=List.Nodup.sublist List.filter_sublist mins_nodup
      refine this.imp_of_mem ?_
      intro a b ha hb hne he
      exact hne ((sg_pr hp).eqv.least_eq (mem_firsts.1 ha).1.2 (mem_firsts.1 hb).1.2 ((sg_iff hp (mem_firsts.1 ha).2 (mem_firsts.1 hb).2).2 he))
    · intro a ha b hb he
      exact (mem_inn.1 ha).2 b (InnN.orb hp (mem_inn.1 ha).2 he) (mem_firsts.1 hb).2
  cov := fun c hc=>by
    by_cases hi:InnN N nx L c
    · obtain ⟨a1,a2,a3⟩:=lowE_spec (ptE_eqv hp) c
      exact ⟨_,List.mem_append_left _ (mem_inn.2 ⟨⟨by omega,a3⟩,(InnN.iff hp a2).1 hi⟩),ptE_orb hp a2⟩
    · have:∃d,ptE N nx L c d∧alf L d=d:=by
        apply Classical.byContradiction
        intro hn
        exact hi fun d hd e=>hn ⟨d,hd,e⟩
      obtain ⟨d,hd,hf⟩:=this
      have hdl:=ptE_lt hd hc
      obtain ⟨a1,a2,a3⟩:=lowE_spec (sg_pr hp).eqv d
      exact ⟨_,List.mem_append_right _ (mem_firsts.2 ⟨⟨by omega,a3⟩,sg_stays hp hf a2⟩),hp.eqv.tr (ptE_orb hp hd) (sg_sub hp a2)⟩
theorem orb_count (hp:PrN N (nuN nx L)):nCls (Orb N (nuN nx L)) N=(innMins N nx L).length+(firstsN N nx L).length:=by
  rw [←(reps_loop hp).len hp.eqv,List.length_append]
theorem pts_count (hp:PrN N (nuN nx L)):nCls (ptE N nx L) N=(innMins N nx L).length+(freesN L N).length:=by
  rw [←(reps_free hp).len (ptE_eqv hp),List.length_append]
theorem per_ex {f:Nat→Nat}(h:PrN N f){c:Nat}(hc:c<N):∃m,m≤N∧(0<m∧itN f m c=c)∧∀j,j<m→¬(0<j∧itN f j c=c):=by
  obtain ⟨k,h1,h2,h3⟩:=h.per hc
  obtain ⟨m,a,b,c⟩:=first_step (p:=fun m=>0<m∧itN f m c=c) ⟨h1,h3⟩
  exact ⟨m,by omega,b,c⟩
open Classical in
noncomputable def perN (N:Nat)(f:Nat→Nat)(c:Nat):Nat:=if h:∃m,m≤N∧(0<m∧itN f m c=c)∧∀j,j<m→¬(0<j∧itN f j c=c) then Classical.choose h else 1
theorem per_spec {f:Nat→Nat}(h:PrN N f){c:Nat}(hc:c<N):perN N f c≤N∧(0<perN N f c∧itN f (perN N f c) c=c)∧∀j,j<perN N f c→¬(0<j∧itN f j c=c):=by
  have hx:=per_ex h hc
  unfold perN
  rw [dif_pos hx]
  exact Classical.choose_spec hx
noncomputable def lpN (N:Nat)(f:Nat→Nat)(c:Nat):List Nat:=(List.range (perN N f c)).map fun i=>itN f i c
theorem lp_nodup {f:Nat→Nat}(h:PrN N f){c:Nat}(hc:c<N):(lpN N f c).Nodup:=by
  obtain ⟨_,h2,h3⟩:=per_spec h hc
  rw [lpN,List.Nodup,List.pairwise_map]
  refine List.pairwise_lt_range.imp_of_mem ?_
  intro i j hi hj hlt e
  have hj:=List.mem_range.1 hj
  exact h3 (j-i) (by omega) ⟨by omega,h.back hc i (j-i) (by rw [show i+(j-i)=j by omega];exact e.symm)⟩
theorem lp_mem {f:Nat→Nat}(h:PrN N f){c d:Nat}(hc:c<N):d∈lpN N f c↔Orb N f c d:=by
  obtain ⟨_,⟨h1,h2⟩,h3⟩:=per_spec h hc
  simp only [lpN,List.mem_map,List.mem_range]
  constructor
  · rintro ⟨i,_,rfl⟩;exact h.orb hc i
  · rintro (rfl | ⟨_,_,k,rfl⟩)
    · exact ⟨0,h1,rfl⟩
    · refine ⟨k % perN N f c,Nat.mod_lt _ h1,?_⟩
      conv=>rhs;rw [show k=k % perN N f c+k / perN N f c*perN N f c by rw [Nat.mul_comm];exact (Nat.mod_add_div k _).symm,itN_add,it_per h2]
noncomputable def loopsN (N:Nat)(nx:Nat→Nat)(L:List (Nat×Nat)):List (List Nat):=(firstsN N nx L).map (lpN N (sgN N nx L))
theorem loops_perm (hp:PrN N (nuN nx L)):((loopsN N nx L).flatten).Perm (freesN L N):=by
  refine perm_nodup ?_ frees_nodup fun x => ?_
  · rw [List.Nodup,List.pairwise_flatten]
    refine ⟨?_,?_⟩
    · intro l hl
      obtain ⟨c,hc,rfl⟩:=List.mem_map.1 hl
      exact lp_nodup (sg_pr hp) (mem_firsts.1 hc).1.1
    · rw [loopsN,List.pairwise_map]
      have:(firstsN N nx L).Nodup:=List.Nodup.sublist List.filter_sublist mins_nodup
      refine this.imp_of_mem ?_
      intro a b ha hb hne x hx y hy e
      subst e
      rw [lp_mem (sg_pr hp) (mem_firsts.1 ha).1.1] at hx
      rw [lp_mem (sg_pr hp) (mem_firsts.1 hb).1.1] at hy
      exact hne ((sg_pr hp).eqv.least_eq (mem_firsts.1 ha).1.2 (mem_firsts.1 hb).1.2 ((sg_pr hp).eqv.tr hx ((sg_pr hp).eqv.sy hy)))
  · simp only [List.mem_flatten,loopsN,List.mem_map,mem_frees,freeN_iff]
    constructor
    · rintro ⟨l,⟨c,hc,rfl⟩,hx⟩
      rw [lp_mem (sg_pr hp) (mem_firsts.1 hc).1.1] at hx
      refine ⟨?_,sg_stays hp (mem_firsts.1 hc).2 hx⟩
      rcases hx with rfl | ⟨_,g,_⟩
      · exact (mem_firsts.1 hc).1.1
      · exact g
    · rintro ⟨hx,hf⟩
      obtain ⟨a1,a2,a3⟩:=lowE_spec (sg_pr hp).eqv x
      exact ⟨_,⟨_,mem_firsts.2 ⟨⟨by omega,a3⟩,sg_stays hp hf a2⟩,rfl⟩,(lp_mem (sg_pr hp) (by omega)).2 ((sg_pr hp).eqv.sy a2)⟩
end
end Go.Proofs.Ytclghkegfpcdpaa.Vm
namespace Go.Proofs.Ytclghkegfpcdpaa.Vm
set_option linter.unusedVariables false
set_option linter.unusedSimpArgs false
attribute [-simp] List.getD_eq_getElem?_getD
structure Sid where
  l:Int
  a:Int
  n:Int
  b:Int
  p:Int
  deriving Inhabited
structure Pc where
  s:List Int
  a:List Int
  deriving Inhabited
structure Sm where
  A:Int
  I:Int
  B:Int
  J:Int
  deriving Inhabited
def ksN (pcs:List Pc)(q:Nat):Nat:=(pcs.getD q default).s.length
def offN (pcs:List Pc):Nat→Nat
  | 0=>0
  | q+1=>offN pcs q+ksN pcs q
def sidE (o:Nat)(p:Pc)(i:Nat):Sid:=⟨p.s.getD i 0,p.a.getD i 0,((o+(i+1) % p.s.length:Nat):Int),((o+(i+p.s.length-1) % p.s.length:Nat):Int),-1⟩
def basT (pcs:List Pc):Nat→List Sid
  | 0=>[]
  | q+1=>basT pcs q++(List.range (ksN pcs q)).map (sidE (offN pcs q) (pcs.getD q default))
def pcT (pcs:List Pc):Nat→List Nat
  | 0=>[]
  | q+1=>pcT pcs q++(List.range (ksN pcs q)).map fun _=>q
section
variable {pcs:List Pc}
theorem basT_len:∀{q:Nat},(basT pcs q).length=offN pcs q
  | 0=>rfl
  | q+1=>by simp [basT,offN,basT_len (q:=q)]
theorem pcT_len:∀{q:Nat},(pcT pcs q).length=offN pcs q
  | 0=>rfl
  | q+1=>by simp [pcT,offN,pcT_len (q:=q)]
theorem off_step {q:Nat}:offN pcs (q+1)=offN pcs q+ksN pcs q:=rfl
theorem off_mono:∀{p q:Nat},p≤q→offN pcs p≤offN pcs q
  | p, 0, h => by have:p=0:=by omega
                  subst this;exact Nat.le_refl _
  | p,q+1,h=>by
    rcases Nat.lt_or_ge p (q+1) with h1 | h1
    · have:=off_mono (p:=p) (q:=q) (by omega)
      rw [off_step];omega
    · have:p=q+1:=by omega
      subst this;exact Nat.le_refl _
theorem off_loc:∀{p i:Nat},i<offN pcs p→∃q j,q<p∧j<ksN pcs q∧i=offN pcs q+j
  | 0,i,h=>by simp [offN] at h
  | p + 1,i,h=>by
    rw [off_step] at h
    rcases Nat.lt_or_ge i (offN pcs p) with h1 | h1
    · obtain ⟨q,j,a,b,c⟩:=off_loc h1
      exact ⟨q,j,by omega,b,c⟩
    · exact ⟨p,i-offN pcs p,by omega,by omega,by omega⟩
theorem off_lt {p q j:Nat}(hq:q<p)(hj:j<ksN pcs q):offN pcs q+j<offN pcs p:=by
  have:=off_mono (pcs:=pcs) (p:=q+1) (q:=p) (by omega)
  rw [off_step] at this;omega
theorem off_inj {q j q' j':Nat}(hj:j<ksN pcs q)(hj':j'<ksN pcs q')(h:offN pcs q+j=offN pcs q'+j'):q=q'∧j=j':=by
  rcases Nat.lt_trichotomy q q' with h1 | h1 | h1
  · have:=off_lt h1 hj;omega
  · subst h1;exact ⟨rfl,by omega⟩
  · have:=off_lt h1 hj';omega
theorem getD_lt {α:Type}{d:α}{l m:List α}{i:Nat}(h:i<l.length):(l++m).getD i d=l.getD i d:=by
  rw [List.getD_eq_getElem?_getD,List.getD_eq_getElem?_getD,List.getElem?_append_left h]
theorem getD_ge {α:Type}{d:α}{l m:List α}{i j:Nat}(h:i=l.length+j):(l++m).getD i d=m.getD j d:=by
  subst h
  rw [List.getD_eq_getElem?_getD,List.getD_eq_getElem?_getD,List.getElem?_append_right (by omega)]
  congr 2;omega
theorem getD_mapR {α:Type}{d:α}{g:Nat→α}{n i:Nat}(h:i<n):((List.range n).map g).getD i d=g i:=by
  simp [List.getD_eq_getElem?_getD,h]
theorem bas_get:∀{p q j:Nat},q<p→j<ksN pcs q→(basT pcs p).getD (offN pcs q+j) default=sidE (offN pcs q) (pcs.getD q default) j
  | 0,q,j,h,_=>by omega
  | p + 1,q,j,h,hj=>by
    rcases Nat.lt_or_ge q p with h1 | h1
    · rw [basT,getD_lt (by rw [basT_len];exact off_lt h1 hj),bas_get h1 hj]
    · have:q=p:=by omega
      subst this
      rw [basT,getD_ge (j:=j) (by rw [basT_len]),getD_mapR hj]
theorem pcT_get:∀{p q j:Nat},q<p→j<ksN pcs q→(pcT pcs p).getD (offN pcs q+j) 0=q
  | 0,q,j,h,_=>by omega
  | p + 1,q,j,h,hj=>by
    rcases Nat.lt_or_ge q p with h1 | h1
    · rw [pcT,getD_lt (by rw [pcT_len];exact off_lt h1 hj),pcT_get h1 hj]
    · have:q=p:=by omega
      subst this
      rw [pcT,getD_ge (j:=j) (by rw [pcT_len]),getD_mapR hj]
def nsN (pcs:List Pc):Nat:=offN pcs pcs.length
def nxN (pcs:List Pc)(i:Nat):Nat:=((basT pcs pcs.length).getD i default).n.toNat
def bfN (pcs:List Pc)(i:Nat):Nat:=((basT pcs pcs.length).getD i default).b.toNat
def anN (pcs:List Pc)(i:Nat):Int:=((basT pcs pcs.length).getD i default).a
def lnN (pcs:List Pc)(i:Nat):Int:=((basT pcs pcs.length).getD i default).l
def pcN (pcs:List Pc)(i:Nat):Nat:=(pcT pcs pcs.length).getD i 0
variable {q j:Nat}
theorem nx_at (hq:q<pcs.length)(hj:j<ksN pcs q):nxN pcs (offN pcs q+j)=offN pcs q+(j+1) % ksN pcs q:=by
  rw [nxN,bas_get hq hj];exact Int.toNat_natCast _
theorem bf_at (hq:q<pcs.length)(hj:j<ksN pcs q):bfN pcs (offN pcs q+j)=offN pcs q+(j+ksN pcs q-1) % ksN pcs q:=by
  rw [bfN,bas_get hq hj];exact Int.toNat_natCast _
theorem an_at (hq:q<pcs.length)(hj:j<ksN pcs q):anN pcs (offN pcs q+j)=(pcs.getD q default).a.getD j 0:=by
  rw [anN,bas_get hq hj];rfl
theorem ln_at (hq:q<pcs.length)(hj:j<ksN pcs q):lnN pcs (offN pcs q+j)=(pcs.getD q default).s.getD j 0:=by
  rw [lnN,bas_get hq hj];rfl
theorem pc_at (hq:q<pcs.length)(hj:j<ksN pcs q):pcN pcs (offN pcs q+j)=q:=by rw [pcN,pcT_get hq hj]
theorem mod_next {j k:Nat}(h:j<k):(j+1) % k=if j+1=k then 0 else j+1:=by
  split
  · rename_i e;rw [e];exact Nat.mod_self k
  · exact Nat.mod_eq_of_lt (by omega)
theorem mod_prev {j k:Nat}(h:j<k):(j+k-1) % k=if j=0 then k-1 else j-1:=by
  split
  · rename_i e;subst e;rw [Nat.zero_add];exact Nat.mod_eq_of_lt (by omega)
  · rw [show j+k-1=j-1+k by omega,Nat.add_mod_right];exact Nat.mod_eq_of_lt (by omega)
theorem nx_pr:PrN (nsN pcs) (nxN pcs) where
  lt:=fun c hc=>by
    obtain ⟨q,j,h1,h2,rfl⟩:=off_loc hc
    rw [nx_at h1 h2]
    exact off_lt h1 (Nat.mod_lt _ (by omega))
  inj := fun c d hc hd e=>by
    obtain ⟨q,j,h1,h2,rfl⟩:=off_loc hc
    obtain ⟨q',j',h3,h4,rfl⟩:=off_loc hd
    rw [nx_at h1 h2,nx_at h3 h4] at e
    obtain ⟨e1,e2⟩:=off_inj (Nat.mod_lt _ (by omega)) (Nat.mod_lt _ (by omega)) e
    subst e1
    rw [mod_next h2,mod_next h4] at e2
    have:j=j':=by
      split at e2<;>split at e2<;>omega
    rw [this]
theorem nx_pc {c:Nat}(hc:c<nsN pcs):pcN pcs (nxN pcs c)=pcN pcs c:=by
  obtain ⟨q,j,h1,h2,rfl⟩:=off_loc hc
  rw [nx_at h1 h2,pc_at h1 h2,pc_at h1 (Nat.mod_lt _ (by omega))]
theorem pc_lt {c:Nat}(hc:c<nsN pcs):pcN pcs c<pcs.length:=by
  obtain ⟨q,j,h1,h2,rfl⟩:=off_loc hc
  rw [pc_at h1 h2];exact h1
theorem nx_bf {c:Nat}(hc:c<nsN pcs):nxN pcs (bfN pcs c)=c∧bfN pcs c<nsN pcs:=by
  obtain ⟨q,j,h1,h2,rfl⟩:=off_loc hc
  have hm:(j+ksN pcs q-1) % ksN pcs q<ksN pcs q:=Nat.mod_lt _ (by omega)
  rw [bf_at h1 h2]
  refine ⟨?_,off_lt h1 hm⟩
  rw [nx_at h1 hm,mod_next hm,mod_prev h2]
  congr 1
  split<;>split<;>omega
theorem nx_it (hq:q<pcs.length)(hj:j<ksN pcs q):∀m,itN (nxN pcs) m (offN pcs q+j)=offN pcs q+(j+m) % ksN pcs q
  | 0=>by simp [itN,Nat.mod_eq_of_lt hj]
  | m+1=>by
    rw [itN,nx_it hq hj m,nx_at hq (Nat.mod_lt _ (by omega)),Nat.mod_add_mod,Nat.add_assoc]
theorem nx_orb {c d:Nat}(hc:c<nsN pcs)(hd:d<nsN pcs):Orb (nsN pcs) (nxN pcs) c d↔pcN pcs c=pcN pcs d:=by
  constructor
  · intro h
    exact Orb.sub (E:=fun a b=>pcN pcs a=pcN pcs b) ⟨fun _=>rfl,fun h=>h.symm,fun h g=>h.trans g⟩ nx_pr (fun c hc=>(nx_pc hc).symm) h
  · obtain ⟨q,j,h1,h2,rfl⟩:=off_loc hc
    obtain ⟨q',j',h3,h4,rfl⟩:=off_loc hd
    rw [pc_at h1 h2,pc_at h3 h4]
    rintro rfl
    refine Or.inr ⟨hc,hd,ksN pcs q+j'-j,?_⟩
    rw [nx_it h1 h2,show j+(ksN pcs q+j'-j)=j'+ksN pcs q by omega,Nat.add_mod_right,Nat.mod_eq_of_lt h4]
theorem nx_cls (hk:∀q,q<pcs.length→0<ksN pcs q):nCls (Orb (nsN pcs) (nxN pcs)) (nsN pcs)=pcs.length:=by
  have hat:∀q,q<pcs.length→offN pcs q<nsN pcs:=fun q hq=>off_lt (j:=0) hq (hk q hq)
  have hr:Reps (Orb (nsN pcs) (nxN pcs)) (nsN pcs) ((List.range pcs.length).map (offN pcs)):=by
    refine ⟨?_,?_,?_⟩
    · intro r hr
      obtain ⟨q,hq,rfl⟩:=List.mem_map.1 hr
      exact hat q (List.mem_range.1 hq)
    · rw [List.pairwise_map]
      refine List.pairwise_lt_range.imp_of_mem ?_
      intro a b ha hb hlt he
      have ha:=List.mem_range.1 ha
      have hb:=List.mem_range.1 hb
      have:=(nx_orb (hat a ha) (hat b hb)).1 he
      have e1:=pc_at (j:=0) ha (hk a ha)
      have e2:=pc_at (j:=0) hb (hk b hb)
      rw [Nat.add_zero] at e1 e2
      omega
    · intro c hc
      refine ⟨_,List.mem_map.2 ⟨pcN pcs c,List.mem_range.2 (pc_lt hc),rfl⟩,?_⟩
      have hp:=pc_lt hc
      rw [nx_orb hc (hat _ hp)]
      have e1:=pc_at (j:=0) hp (hk _ hp)
      rw [Nat.add_zero] at e1
      exact e1.symm
  rw [←hr.len nx_pr.eqv];simp
theorem sum_range_succ {g:Nat→Int}{n:Nat}:((List.range (n+1)).map g).sum=((List.range n).map g).sum+g n:=by
  rw [List.range_succ,List.map_append,List.sum_append];simp
theorem sum_split {g:Nat→Int}{n m:Nat}:((List.range (n+m)).map g).sum=((List.range n).map g).sum+((List.range m).map fun j=>g (n+j)).sum:=by
  induction m with
  | zero=>simp
  | succ m ih=>rw [←Nat.add_assoc,sum_range_succ,sum_range_succ,ih];omega
theorem sum_getD {l:List Int}:((List.range l.length).map fun j=>l.getD j 0).sum=l.sum:=by
  have:((List.range l.length).map fun j=>l.getD j 0)=l:=by
    apply List.ext_getElem (by simp)
    intro i h1 h2
    simp [List.getD_eq_getElem?_getD,h2]
  rw [this]
theorem ang_upto (ha:∀q,q<pcs.length→(pcs.getD q default).a.length=ksN pcs q∧(pcs.getD q default).a.sum=180*((ksN pcs q:Int)-2)):∀{p:Nat},p≤pcs.length→((List.range (offN pcs p)).map (anN pcs)).sum=180*(offN pcs p:Int)-360*(p:Int)
  | 0,_=>by simp [offN]
  | p + 1,hp=>by
    rw [off_step,sum_split,ang_upto ha (p:=p) (by omega)]
    have e:((List.range (ksN pcs p)).map fun j=>anN pcs (offN pcs p+j))=(List.range (ksN pcs p)).map fun j=>(pcs.getD p default).a.getD j 0:=by
      refine List.map_congr_left fun j hj => ?_
      rw [an_at (by omega) (List.mem_range.1 hj)]
    obtain ⟨h1,h2⟩:=ha p (by omega)
    rw [e,←h1,sum_getD,h2,h1];omega
theorem ang_all (ha:∀q,q<pcs.length→(pcs.getD q default).a.length=ksN pcs q∧(pcs.getD q default).a.sum=180*((ksN pcs q:Int)-2)):((List.range (nsN pcs)).map (anN pcs)).sum=180*(nsN pcs:Int)-360*(pcs.length:Int):=ang_upto ha (Nat.le_refl _)
def sdOk (pcs:List Pc)(a i:Int):Bool:=decide (0≤a∧a<pcs.length)&&decide (0≤i∧i<ksN pcs a.toNat)
def prS (pcs:List Pc)(s:Sm):Nat×Nat:=(offN pcs s.A.toNat+s.I.toNat,offN pcs s.B.toNat+s.J.toNat)
def prL (pcs:List Pc)(l:List Sm):List (Nat×Nat):=(l.map (prS pcs)).reverse
def usesB (s:Sm)(a i:Int):Bool:=(decide (s.A=a)&&decide (s.I=i))||(decide (s.B=a)&&decide (s.J=i))
def seamE (pcs:List Pc)(ease:Int)(pre:List Sm)(s:Sm):Int :=
  if !(sdOk pcs s.A s.I&&sdOk pcs s.B s.J) then 5 else
  if (decide (s.A=s.B)&&decide (s.I=s.J))||pre.any (fun t=>usesB t s.A s.I||usesB t s.B s.J) then 7 else
  if ease<(pcs.getD s.A.toNat default).s.getD s.I.toNat 0-(pcs.getD s.B.toNat default).s.getD s.J.toNat 0∨ease < -((pcs.getD s.A.toNat default).s.getD s.I.toNat 0-(pcs.getD s.B.toNat default).s.getD s.J.toNat 0) then 8 else 0
def seamsE (pcs:List Pc)(ease:Int)(sm:List Sm):Nat→Nat→Int
  | 0,_=>0
  | k+1,i=>if seamE pcs ease (sm.take i) (sm.getD i default)=0 then seamsE pcs ease sm k (i+1) else seamE pcs ease (sm.take i) (sm.getD i default)
def allAt (p:Nat→Bool)(n:Nat):Bool:=(List.range n).all p
def pieceB (p:Pc):Bool:=decide (3≤p.s.length∧p.s.length≤6)&&(decide (p.a.length=p.s.length)&&((List.range p.s.length).all (fun i=>decide ((1≤p.s.getD i 0∧p.s.getD i 0≤200)∧(1≤p.a.getD i 0∧p.a.getD i 0≤359)))&&decide (p.a.sum=180*((p.s.length:Int)-2))))
structure Cp where
  P:List Pc
  S:List Sm
  e:Int
  deriving Inhabited
def capE (c:Cp):Int :=
  if c.P.length<1∨8<c.P.length then 4 else
  if c.e<0∨5<c.e then 1 else
  if !((List.range c.P.length).all fun q=>pieceB (c.P.getD q default)) then 1 else
  seamsE c.P c.e c.S c.S.length 0
structure CapOk (c:Cp):Prop where
  np:1≤c.P.length∧c.P.length≤8
  pc:∀q,q<c.P.length→pieceB (c.P.getD q default)=true
  e:0≤c.e∧c.e≤5
  sm:∀i,i<c.S.length→seamE c.P c.e (c.S.take i) (c.S.getD i default)=0
theorem seams_all {ease:Int} {sm:List Sm}:∀{k i:Nat},seamsE pcs ease sm k i=0↔∀t,i≤t→t<i+k→seamE pcs ease (sm.take t) (sm.getD t default)=0
  | 0,i=>by simp [seamsE];intro t h1 h2;omega
  | k + 1,i=>by
    simp only [seamsE]
    split
    · rename_i h
      rw [seams_all]
      constructor
      · intro g t h1 h2
        by_cases e:t=i
        · subst e;exact h
        · exact g t (by omega) (by omega)
      · intro g t h1 h2;exact g t (by omega) (by omega)
    · rename_i h
      constructor
      · intro g;exact absurd g h
      · intro g;exact absurd (g i (Nat.le_refl _) (by omega)) h
theorem capE_ok {c:Cp}:capE c=0↔CapOk c:=by
  unfold capE
  split
  · rename_i h;exact ⟨fun g=>by omega,fun g=>by have:=g.np;omega⟩
  rename_i h1
  split
  · rename_i h;exact ⟨fun g=>by omega,fun g=>by have:=g.e;omega⟩
  rename_i h2
  split
  · rename_i h
    refine ⟨fun g=>by omega,fun g => ?_⟩
    have:((List.range c.P.length).all fun q=>pieceB (c.P.getD q default))=true:=by
      rw [List.all_eq_true];intro q hq;exact g.pc q (List.mem_range.1 hq)
    rw [this] at h;cases h
  rename_i h3
  have h3:((List.range c.P.length).all fun q=>pieceB (c.P.getD q default))=true:=by simpa using h3
  rw [List.all_eq_true] at h3
  rw [seams_all]
  exact ⟨fun g=>⟨by omega,fun q hq=>h3 q (List.mem_range.2 hq),by omega,fun i hi=>g i (Nat.zero_le _) (by omega)⟩,fun g t _ h=>g.sm t (by omega)⟩
theorem piece_ok {p:Pc}(h:pieceB p=true):(3≤p.s.length∧p.s.length≤6)∧p.a.length=p.s.length∧(∀i,i<p.s.length→(1≤p.s.getD i 0∧p.s.getD i 0≤200)∧(1≤p.a.getD i 0∧p.a.getD i 0≤359))∧p.a.sum=180*((p.s.length:Int)-2):=by
  simp only [pieceB,Bool.and_eq_true,decide_eq_true_eq,List.all_eq_true,List.mem_range] at h
  exact h
theorem seam_ok {ease:Int}{pre:List Sm}{s:Sm}(h:seamE pcs ease pre s=0):(sdOk pcs s.A s.I=true∧sdOk pcs s.B s.J=true)∧¬(s.A=s.B∧s.I=s.J)∧(∀t∈pre,usesB t s.A s.I=false∧usesB t s.B s.J=false)∧((pcs.getD s.A.toNat default).s.getD s.I.toNat 0-(pcs.getD s.B.toNat default).s.getD s.J.toNat 0≤ease∧-((pcs.getD s.A.toNat default).s.getD s.I.toNat 0-(pcs.getD s.B.toNat default).s.getD s.J.toNat 0)≤ease):=by
  unfold seamE at h
  split at h
  · omega
  rename_i h1
  split at h
  · omega
  rename_i h2
  split at h
  · omega
  rename_i h3
  have h1:(sdOk pcs s.A s.I&&sdOk pcs s.B s.J)=true:=by simpa using h1
  rw [Bool.and_eq_true] at h1
  have h2:=Bool.eq_false_iff.2 h2
  rw [Bool.or_eq_false_iff,Bool.and_eq_false_iff] at h2
  refine ⟨h1,?_,?_,by omega⟩
  · rintro ⟨e1,e2⟩
    rcases h2.1 with g | g<;>simp [e1,e2] at g
  · intro t ht
    have g:(pre.any fun t=>usesB t s.A s.I||usesB t s.B s.J)=false:=h2.2
    rw [List.any_eq_false] at g
    have:=g t ht
    simpa using this
theorem sd_ok {a i:Int}(h:sdOk pcs a i=true):a.toNat<pcs.length∧i.toNat<ksN pcs a.toNat∧(a.toNat:Int)=a∧(i.toNat:Int)=i:=by
  simp only [sdOk,Bool.and_eq_true,decide_eq_true_eq] at h
  omega
theorem CapOk.ks {c:Cp}(h:CapOk c){q:Nat}(hq:q<c.P.length):3≤ksN c.P q∧ksN c.P q≤6:=(piece_ok (h.pc q hq)).1
theorem CapOk.cls {c:Cp}(h:CapOk c):nCls (Orb (nsN c.P) (nxN c.P)) (nsN c.P)=c.P.length:=nx_cls fun q hq=>by have:=h.ks hq;omega
theorem off_six {pcs:List Pc}:∀{p:Nat},(∀q,q<p→ksN pcs q≤6)→offN pcs p≤p*6
  | 0,_=>by simp [offN]
  | p+1,h=>by
    have h1:=off_six (p:=p) fun q hq=>h q (by omega)
    have h2:=h p (by omega)
    rw [off_step];omega
theorem CapOk.ns {c:Cp}(h:CapOk c):nsN c.P≤48:=by
  have h1:=off_six (pcs:=c.P) (p:=c.P.length) fun q hq=>(h.ks hq).2
  have h2:=h.np
  unfold nsN;omega
theorem seams_ok {c:Cp} (h:CapOk c):∀{n:Nat},n≤c.S.length→SmOk (nsN c.P) (prL c.P (c.S.take n))
  | 0,_=>by simpa [prL] using SmOk.nil
  | n + 1,hn=>by
    have ih:=seams_ok h (n:=n) (by omega)
    have ht:c.S.take (n+1)=c.S.take n++[c.S.getD n default]:=by
      rw [List.take_add_one,List.getElem?_eq_getElem (by omega),List.getD_eq_getElem?_getD,List.getElem?_eq_getElem (by omega)]
      rfl
    obtain ⟨⟨g1,g2⟩,g3,g4,g5⟩:=seam_ok (h.sm n (by omega))
    obtain ⟨a1,a2,a3,a4⟩:=sd_ok g1
    obtain ⟨b1,b2,b3,b4⟩:=sd_ok g2
    have e:prL c.P (c.S.take (n+1))=prS c.P (c.S.getD n default) :: prL c.P (c.S.take n):=by
      rw [ht,prL,List.map_append,List.reverse_append];rfl
    rw [e]
    refine .cons ih (off_lt a1 a2) (off_lt b1 b2) (fun e => ?_) fun t ht => ?_
    · obtain ⟨e1,e2⟩:=off_inj a2 b2 e
      exact g3 ⟨by omega,by omega⟩
    · obtain ⟨u,hu,rfl⟩:=List.mem_map.1 (List.mem_reverse.1 ht)
      obtain ⟨x1,x2⟩:=g4 u hu
      have hus:sdOk c.P u.A u.I=true∧sdOk c.P u.B u.J=true:=by
        obtain ⟨k,hk,hk2⟩:=List.getElem_of_mem hu
        have hkn:k<n:=by rw [List.length_take] at hk;omega
        have:=h.sm k (by omega)
        have e:c.S.getD k default=u:=by
          rw [←hk2,List.getElem_take,List.getD_eq_getElem?_getD,List.getElem?_eq_getElem (by omega)];rfl
        rw [e] at this
        exact (seam_ok this).1
      obtain ⟨c1,c2,c3,c4⟩:=sd_ok hus.1
      obtain ⟨d1,d2,d3,d4⟩:=sd_ok hus.2
      simp only [usesB,Bool.or_eq_false_iff,Bool.and_eq_false_iff,decide_eq_false_iff_not] at x1 x2
      refine ⟨fun e => ?_,fun e => ?_,fun e => ?_,fun e => ?_⟩
      · obtain ⟨e1,e2⟩:=off_inj c2 a2 e
        rcases x1.1 with g | g<;>exact g (by omega)
      · obtain ⟨e1,e2⟩:=off_inj c2 b2 e
        rcases x2.1 with g | g<;>exact g (by omega)
      · obtain ⟨e1,e2⟩:=off_inj d2 a2 e
        rcases x1.2 with g | g<;>exact g (by omega)
      · obtain ⟨e1,e2⟩:=off_inj d2 b2 e
        rcases x2.2 with g | g<;>exact g (by omega)
end
end Go.Proofs.Ytclghkegfpcdpaa.Vm
namespace Go.Proofs.Ytclghkegfpcdpaa.Vm
set_option linter.unusedVariables false
set_option linter.unusedSimpArgs false
attribute [-simp] List.getD_eq_getElem?_getD
structure Ptt where
  cs:List Nat
  inn:Bool
  ang:Int
  df:Int
  deriving Inhabited
def lsN (c:Cp):List (Nat×Nat):=prL c.P c.S
def PtR (c:Cp):Nat→Nat→Prop:=ptE (nsN c.P) (nxN c.P) (lsN c)
def nuP (c:Cp):Nat→Nat:=nuN (nxN c.P) (lsN c)
open Classical in
noncomputable def innB (c:Cp)(k:Nat):Bool:=decide (InnN (nsN c.P) (nxN c.P) (lsN c) k)
noncomputable def ptOf (c:Cp)(k:Nat):Ptt :=
  ⟨memE (PtR c) (nsN c.P) k,innB c k,((memE (PtR c) (nsN c.P) k).map (anN c.P)).sum,(if innB c k then 360 else 180)-((memE (PtR c) (nsN c.P) k).map (anN c.P)).sum⟩
noncomputable def ptsP (c:Cp):List Ptt:=(minsE (PtR c) (nsN c.P)).map (ptOf c)
noncomputable def missP (c:Cp):Int:=((ptsP c).map (·.df)).sum
noncomputable def eulP (c:Cp):Int:=((ptsP c).length:Int)-((nsN c.P:Int)-(c.S.length:Int))+(c.P.length:Int)
noncomputable def partP (c:Cp):Nat:=nCls (prtE (pcN c.P) (lsN c)) c.P.length
noncomputable def loopP (c:Cp):List (List Nat):=loopsN (nsN c.P) (nxN c.P) (lsN c)
noncomputable def cycP (c:Cp):Nat:=nCls (Orb (nsN c.P) (nuP c)) (nsN c.P)
noncomputable def handP (c:Cp):Int:=(2*(partP c:Int)-eulP c-((loopP c).length:Int)).tdiv 2
noncomputable def hairP (c:Cp):List Int:=(loopP c).map fun l=>(l.map (lnN c.P)).sum
section
variable {c:Cp}
theorem CapOk.sm_ok (h:CapOk c):SmOk (nsN c.P) (lsN c):=by
  have:=seams_ok h (Nat.le_refl c.S.length)
  rwa [List.take_length] at this
theorem ls_len:(lsN c).length=c.S.length:=by simp [lsN,prL]
theorem CapOk.nu (h:CapOk c):PrN (nsN c.P) (nuP c):=nu_pr nx_pr h.sm_ok
theorem CapOk.ptE (h:CapOk c):Eqv (PtR c):=ptE_eqv h.nu
theorem perm_sum {l m:List Int}(h:l.Perm m):l.sum=m.sum:=by
  induction h with
  | nil=>rfl
  | cons x _ ih=>simp [ih]
  | swap x y l=>simp;omega
  | trans _ _ ih1 ih2=>rw [ih1,ih2]
theorem sum_flat {g:Nat→Int}:∀{l:List (List Nat)},((l.flatten).map g).sum=(l.map fun x=>(x.map g).sum).sum
  | []=>rfl
  | x :: l=>by
    rw [List.flatten_cons,List.map_append,List.sum_append,sum_flat];rfl
theorem sum_sub {α:Type}{f g:α→Int}:∀{l:List α},(l.map fun x=>f x-g x).sum=(l.map f).sum-(l.map g).sum
  | []=>rfl
  | x :: l=>by simp only [List.map_cons,List.sum_cons,sum_sub (l:=l)];omega
theorem sum_const {α:Type}{k:Int}:∀{l:List α},(l.map fun _=>k).sum=k*l.length
  | []=>by simp
  | x :: l=>by simp only [List.map_cons,List.sum_cons,sum_const (l:=l),List.length_cons];rw [Int.natCast_add,Int.mul_add];omega
theorem pts_len (h:CapOk c):(ptsP c).length+2*c.S.length=(innMins (nsN c.P) (nxN c.P) (lsN c)).length+nsN c.P:=by
  have h1:=pts_count h.nu
  have h2:=frees_len h.sm_ok
  rw [ls_len] at h2
  rw [ptsP,List.length_map]
  show nCls (PtR c) (nsN c.P)+_=_
  unfold PtR
  omega
theorem miss_euler (h:CapOk c):missP c=360*eulP c:=by
  have hw:=(Reps.mins (N:=nsN c.P) h.ptE).weigh h.ptE (reps_free h.nu) (α:=Int) (w:=fun k=>if innB c k=true then (360:Int) else 180) (fun a b _ _ he=>by
    have:innB c a=innB c b:=by
      simp only [innB,decide_eq_decide];exact InnN.iff h.nu he
    simp only [this])
  have hs:((minsE (PtR c) (nsN c.P)).map fun k=>if innB c k=true then (360:Int) else 180).sum=360*((innMins (nsN c.P) (nxN c.P) (lsN c)).length:Int)+180*((freesN (lsN c) (nsN c.P)).length:Int):=by
    rw [perm_sum hw,List.map_append,List.sum_append]
    congr 1
    · rw [←sum_const (l:=innMins (nsN c.P) (nxN c.P) (lsN c))]
      congr 1
      refine List.map_congr_left fun k hk => ?_
      have:innB c k=true:=by simp only [innB,decide_eq_true_eq];exact (mem_inn.1 hk).2
      rw [if_pos this]
    · rw [←sum_const (l:=freesN (lsN c) (nsN c.P))]
      congr 1
      refine List.map_congr_left fun k hk => ?_
      have:innB c k≠true:=by
        simp only [innB,decide_eq_true_eq,ne_eq]
        intro hi
        exact hi k (Or.inl rfl) (freeN_iff.1 (mem_frees.1 hk).2)
      rw [if_neg this]
  have ha:((minsE (PtR c) (nsN c.P)).map fun k=>((memE (PtR c) (nsN c.P) k).map (anN c.P)).sum).sum=180*(nsN c.P:Int)-360*(c.P.length:Int):=by
    rw [←ang_all (pcs:=c.P) (fun q hq=>⟨(piece_ok (h.pc q hq)).2.1,(piece_ok (h.pc q hq)).2.2.2⟩),←perm_sum ((flat_reps h.ptE (Reps.mins (N:=nsN c.P) h.ptE)).map (anN c.P)),sum_flat,List.map_map]
    rfl
  have hm:missP c=((minsE (PtR c) (nsN c.P)).map fun k=>(if innB c k=true then (360:Int) else 180)-((memE (PtR c) (nsN c.P) k).map (anN c.P)).sum).sum:=by
    rw [missP,ptsP,List.map_map];rfl
  rw [hm,sum_sub,hs,ha,eulP]
  have h1:=pts_len h
  have h2:=frees_len h.sm_ok
  rw [ls_len] at h2
  omega
theorem cyc_eq (h:CapOk c):cycP c=(innMins (nsN c.P) (nxN c.P) (lsN c)).length+(loopP c).length:=by
  rw [loopP,loopsN,List.length_map]
  exact orb_count h.nu
theorem handles_ex (h:CapOk c):∃g:Nat,2*(partP c:Int)-eulP c-((loopP c).length:Int)=2*g∧handP c=g∧2*partP c+c.S.length=c.P.length+cycP c+2*g:=by
  obtain ⟨g,hg⟩:=genus (P:=c.P.length) (pc:=pcN c.P) nx_pr (fun k hk=>nx_pc hk) (fun k hk=>pc_lt hk) h.cls h.sm_ok
  rw [ls_len] at hg
  have hg:2*partP c+c.S.length=c.P.length+cycP c+2*g:=hg
  have h1:=pts_len h
  have h2:=cyc_eq h
  have e:2*(partP c:Int)-eulP c-((loopP c).length:Int)=2*g:=by
    rw [eulP];omega
  refine ⟨g,e,?_,hg⟩
  rw [handP,e];exact Int.mul_tdiv_cancel_left _ (by omega)
theorem asc_uniq {α:Type} {key:α→Int}:∀{l m:List α},l.Perm m→(l.Pairwise fun a b=>key a<key b)→(m.Pairwise fun a b=>key a<key b)→l=m
  | [],m,hp,_,_=>by rw [List.nil_perm.1 hp]
  | a :: l,[],hp,_,_=>by simp at hp
  | a :: l,b :: m,hp,hl,hm=>by
    rw [List.pairwise_cons] at hl hm
    have e:a=b:=by
      have h1:a∈b :: m:=hp.mem_iff.1 (by simp)
      have h2:b∈a :: l:=hp.mem_iff.2 (by simp)
      rcases List.mem_cons.1 h1 with h1 | h1
      · exact h1
      · rcases List.mem_cons.1 h2 with h2 | h2
        · exact h2.symm
        · have:=hl.1 b h2
          have:=hm.1 a h1
          omega
    subst e
    rw [asc_uniq (List.Perm.cons_inv hp) hl.2 hm.2]
theorem mem_first (h:CapOk c){k:Nat}(hk:k∈minsE (PtR c) (nsN c.P)):(memE (PtR c) (nsN c.P) k).getD 0 0=k∧0<(memE (PtR c) (nsN c.P) k).length:=by
  obtain ⟨h1,h2⟩:=mem_mins.1 hk
  have hm:k∈memE (PtR c) (nsN c.P) k:=mem_memE.2 ⟨h1,h.ptE.rf k⟩
  have hasc:=memE_asc (E:=PtR c) (N:=nsN c.P) (c:=k)
  cases hl:memE (PtR c) (nsN c.P) k with
  | nil=>rw [hl] at hm;cases hm
  | cons x l =>
    refine ⟨?_,by simp⟩
    show x=k
    rw [hl] at hm hasc
    rcases List.mem_cons.1 hm with e | e
    · exact e.symm
    · have:=(List.pairwise_cons.1 hasc).1 k e
      have hx:x∈memE (PtR c) (nsN c.P) k:=by rw [hl];simp
      exact absurd (mem_memE.1 hx).2 (h2 x this)
end
end Go.Proofs.Ytclghkegfpcdpaa.Vm
namespace Go.Proofs.Ytclghkegfpcdpaa.Vm
set_option linter.unusedVariables false
set_option linter.unusedSimpArgs false
attribute [-simp] List.getD_eq_getElem?_getD
section
variable {N:Nat}{nx pc:Nat→Nat}{L:List (Nat×Nat)}
structure FReps (N:Nat)(nx:Nat→Nat)(L:List (Nat×Nat))(R:List Nat):Prop where
  lt:∀r,r∈R→r<N∧alf L r=r
  dis:R.Pairwise fun a b=>¬Orb N (nuN nx L) a b
  cov:∀c,c<N→alf L c=c→∃r,r∈R∧Orb N (nuN nx L) c r
theorem FReps.reps (hp:PrN N (nuN nx L)) {R:List Nat} (h:FReps N nx L R):Reps (Orb N (sgN N nx L)) N (R++(List.range N).filter fun c => !freeN L c) where
  lt:=fun r hr=>by
    rcases List.mem_append.1 hr with g | g
    · exact (h.lt r g).1
    · exact List.mem_range.1 (List.mem_filter.1 g).1
  dis := by
    rw [List.pairwise_append]
    refine ⟨h.dis.imp fun hne he=>hne (sg_sub hp he),?_,?_⟩
    · have:((List.range N).filter fun c => !freeN L c).Nodup:=List.Nodup.sublist List.filter_sublist List.nodup_range
      refine this.imp_of_mem ?_
      intro a b ha hb hne he
      rcases he with e | ⟨_,_,k,hk⟩
      · exact hne e
      · have hf:¬alf L a=a:=by
          have:=(List.mem_filter.1 ha).2
          simpa [freeN] using this
        have:∀k,itN (sgN N nx L) k a=a:=by
          intro k
          induction k with
          | zero=>rfl
          | succ k ih=>simp only [itN];rw [ih];simp [sgN,hf]
        rw [this] at hk
        exact hne hk
    · intro a ha b hb he
      have hf:=sg_stays hp (h.lt a ha).2 he
      have:=(List.mem_filter.1 hb).2
      simp [freeN,hf] at this
  cov := fun c hc=>by
    by_cases hf:alf L c=c
    · obtain ⟨r,h1,h2⟩:=h.cov c hc hf
      exact ⟨r,List.mem_append_left _ h1,(sg_iff hp hf (h.lt r h1).2).2 h2⟩
    · exact ⟨c,List.mem_append_right _ (List.mem_filter.2 ⟨List.mem_range.2 hc,by simp [freeN,hf]⟩),Or.inl rfl⟩
theorem FReps.weigh (hp:PrN N (nuN nx L)){R S:List Nat}(hr:FReps N nx L R)(hs:FReps N nx L S){α:Type}{w:Nat→α}(hw:∀c d,c<N→d<N→Orb N (sgN N nx L) c d→w c=w d):(R.map w).Perm (S.map w):=by
  have:=(hr.reps hp).weigh (sg_pr hp).eqv (hs.reps hp) hw
  rw [List.map_append,List.map_append] at this
  exact (List.perm_append_right_iff _).1 this
theorem prtE_in:∀{L:List (Nat×Nat)} {t:Nat×Nat},t∈L→prtE pc L (pc t.1) (pc t.2)
  | s :: L,t,h=>by
    rcases List.mem_cons.1 h with e | e
    · subst e;exact Or.inr (Or.inl ⟨prtE_eqv.rf _,prtE_eqv.rf _⟩)
    · exact prtE_more (prtE_in e)
theorem prtE_sub {F:Nat→Nat→Prop}(hF:Eqv F):∀{L:List (Nat×Nat)},(∀t,t∈L→F (pc t.1) (pc t.2))→∀{a b},prtE pc L a b→F a b
  | [],_,a,b,h=>by
    have:a=b:=h
    subst this;exact hF.rf _
  | s :: L,hs,a,b,h=>by
    have ih:=fun {a b}=>prtE_sub hF (L:=L) (fun t ht=>hs t (List.mem_cons_of_mem _ ht)) (a:=a) (b:=b)
    have h0:=hs s (by simp)
    rcases h with h | ⟨h1,h2⟩ | ⟨h1,h2⟩
    · exact ih h
    · exact hF.tr (ih h1) (hF.tr h0 (ih h2))
    · exact hF.tr (ih h1) (hF.tr (hF.sy h0) (ih h2))
end
structure SplR (N:Nat)(nx pc:Nat→Nat)(L:List (Nat×Nat))(N':Nat)(nx' pc':Nat→Nat)(L':List (Nat×Nat))(g:Nat→Nat)(d1 d2 ii jj:Nat):Prop where
  hn:PrN N nx
  hl:SmOk N L
  hn':PrN N' nx'
  hl':SmOk N' L'
  glt:∀x,x<N→g x<N'∧g x≠d1∧g x≠d2
  ginj:∀x y,x<N→y<N→g x=g y→x=y
  gcov:∀y,y<N'→y=d1∨y=d2∨∃x,x<N∧y=g x
  dlt:d1<N'∧d2<N'∧d1≠d2
  ij:ii<N∧jj<N∧ii≠jj
  nxg:∀x,x<N→(nx x=jj∧nx' (g x)=d1)∨(nx x=ii∧nx' (g x)=d2)∨(nx x≠ii∧nx x≠jj∧nx' (g x)=g (nx x))
  nx1:nx' d1=g ii
  nx2:nx' d2=g jj
  lg:L'=(d1,d2) :: L.map fun s=>(g s.1,g s.2)
section
variable {N N':Nat}{nx pc nx' pc' g:Nat→Nat}{L L':List (Nat×Nat)}{d1 d2 ii jj:Nat}
theorem alf_map (hgi:∀x y,x<N→y<N→g x=g y→x=y):∀{L:List (Nat×Nat)},SmOk N L→∀{c},c<N→alf (L.map fun s=>(g s.1,g s.2)) (g c)=g (alf L c)
  | [],_,c,_=>rfl
  | s :: L,h,c,hc=>by
    cases h with
    | cons h h1 h2 h3 h4 =>
      simp only [List.map_cons,alf]
      have:swN (g s.1) (g s.2) (g c)=g (swN s.1 s.2 c):=by
        by_cases e1:c=s.1
        · subst e1;rw [swN_a,swN_a]
        · by_cases e2:c=s.2
          · subst e2;rw [swN_b,swN_b]
          · rw [swN_o e1 e2,swN_o (fun e=>e1 (hgi _ _ hc h1 e)) (fun e=>e2 (hgi _ _ hc h2 e))]
      rw [this]
      exact alf_map hgi h (swN_lt h1 h2 hc)
variable (S:SplR N nx pc L N' nx' pc' L' g d1 d2 ii jj)
include S
theorem SplR.alfg {c:Nat}(hc:c<N):alf L' (g c)=g (alf L c):=by
  have h:=S.hl'
  rw [S.lg] at h ⊢
  rw [alf_cons h,if_neg (S.glt c hc).2.1,if_neg (S.glt c hc).2.2]
  exact alf_map S.ginj S.hl hc
theorem SplR.alf1:alf L' d1=d2:=by
  have h:=S.hl'
  rw [S.lg] at h ⊢
  rw [alf_cons h,if_pos rfl]
theorem SplR.alf2:alf L' d2=d1:=by
  have h:=S.hl'
  rw [S.lg] at h ⊢
  rw [alf_cons h,if_neg (fun e=>S.dlt.2.2 e.symm),if_pos rfl]
theorem SplR.nu:PrN N (nuN nx L):=nu_pr S.hn S.hl
theorem SplR.nu':PrN N' (nuN nx' L'):=nu_pr S.hn' S.hl'
theorem SplR.nug {c:Nat}(hc:c<N):(nuN nx L c=jj∧nuN nx' L' (g c)=d1)∨(nuN nx L c=ii∧nuN nx' L' (g c)=d2)∨(nuN nx L c≠ii∧nuN nx L c≠jj∧nuN nx' L' (g c)=g (nuN nx L c)):=by
  have:=S.nxg (alf L c) (S.hl.pr.lt c hc)
  simp only [nuN,S.alfg hc]
  exact this
theorem SplR.nu1:nuN nx' L' d1=g jj:=by rw [nuN,S.alf1,S.nx2]
theorem SplR.nu2:nuN nx' L' d2=g ii:=by rw [nuN,S.alf2,S.nx1]
theorem SplR.step {c:Nat}(hc:c<N):Orb N' (nuN nx' L') (g c) (g (nuN nx L c)):=by
  have h0:=S.nu'.one (S.glt c hc).1
  rcases S.nug hc with ⟨h1,h2⟩ | ⟨h1,h2⟩ | ⟨_,_,h2⟩
  · rw [h2] at h0
    have:=S.nu'.one S.dlt.1
    rw [S.nu1,←h1] at this
    exact S.nu'.eqv.tr h0 this
  · rw [h2] at h0
    have:=S.nu'.one S.dlt.2.1
    rw [S.nu2,←h1] at this
    exact S.nu'.eqv.tr h0 this
  · rw [h2] at h0;exact h0
theorem SplR.up {c d:Nat}(h:Orb N (nuN nx L) c d):Orb N' (nuN nx' L') (g c) (g d) :=
  Orb.sub (E:=fun a b=>Orb N' (nuN nx' L') (g a) (g b)) ⟨fun _=>S.nu'.eqv.rf _,fun h=>S.nu'.eqv.sy h,fun h k=>S.nu'.eqv.tr h k⟩ S.nu (fun c hc=>S.step hc) h
theorem SplR.back:∃p:Nat→Nat,(∀x,x<N→p (g x)=x)∧p d1=jj∧p d2=ii∧∀y,y<N'→p y<N:=by
  have key:∀y,∃x,(∀z,z<N→y=g z→x=z)∧(y=d1→x=jj)∧(y=d2→x=ii)∧(y<N'→x<N):=by
    intro y
    by_cases e1:y=d1
    · subst e1
      exact ⟨jj,fun z hz e=>absurd e.symm (S.glt z hz).2.1,fun _=>rfl,fun e=>absurd e S.dlt.2.2,fun _=>S.ij.2.1⟩
    · by_cases e2:y=d2
      · subst e2
        exact ⟨ii,fun z hz e=>absurd e.symm (S.glt z hz).2.2,fun e=>absurd e.symm S.dlt.2.2,fun _=>rfl,fun _=>S.ij.1⟩
      · by_cases hx:∃x,x<N∧y=g x
        · obtain ⟨x,h1,h2⟩:=hx
          exact ⟨x,fun z hz e=>S.ginj _ _ h1 hz (h2 ▸ e),fun e=>absurd e e1,fun e=>absurd e e2,fun _=>h1⟩
        · exact ⟨0,fun z hz e=>absurd ⟨z,hz,e⟩ hx,fun e=>absurd e e1,fun e=>absurd e e2,fun hy=>by
            rcases S.gcov y hy with h | h | h
            · exact absurd h e1
            · exact absurd h e2
            · exact absurd h hx⟩
  refine ⟨fun y=>Classical.choose (key y),fun x hx => ?_,?_,?_,fun y hy => ?_⟩
  · exact (Classical.choose_spec (key (g x))).1 x hx rfl
  · exact (Classical.choose_spec (key d1)).2.1 rfl
  · exact (Classical.choose_spec (key d2)).2.2.1 rfl
  · exact (Classical.choose_spec (key y)).2.2.2 hy
theorem SplR.down {c d:Nat}(hc:c<N)(hd:d<N)(h:Orb N' (nuN nx' L') (g c) (g d)):Orb N (nuN nx L) c d:=by
  obtain ⟨p,p1,p2,p3,p4⟩:=S.back
  have:=Orb.sub (E:=fun a b=>Orb N (nuN nx L) (p a) (p b)) ⟨fun _=>S.nu.eqv.rf _,fun h=>S.nu.eqv.sy h,fun h k=>S.nu.eqv.tr h k⟩ S.nu' (fun y hy=>by
    show Orb N (nuN nx L) (p y) (p (nuN nx' L' y))
    rcases S.gcov y hy with e | e | ⟨x,hx,e⟩
    · subst e;rw [S.nu1,p2,p1 _ S.ij.2.1];exact Or.inl rfl
    · subst e;rw [S.nu2,p3,p1 _ S.ij.1];exact Or.inl rfl
    · subst e
      rw [p1 x hx]
      have h0:=S.nu.one hx
      rcases S.nug hx with ⟨h1,h2⟩ | ⟨h1,h2⟩ | ⟨_,_,h2⟩
      · rw [h2,p2,←h1];exact h0
      · rw [h2,p3,←h1];exact h0
      · rw [h2,p1 _ (S.nu.lt x hx)];exact h0) h
  simp only [p1 c hc,p1 d hd] at this
  exact this
theorem SplR.orb {c d:Nat}(hc:c<N)(hd:d<N):Orb N' (nuN nx' L') (g c) (g d)↔Orb N (nuN nx L) c d:=⟨S.down hc hd,S.up⟩
theorem SplR.near {y:Nat}(hy:y<N'):∃x,x<N∧Orb N' (nuN nx' L') y (g x):=by
  rcases S.gcov y hy with e | e | ⟨x,hx,e⟩
  · subst e
    have:=S.nu'.one S.dlt.1
    rw [S.nu1] at this
    exact ⟨jj,S.ij.2.1,this⟩
  · subst e
    have:=S.nu'.one S.dlt.2.1
    rw [S.nu2] at this
    exact ⟨ii,S.ij.1,this⟩
  · subst e;exact ⟨x,hx,Or.inl rfl⟩
theorem SplR.cls:nCls (Orb N' (nuN nx' L')) N'=nCls (Orb N (nuN nx L)) N:=by
  have hm:=Reps.mins (N:=N) S.nu.eqv
  have hr:Reps (Orb N' (nuN nx' L')) N' ((minsE (Orb N (nuN nx L)) N).map g):=by
    refine ⟨?_,?_,?_⟩
    · intro r hr
      obtain ⟨x,hx,rfl⟩:=List.mem_map.1 hr
      exact (S.glt x (hm.lt x hx)).1
    · rw [List.pairwise_map]
      refine hm.dis.imp_of_mem ?_
      intro a b ha hb hne he
      exact hne (S.down (hm.lt a ha) (hm.lt b hb) he)
    · intro y hy
      obtain ⟨x,hx,ho⟩:=S.near hy
      obtain ⟨r,h1,h2⟩:=hm.cov x hx
      exact ⟨_,List.mem_map.2 ⟨r,h1,rfl⟩,S.nu'.eqv.tr ho (S.up h2)⟩
  rw [←hr.len S.nu'.eqv,List.length_map];rfl
theorem SplR.parts {P q:Nat} {ρ:Nat→Nat} (hq:q<P) (hP:∀x,x<N→pc x<P) (hpg:∀x,x<N→pc' (g x)=pc x∨(pc x=q∧pc' (g x)=P)) (h1:pc' d1=q) (h2:pc' d2=P):nCls (prtE pc' L') (P+1)=nCls (prtE pc L) P:=by
  have hL:∀t,t∈L→t.1<N∧t.2<N:=by
    have:=S.hl
    clear S
    induction this with
    | nil=>intro t ht;cases ht
    | cons h a b c d ih =>
      intro t ht
      rcases List.mem_cons.1 ht with e | e
      · subst e;exact ⟨a,b⟩
      · exact ih t e
  have hline:prtE pc' L' q P:=by
    have:=prtE_in (pc:=pc') (L:=L') (t:=(d1,d2)) (by rw [S.lg];simp)
    rwa [h1,h2] at this
  have hgp:∀x,x<N→prtE pc' L' (pc' (g x)) (pc x):=by
    intro x hx
    rcases hpg x hx with e | ⟨e1,e2⟩
    · rw [e];exact prtE_eqv.rf _
    · rw [e1,e2];exact prtE_eqv.sy hline
  have up:∀{a b},prtE pc L a b→prtE pc' L' a b:=fun {a b} h=>prtE_sub prtE_eqv (fun t ht=>by
    have hin:prtE pc' L' (pc' (g t.1)) (pc' (g t.2)):=prtE_in (t:=(g t.1,g t.2)) (by rw [S.lg];exact List.mem_cons_of_mem _ (List.mem_map.2 ⟨t,ht,rfl⟩))
    exact prtE_eqv.tr (prtE_eqv.sy (hgp _ (hL t ht).1)) (prtE_eqv.tr hin (hgp _ (hL t ht).2))) h
  have down:∀{a b},prtE pc' L' a b→prtE pc L (if a=P then q else a) (if b=P then q else b):=fun {a b} h =>
    prtE_sub (F:=fun a b=>prtE pc L (if a=P then q else a) (if b=P then q else b)) ⟨fun _=>prtE_eqv.rf _,fun h=>prtE_eqv.sy h,fun h k=>prtE_eqv.tr h k⟩ (fun t ht=>by
      show prtE pc L (if pc' t.1=P then q else pc' t.1) (if pc' t.2=P then q else pc' t.2)
      have hg:∀x,x<N→(if pc' (g x)=P then q else pc' (g x))=pc x:=by
        intro x hx
        have:=hP x hx
        rcases hpg x hx with e | ⟨e1,e2⟩
        · rw [e,if_neg (by omega)]
        · rw [e2,if_pos rfl,e1]
      rw [S.lg] at ht
      rcases List.mem_cons.1 ht with e | e
      · subst e
        show prtE pc L (if pc' d1=P then q else pc' d1) (if pc' d2=P then q else pc' d2)
        rw [h1,h2,if_neg (by omega),if_pos rfl];exact prtE_eqv.rf _
      · obtain ⟨u,hu,rfl⟩:=List.mem_map.1 e
        show prtE pc L (if pc' (g u.1)=P then q else pc' (g u.1)) (if pc' (g u.2)=P then q else pc' (g u.2))
        rw [hg _ (hL u hu).1,hg _ (hL u hu).2]
        exact prtE_in hu) h
  have hm:=Reps.mins (N:=P) (prtE_eqv (pc:=pc) (L:=L))
  have hr:Reps (prtE pc' L') (P+1) (minsE (prtE pc L) P):=by
    refine ⟨fun r hr=>by have:=hm.lt r hr;omega,?_,?_⟩
    · refine hm.dis.imp_of_mem ?_
      intro a b ha hb hne he
      have h3:=down he
      have:=hm.lt a ha
      have:=hm.lt b hb
      rw [if_neg (by omega),if_neg (by omega)] at h3
      exact hne h3
    · intro y hy
      by_cases e:y=P
      · subst e
        obtain ⟨r,a,b⟩:=hm.cov q hq
        exact ⟨r,a,prtE_eqv.tr (prtE_eqv.sy hline) (up b)⟩
      · obtain ⟨r,a,b⟩:=hm.cov y (by omega)
        exact ⟨r,a,up b⟩
  rw [←hr.len prtE_eqv];rfl
end
end Go.Proofs.Ytclghkegfpcdpaa.Vm
namespace Go.Proofs.Ytclghkegfpcdpaa.Vm
open Go
set_option maxRecDepth 100000
set_option linter.unusedSimpArgs false
set_option linter.unusedVariables false
attribute [-simp] List.getD_eq_getElem?_getD
def Sid.cells (s:Sid):List V:=[.int .i64 s.l,.int .i64 s.a,.int .i64 s.n,.int .i64 s.b,.int .i64 s.p]
def sdC:Cod Sid 5:=⟨Sid.cells,fun _=>rfl⟩
def wlk (l:List Sid)(c:Nat):Nat→Nat
  | 0=>c
  | k+1=>(l.getD (l.getD (wlk l c k) default).p.toNat default).n.toNat
structure LayOk (l:List Sid):Prop where
  n:∀i,i<l.length→0≤(l.getD i default).n∧(l.getD i default).n<l.length
  p:∀i,i<l.length→(l.getD i default).p≠-1→0≤(l.getD i default).p∧(l.getD i default).p<l.length
  len:l.length≤100000
section
variable {lim:Nat}{H:Hp}{K:V→Hp→Prop}
theorem wlk_lt {l:List Sid}(hl:LayOk l){c:Nat}(hc:c<l.length):∀{k:Nat},(∀i,i<k→(l.getD (wlk l c i) default).p≠-1)→wlk l c k<l.length
  | 0,_=>hc
  | k+1,h=>by
    have ih:=wlk_lt hl hc (k:=k) fun i hi=>h i (by omega)
    have h1:=hl.p _ ih (h k (by omega))
    have h2:=hl.n (l.getD (wlk l c k) default).p.toNat (by omega)
    simp only [wlk];omega
theorem around_walk {b bc bl c n:Nat} {lv:V} {l:List Sid} {I:Nat→Hp→Prop} (hl:LayOk l) (hc:c<l.length) (hw:∀i,i<n→(l.getD (wlk l c i) default).p≠-1∧wlk l c (i+1)≠c) (he:(l.getD (wlk l c n) default).p = -1∨wlk l c (n+1)=c)
    (hI:∀i H',I i H'→H'[bc]? = some (.row [.int .i64 c] true)∧H'[bl]? = some (.row [lv] true)∧LstV sdC H' lv l) (h0:I 0 H)
    (hs:∀i H',i≤n→I i H'→VCall tbl lim 3999999 [.yl b,.int .i64 (wlk l c i)] H' fun v H''=>v=.bool true∧I (i+1) H'') (hK:∀H',I (n+1) H'→K (.tup []) H') :
    VCall tbl lim 96 [.yl b,.ptr bc 0,.ptr bl 0] H K:=by
  refine VCall_fn tbl_at96 rfl ?_
  obtain ⟨g1,g2,g3⟩:=hI 0 H h0
  have rd0:∀x:V,rd none [x] 0=some x:=fun _=>rfl
  have rp:∀s:Sid,rd none (sdC.cells s) 4=some (.int .i64 s.p):=fun _=>rfl
  have rn:∀s:Sid,rd none (sdC.cells s) 2=some (.int .i64 s.n):=fun _=>rfl
  simp [vf96,g1,rd0]
  refine wLoop_up n (fun i fr L H'=>(fr 0=.yl b∧fr 1=.ptr bc 0∧fr 2=.ptr bl 0∧fr 4=.int .i64 (wlk l c i))∧L=[]∧I i H') ⟨by simp [wlk],rfl,h0⟩ ?_
  rintro i hi fr L H1 ⟨⟨f0,f1,f2,f4⟩,rfl,hi1⟩
  simp [f0,f1,f2,f4]
  refine (hs i H1 hi hi1).mono ?_
  rintro v H2 ⟨rfl,hi2⟩
  obtain ⟨k1,k2,k3⟩:=hI _ H2 hi2
  have hin:wlk l c i<l.length:=wlk_lt hl hc fun j hj=>(hw j (by omega)).1
  have ad:=k3.at hin
  have fa4:vfaddr 4 (ept 5 lv (wlk l c i))=some (eptf 5 lv (wlk l c i) 4):=k3.faddr hin
  have ld4:∀L,vload none L H2 (eptf 5 lv (wlk l c i) 4)=some (.int .i64 (l.getD (wlk l c i) default).p):=fun L=>k3.rd1 hin (by omega)
  simp [f0,f1,f2,f4,k1,k2,rd0,ad,fa4,ld4]
  refine cond_ndec (fun hp => ?_) fun hp => ?_
  · have hpp:=hl.p _ hin hp
    have hnn:=hl.n (l.getD (wlk l c i) default).p.toNat (by omega)
    have ep:(((l.getD (wlk l c i) default).p.toNat:Nat):Int)=(l.getD (wlk l c i) default).p:=by omega
    have en:((wlk l c (i+1):Nat):Int)=(l.getD (l.getD (wlk l c i) default).p.toNat default).n:=by simp only [wlk];omega
    have hpl:(l.getD (wlk l c i) default).p.toNat<l.length:=by omega
    have adp:=k3.at hpl
    rw [ep] at adp
    have fa2:vfaddr 2 (ept 5 lv (l.getD (wlk l c i) default).p.toNat)=some (eptf 5 lv (l.getD (wlk l c i) default).p.toNat 2):=k3.faddr hpl
    have ld2:∀L,vload none L H2 (eptf 5 lv (l.getD (wlk l c i) default).p.toNat 2)=some (.int .i64 (l.getD (l.getD (wlk l c i) default).p.toNat default).n):=fun L=>k3.rd1 hpl (by omega)
    rw [←en] at ld2
    simp [f0,f1,f2,f4,k1,k2,rd0,ad,fa4,ld4,adp,fa2,ld2]
    refine cond_dec (fun ht => ?_) fun ht => ?_
    · have ht:wlk l c (i+1)=c:=by omega
      have:i=n:=by
        rcases Nat.lt_or_ge i n with h | h
        · exact absurd ht (hw i h).2
        · omega
      subst this
      simp
      exact hK _ hi2
    · have hlt:i<n:=by
        rcases Nat.lt_or_ge i n with h | h
        · exact h
        · have e:i=n:=by omega
          subst e
          rcases he with he | he
          · exact absurd he hp
          · exact absurd (by rw [he]) ht
      simp [f0,f1,f2,f4]
      exact ⟨hlt,hi2⟩
  · have:i=n:=by
      rcases Nat.lt_or_ge i n with h | h
      · exact absurd (by simpa using hp) (hw i h).1
      · omega
    subst this
    simp
    exact hK _ hi2
end
end Go.Proofs.Ytclghkegfpcdpaa.Vm
namespace Go.Proofs.Ytclghkegfpcdpaa.Vm
open Go
set_option maxRecDepth 100000
set_option linter.unusedSimpArgs false
set_option linter.unusedVariables false
attribute [-simp] List.getD_eq_getElem?_getD
section
variable {lim:Nat}{H:Hp}{K:V→Hp→Prop}
theorem frR_set {fr:Fr}{nt p:Nat}{v:V}(hp:p<nt):frR (setPs (hideF fr nt) [p] [v])=fun t=>if t=p then v else if t<nt then (if stor (fr t) then fr t else .hid) else .hid:=by
  funext t
  simp only [frR,setPs,List.getD_eq_getElem?_getD]
  by_cases e:t=p
  · subst e
    rw [List.getElem?_set_self (by simpa [hideF] using hp)]
    simp
  · rw [List.getElem?_set_ne (fun h=>e h.symm),if_neg e]
    by_cases ht:t<nt
    · simp [hideF,ht]
    · simp [hideF,ht]
theorem st_one {X:Hp}{x y:V}(hlim:lim≤H.length):vstoreH lim (H++Blk.row [x] true :: X) H.length 0 [y]=some (H++Blk.row [y] true :: X):=by
  simp [vstoreH,hlim,splice]
theorem layout_after {c n s:Nat}{lv:V}{l:List Sid}(hv:LstV sdC H lv l)(hl:LayOk l)(hs:s<l.length)(hc:c=(l.getD s default).n.toNat)(hw:∀i,i<n→(l.getD (wlk l c i) default).p≠-1∧wlk l c (i+1)≠c)(he:(l.getD (wlk l c n) default).p = -1∨wlk l c (n+1)=c)
    (hlim:lim≤H.length) (hK:∀H',HX H H'→K (.int .i64 (wlk l c n)) H'):VCall tbl lim 92 [lv,.int .i64 s] H K:=by
  refine VCall_fn tbl_at92 rfl ?_
  have rd0:∀x:V,rd none [x] 0=some x:=fun _=>rfl
  have hn:=hl.n s hs
  have ec:(c:Int)=(l.getD s default).n:=by omega
  have ad:=hv.at hs
  have fa2:vfaddr 2 (ept 5 lv s)=some (eptf 5 lv s 2):=hv.faddr hs
  have ld2:∀L X,vload none L (H++X) (eptf 5 lv s 2)=some (.int .i64 c):=fun L X=>by rw [ec];exact (hv.mono ⟨X,rfl⟩).rd1 hs (by omega)
  simp [vf92,hv.stor,hv.one,splice,ad,fa2,ld2,st_one hlim]
  refine VCall_fn tbl_at86 rfl ?_
  simp [vf86,hv.stor,hv.one]
  generalize hg:hideF _ 18=frv
  have f5:∀v,frR (setPs frv [15] [v]) 5=.ptr H.length 0:=by
    intro v;rw [←hg,frR_set (by omega)];simp
  have f15:∀v,frR (setPs frv [15] [v]) 15=v:=by
    intro v;rw [←hg,frR_set (by omega)];simp
  have flen:18=frv.length:=by rw [←hg];simp [hideF]
  clear hg
  have hcl:c<l.length:=by omega
  refine around_walk (n:=n) (c:=c) (lv:=lv) (l:=l) (I:=fun i H'=>H'=H++[.row [.int .i64 (if i=0 then (s:Int) else wlk l c (i-1))] true,.row [lv] true,.row [.int .i64 c] true,.loop 4000092 [15] frv]) hl hcl hw he ?_ ?_ ?_ ?_
  · rintro i H' rfl
    exact ⟨by simp,by simp,hv.mono ⟨_,rfl⟩⟩
  · simp
  · rintro i H' hi rfl
    refine VCall_yield (f:=4000092) (ps:=[15]) (fr:=frv) (by simp) (by omega) rfl tbl_at4000092 flen rfl ?_
    simp [f5,f15,st_one hlim]
  · rintro H' rfl
    simp [rd0]
    exact hK _ ⟨_,rfl⟩
end
end Go.Proofs.Ytclghkegfpcdpaa.Vm
namespace Go.Proofs.Ytclghkegfpcdpaa.Vm
open Go
set_option maxRecDepth 100000
theorem cp_known {lim:Nat}{H:Hp}{K:V→Hp→Prop}(hlim:lim≤H.length)(hK:∀H',HX H H'→K (.bool true) H'):VCall tbl lim 16 [] H K :=
  vcall_known (n:=300) (by kernel_rfl) hlim fun X=>hK _ ⟨X,rfl⟩
end Go.Proofs.Ytclghkegfpcdpaa.Vm
namespace Go.Proofs.Ytclghkegfpcdpaa.Vm
open Go
set_option maxRecDepth 100000
set_option linter.unusedSimpArgs false
attribute [-simp] List.getD_eq_getElem?_getD
def restN (xs:List Int):Nat→Int
  | 0=>0
  | k+1=>(xs.getD (23-k) 0+xs.getD (47-k) 0)+restN xs k
def Small (xs:List Int):Prop:=∀x∈xs,-1099511627776≤x∧x≤1099511627776
theorem Small.at {xs:List Int}(h:Small xs)(i:Nat) : -1099511627776≤xs.getD i 0∧xs.getD i 0≤1099511627776:=by
  by_cases hi:i<xs.length
  · rw [List.getD_eq_getElem?_getD,List.getElem?_eq_getElem hi];exact h _ (List.getElem_mem hi)
  · rw [List.getD_eq_getElem?_getD,List.getElem?_eq_none (by omega)];simp
def aboveS (xs:List Int)(n:Int):Int:=restN xs (24-(max n 1-1).toNat)
theorem SlV.at {H:Hp} {v:V} {l:List Int} (h:SlV H v l) {i:Nat} (hi:i<l.length):∃b o,viaddrS 1 v (.int .i64 i)=some (.ptr b o)∧∀L,vload none L H (.ptr b o)=some (.int .i64 (l.getD i 0)):=by
  cases h with
  | nil=>simp at hi
  | empty=>simp at hi
  | sl h1 h2 h3 =>
    rename_i b off cs own
    refine ⟨b,off+i,?_,fun L => ?_⟩
    · rw [viaddrS_in (by omega)];simp
    · rw [vload_ptr h1]
      have hlt:off+i<cs.length:=by omega
      simp only [rd,hlt,if_true]
      have e:(cs.drop off)[i]? = (ints l)[i]? := by
        rw [←h3,List.getElem?_take_of_lt hi]
      rw [List.getElem?_drop,ints_get?,List.getElem?_eq_getElem hi] at e
      simp [List.getD_eq_getElem?_getD,e,hi]
def anyNeg (l:List Int):Bool:=l.any (·<0)
def anyBig (l:List Int):Bool:=l.any (1000000<·)
def errOf (r w:List Int):Int :=
  if 24<r.length∨24<w.length then 4 else if anyNeg r∨anyNeg w then 1 else if anyBig r∨anyBig w then 4 else 0
inductive BunV (H:Hp)(r w:List Int):V→Prop
  | mk {rv wv:V}:SlV H rv r→SlV H wv w→BunV H r w (.agg [rv,wv])
theorem BunV.mono {H H':Hp}(hx:HX H H'){v:V}{r w:List Int}(h:BunV H r w v):BunV H' r w v:=by
  cases h with
  | mk h1 h2=>exact .mk (h1.mono hx) (h2.mono hx)
def pad (l:List Int):List Int:=l++List.replicate (24-l.length) 0
def sheafOf (r w:List Int):List Int:=pad r++pad w
def opened (r w:List Int):List Int:=if errOf r w=0 then sheafOf r w else zs 48
def inRest (xs:List Int):Nat→Int
  | 0=>0
  | k+1=>(24-k)*(xs.getD (23-k) 0+xs.getD (47-k) 0)+inRest xs k
def inchesS (xs:List Int):Int:=inRest xs 24
section
variable {lim:Nat}{H:Hp}{bv:V}{r w:List Int}{K:V→Hp→Prop}
theorem BunV.stor (h:BunV H r w bv):stor bv=true∧(cellsV bv).length=2:=by
  cases h with
  | mk h1 h2=>exact ⟨rfl,rfl⟩
theorem BunV.load (h:BunV H r w bv):rd (some 2) (cellsV bv) 0=some bv:=by
  cases h with
  | mk h1 h2=>exact rd_two
end
end Go.Proofs.Ytclghkegfpcdpaa.Vm
namespace Go.Proofs.Ytclghkegfpcdpaa.Vm
open Go
set_option maxRecDepth 100000
set_option linter.unusedSimpArgs false
attribute [-simp] List.getD_eq_getElem?_getD
structure RefOf (xs ys:List Int):Prop where
  len:ys.length=50
  right:∀i,i<24→ys.getD (i+1) 0=xs.getD i 0
  wrong:∀i,i<24→ys.getD (26+i) 0=xs.getD (24+i) 0
  zero:ys.getD 0 0=0∧ys.getD 25 0=0
theorem RefOf.at {xs ys:List Int}(h:RefOf xs ys){m:Nat}(h1:1≤m)(h2:m≤24):ys.getD m 0=xs.getD (m-1) 0∧ys.getD (25+m) 0=xs.getD (24+(m-1)) 0:=by
  obtain ⟨i,rfl⟩:∃i,m=i+1:=⟨m-1,by omega⟩
  refine ⟨h.right i (by omega),?_⟩
  rw [show 25+(i+1)=26+i by omega]
  exact h.wrong i (by omega)
section
variable {lim:Nat}{H:Hp}{bv:V}{r w:List Int}{K:V→Hp→Prop}
end
section
variable {lim:Nat}{H:Hp}{bv:V}{r w:List Int}{K:V→Hp→Prop}
end
end Go.Proofs.Ytclghkegfpcdpaa.Vm
namespace Go.Proofs.Ytclghkegfpcdpaa.Vm
open Go
set_option maxRecDepth 100000
set_option linter.unusedSimpArgs false
set_option linter.unusedVariables false
attribute [-simp] List.getD_eq_getElem?_getD
inductive OwnB (n:Nat)(H:Hp)(r w:List Int):V→Prop
  | mk {rv wv:V}:OwnV n H rv r→OwnV n H wv w→OwnB n H r w (.agg [rv,wv])
theorem OwnB.mono {n:Nat}{H H':Hp}(hx:HX H H'){v:V}{r w:List Int}(h:OwnB n H r w v):OwnB n H' r w v:=by
  cases h with
  | mk h1 h2=>exact .mk (h1.mono hx) (h2.mono hx)
theorem OwnB.le {n m:Nat}(hnm:n≤m){H:Hp}{v:V}{r w:List Int}(h:OwnB m H r w v):OwnB n H r w v:=by
  cases h with
  | mk h1 h2=>exact .mk (h1.le hnm) (h2.le hnm)
theorem OwnB.zero {n:Nat}{H:Hp}:OwnB n H [] [] (.agg [.snil,.snil]):=.mk .nil .nil
theorem OwnB.stor {n:Nat}{H:Hp}{v:V}{r w:List Int}(h:OwnB n H r w v):stor v=true∧(cellsV v).length=2:=by
  cases h;exact ⟨rfl,rfl⟩
abbrev HF:=Nat→Nat→Int
def mk48 (f:HF):List Int:=(List.range 48).map fun k=>f (k / 24) (k % 24+1)
def mk50 (f:HF):List Int:=(List.range 50).map fun k=>if k % 25=0 then 0 else f (k / 25) (k % 25)
def fset (f:HF)(w n:Nat)(x:Int):HF:=fun w' n'=>if w'=w∧n'=n then x else f w' n'
@[simp] theorem mk48_len {f:HF}:(mk48 f).length=48:=by simp [mk48]
@[simp] theorem mk50_len {f:HF}:(mk50 f).length=50:=by simp [mk50]
def op (r w:List Int):HF:=fun way n=>if errOf r w=0 then (if way=0 then r else w).getD (n-1) 0 else 0
def lastN (f:Nat→Int):Nat→Nat
  | 0=>0
  | k+1=>if f (k+1)=0 then lastN f k else k+1
def listN (f:Nat→Int)(n:Nat):List Int:=(List.range n).map fun i=>f (i+1)
@[simp] theorem listN_length (f:Nat→Int) (n:Nat):(listN f n).length=n:=by simp [listN]
def sideF (f:HF)(way:Nat):List Int:=listN (f way) (lastN (f way) 24)
end Go.Proofs.Ytclghkegfpcdpaa.Vm
namespace Go.Proofs.Ytclghkegfpcdpaa.Vm
open Go
set_option maxRecDepth 100000
set_option linter.unusedSimpArgs false
set_option linter.unusedVariables false
attribute [-simp] List.getD_eq_getElem?_getD
def pvC:Cod (V×V) 2:=⟨fun p=>[p.1,p.2],fun _=>rfl⟩
def smC:Cod Sm 4:=⟨fun s=>[.int .i64 s.A,.int .i64 s.I,.int .i64 s.B,.int .i64 s.J],fun _=>rfl⟩
structure PcsV (H:Hp)(v:V)(ps:List (V×V))(pcs:List Pc):Prop where
  lst:LstV pvC H v ps
  len:ps.length=pcs.length
  at':∀i,i<pcs.length→SlV H (ps.getD i default).1 (pcs.getD i default).s∧SlV H (ps.getD i default).2 (pcs.getD i default).a
inductive CapV (H:Hp):List V→Cp→Prop
  | mk {pv sv:V} {ps:List (V×V)} {P:List Pc} {S:List Sm} {e:Int}:PcsV H pv ps P→LstV smC H sv S→CapV H [pv,sv,.int .i64 e] ⟨P,S,e⟩
section
variable {lim:Nat}{H H':Hp}{K:V→Hp→Prop}{v pv sv:V}{ps:List (V×V)}{pcs P:List Pc}{S:List Sm}{e:Int}{ws:List V}{c:Cp}
theorem PcsV.mono (hx:HX H H')(h:PcsV H v ps pcs):PcsV H' v ps pcs:=⟨h.lst.mono hx,h.len,fun i hi=>⟨(h.at' i hi).1.mono hx,(h.at' i hi).2.mono hx⟩⟩
theorem CapV.mono (hx:HX H H')(h:CapV H ws c):CapV H' ws c:=by
  cases h with
  | mk h1 h2=>exact .mk (h1.mono hx) (h2.mono hx)
theorem PcsV.vlen (h:PcsV H v ps pcs):vlenS v=some (.int .i64 pcs.length):=by rw [←h.len];exact h.lst.len
theorem PcsV.at (h:PcsV H v ps pcs){i:Nat}(hi:i<pcs.length):viaddrS 2 v (.int .i64 (i:Int))=some (ept 2 v i):=h.lst.at (by rw [h.len];exact hi)
theorem PcsV.addr (h:PcsV H v ps pcs){i:Int}(hi:0≤i∧i<pcs.length):viaddrS 2 v (.int .i64 i)=some (ept 2 v i.toNat):=h.lst.addr (by rw [h.len];exact hi)
theorem PcsV.ld2 (h:PcsV H v ps pcs){i:Nat}(hi:i<pcs.length):∀L,vload (some 2) L H (ept 2 v i)=some (.agg [(ps.getD i default).1,(ps.getD i default).2]):=fun L=>h.lst.load (by rw [h.len];exact hi)
theorem PcsV.fa (h:PcsV H v ps pcs){i:Nat}(hi:i<pcs.length):∀j,vfaddr j (ept 2 v i)=some (eptf 2 v i j):=fun j=>h.lst.faddr (by rw [h.len];exact hi)
theorem PcsV.ld0 (h:PcsV H v ps pcs){i:Nat}(hi:i<pcs.length):∀L,vload none L H (eptf 2 v i 0)=some (ps.getD i default).1:=fun L=>h.lst.rd1 (by rw [h.len];exact hi) (by omega)
theorem PcsV.ld1 (h:PcsV H v ps pcs){i:Nat}(hi:i<pcs.length):∀L,vload none L H (eptf 2 v i 1)=some (ps.getD i default).2:=fun L=>h.lst.rd1 (by rw [h.len];exact hi) (by omega)
theorem rd0:∀{x:V} {l:List V},rd none (x :: l) 0=some x:=by intro x l;simp [rd];rfl
theorem rd1':∀{x y:V} {l:List V},rd none (x :: y :: l) 1=some y:=by intro x y l;simp [rd];rfl
theorem rd2':∀{x y z:V} {l:List V},rd none (x :: y :: z :: l) 2=some z:=by intro x y z l;simp [rd];rfl
theorem rd3':∀{x y z u:V} {l:List V},rd none (x :: y :: z :: u :: l) 3=some u:=by intro x y z u l;simp [rd];rfl
theorem rdA2 {a b:V}:rd (some 2) [a,b] 0=some (.agg [a,b]):=Eq.trans rfl rfl
theorem rdA3 {a b c:V}:rd (some 3) [a,b,c] 0=some (.agg [a,b,c]):=Eq.trans rfl rfl
theorem rdA4 {a b c d:V}:rd (some 4) [a,b,c,d] 0=some (.agg [a,b,c,d]):=Eq.trans rfl rfl
theorem spl4 {a b c d a' b' c' d':V}:splice [a,b,c,d] 0 [a',b',c',d']=[a',b',c',d']:=by simp [splice]
theorem surf_isSide {n:Int}(hK:K (.bool (decide (1≤n∧n≤200))) H):VCall tbl lim 73 [.int .i64 n] H K:=by
  refine VCall_fn tbl_at73 rfl ?_
  simp [vf73]
  by_cases h:1≤n
  · simpa [h] using hK
  · simpa [h] using hK
theorem surf_isAngle {n:Int}(hK:K (.bool (decide (1≤n∧n≤359))) H):VCall tbl lim 74 [.int .i64 n] H K:=by
  refine VCall_fn tbl_at74 rfl ?_
  simp [vf74]
  by_cases h:1≤n
  · simpa [h] using hK
  · simpa [h] using hK
theorem surf_allAngles {n:Int}(hn:0≤n∧n≤1000)(hK:K (.int .i64 (180*(n-2))) H):VCall tbl lim 83 [.int .i64 n] H K:=by
  refine VCall_fn tbl_at83 rfl ?_
  simp (disch:=omega) [vf83,wrap_i64]
  exact hK
theorem r02_within {n a b:Int}(hK:K (.bool (decide (a≤n∧n≤b))) H):VCall tbl lim 55 [.int .i64 n,.int .i64 a,.int .i64 b] H K:=by
  refine VCall_fn tbl_at55 rfl ?_
  simp [vf55]
  by_cases h:a≤n
  · simpa [h] using hK
  · simpa [h] using hK
def pcOkN (p:Pc)(i:Nat):Bool:=decide ((1≤p.s.getD i 0∧p.s.getD i 0≤200)∧(1≤p.a.getD i 0∧p.a.getD i 0≤359))
theorem pieceB_eq {p:Pc}:pieceB p=(decide (3≤p.s.length∧p.s.length≤6)&&(decide (p.a.length=p.s.length)&&((List.range p.s.length).all (pcOkN p)&&decide (p.a.sum=180*((p.s.length:Int)-2))))):=rfl
theorem pieceB_no {p:Pc}{i:Nat}(hi:i<p.s.length)(h:pcOkN p i=false):pieceB p=false:=by
  have:(List.range p.s.length).all (pcOkN p)=false:=by
    rw [Bool.eq_false_iff];intro g
    rw [List.all_eq_true] at g
    have:=g i (List.mem_range.2 hi)
    rw [h] at this;cases this
  rw [pieceB_eq,this];simp
theorem take_sum {l:List Int}{i:Nat}(hi:i<l.length):(l.take (i+1)).sum=(l.take i).sum+l.getD i 0:=by
  rw [take_snoc hi,List.sum_append];simp
theorem surf_isPiece {a b:V}{p:Pc}(ha:SlV H a p.s)(hb:SlV H b p.a)(hK:K (.bool (pieceB p)) H):VCall tbl lim 53 [.agg [a,b]] H K:=by
  refine VCall_fn tbl_at53 rfl ?_
  by_cases h1:3≤p.s.length∧p.s.length≤6
  case neg =>
    have hn:pieceB p=false:=by rw [pieceB_eq];simp [h1]
    rw [hn] at hK
    have e:(decide ((p.s.length:Int)<3)||decide (6<(p.s.length:Int)))=true:=by simp;omega
    simp [vf53,rd0,rd1',ha.len,hb.len,ha.stor,ha.one,hb.stor,hb.one,e]
    exact hK
  have e1:decide ((p.s.length:Int)<3)=false:=by simp;omega
  have e2:decide (6<(p.s.length:Int))=false:=by simp;omega
  by_cases h2:p.a.length=p.s.length
  case neg =>
    have hn:pieceB p=false:=by rw [pieceB_eq];simp [h2]
    rw [hn] at hK
    have e3:decide ((p.a.length:Int)=(p.s.length:Int))=false:=by simp;omega
    simp [vf53,rd0,rd1',ha.len,hb.len,ha.stor,ha.one,hb.stor,hb.one,e1,e2,e3]
    exact hK
  have e3:decide ((p.a.length:Int)=(p.s.length:Int))=true:=by simp;omega
  simp [vf53,rd0,rd1',ha.len,hb.len,ha.stor,ha.one,hb.stor,hb.one,e1,e2,e3]
  refine wLoop_up p.s.length (fun i fr L H'=>(fr 1=.lp 0 0∧fr 3=.int .i64 p.s.length∧fr 4=.int .i64 (p.a.take i).sum∧fr 22=.int .i64 p.s.length∧fr 23=.int .i64 i)∧L=[[a,b]]∧H'=H∧(0≤(p.a.take i).sum∧(p.a.take i).sum≤359*i)∧∀k,k<i→pcOkN p k=true) ⟨by simp,by simp,rfl,by simp,fun k hk=>by omega⟩ ?_
  rintro i hi fr L H1 ⟨⟨f1,f3,f4,f22,f23⟩,rfl,rfl,hsum,hall⟩
  simp [f1,f3,f4,f22,f23]
  refine cond_dec (fun ht => ?_) fun hfl => ?_
  · have ht:i<p.s.length:=by omega
    have aa:=ha.addr (i:=(i:Int)) (by omega)
    have ab:=hb.addr (i:=(i:Int)) (by omega)
    simp only [Int.toNat_natCast] at aa ab
    have la:=fun L=>ha.load (i:=i) ht (L:=L)
    have lb:=fun L=>hb.load (i:=i) (by omega) (L:=L)
    simp [f1,f3,f4,f22,f23,rd0,rd1',aa,la]
    refine surf_isSide ?_
    by_cases g1:1≤p.s.getD i 0∧p.s.getD i 0≤200
    case neg =>
      have:=pieceB_no ht (p:=p) (by simp [pcOkN,g1])
      rw [this] at hK
      simp [g1];exact hK
    simp [f1,f3,f4,f22,f23,rd0,rd1',g1,ab,lb]
    refine surf_isAngle ?_
    by_cases g2:1≤p.a.getD i 0∧p.a.getD i 0≤359
    case neg =>
      have:=pieceB_no ht (p:=p) (by simp [pcOkN,g2])
      rw [this] at hK
      simp [g2];exact hK
    have hs:=take_sum (l:=p.a) (i:=i) (by omega)
    simp (disch:=omega) [f1,f3,f4,f22,f23,rd0,rd1',g1,g2,ab,lb,wrap_i64]
    refine ⟨by omega,by rw [hs],by omega,fun k hk => ?_⟩
    by_cases e:k=i
    · subst e;simp [pcOkN,g1,g2]
    · exact hall k (by omega)
  · have:i=p.s.length:=by omega
    subst this
    have hall':(List.range p.s.length).all (pcOkN p)=true:=by
      rw [List.all_eq_true];intro k hk;exact hall k (List.mem_range.1 hk)
    have hsum':p.a.take p.s.length=p.a:=List.take_of_length_le (by omega)
    simp [f1,f3,f4,f22,f23]
    refine surf_allAngles (by omega) ?_
    rw [hsum'] at f4 ⊢
    have e:pieceB p=decide (p.a.sum=180*((p.s.length:Int)-2)):=by rw [pieceB_eq];simp [h1,h2,hall']
    rw [e] at hK
    simp [f4]
    exact hK
theorem r02_pieceOK {a b:V}{p:Pc}(ha:SlV H a p.s)(hb:SlV H b p.a)(hla:p.s.length≤100000)(hK:K (.bool (pieceB p)) H):VCall tbl lim 56 [.agg [a,b]] H K:=by
  refine VCall_fn tbl_at56 rfl ?_
  simp [vf56,rd0,rd1',ha.len,hb.len,ha.stor,ha.one,hb.stor,hb.one]
  refine r02_within ?_
  by_cases h1:3≤p.s.length∧p.s.length≤6
  case neg =>
    have hn:pieceB p=false:=by rw [pieceB_eq];simp [h1]
    rw [hn] at hK
    have e:decide ((3:Int)≤(p.s.length:Int)∧(p.s.length:Int)≤6)=false:=by simp only [decide_eq_false_iff_not];omega
    simp [e,rd0,rd1',ha.len,hb.len]
    exact hK
  have e1:decide ((3:Int)≤(p.s.length:Int)∧(p.s.length:Int)≤6)=true:=by simp only [decide_eq_true_eq];omega
  by_cases h2:p.a.length=p.s.length
  case neg =>
    have hn:pieceB p=false:=by rw [pieceB_eq];simp [h2]
    rw [hn] at hK
    have e3:decide ((p.a.length:Int)=(p.s.length:Int))=false:=by simp;omega
    simp [e1,e3,rd0,rd1',ha.len,hb.len]
    exact hK
  have e3:decide ((p.a.length:Int)=(p.s.length:Int))=true:=by simp;omega
  simp [e1,e3,rd0,rd1',ha.len,hb.len]
  refine wLoop_up p.s.length (fun i fr L H'=>(fr 1=.lp 0 0∧fr 3=.int .i64 p.s.length∧fr 4=.int .i64 (p.a.take i).sum∧fr 5=.int .i64 i)∧L=[[a,b]]∧H'=H∧(0≤(p.a.take i).sum∧(p.a.take i).sum≤359*i)∧∀k,k<i→pcOkN p k=true) ⟨by simp,by simp,rfl,by simp,fun k hk=>by omega⟩ ?_
  rintro i hi fr L H1 ⟨⟨f1,f3,f4,f5⟩,rfl,rfl,hsum,hall⟩
  simp [f1,f3,f4,f5]
  refine cond_dec (fun ht => ?_) fun hfl => ?_
  · have ht:i<p.s.length:=by omega
    have aa:=ha.addr (i:=(i:Int)) (by omega)
    have ab:=hb.addr (i:=(i:Int)) (by omega)
    simp only [Int.toNat_natCast] at aa ab
    have la:=fun L=>ha.load (i:=i) ht (L:=L)
    have lb:=fun L=>hb.load (i:=i) (by omega) (L:=L)
    simp [f1,f3,f4,f5,rd0,rd1',aa,la]
    refine r02_within ?_
    by_cases g1:1≤p.s.getD i 0∧p.s.getD i 0≤200
    case neg =>
      have:=pieceB_no ht (p:=p) (by simp [pcOkN,g1])
      rw [this] at hK
      simp [g1];exact hK
    simp [f1,f3,f4,f5,rd0,rd1',g1,ab,lb]
    refine r02_within ?_
    by_cases g2:1≤p.a.getD i 0∧p.a.getD i 0≤359
    case neg =>
      have:=pieceB_no ht (p:=p) (by simp [pcOkN,g2])
      rw [this] at hK
      simp [g2];exact hK
    have hs:=take_sum (l:=p.a) (i:=i) (by omega)
    simp (disch:=omega) [f1,f3,f4,f5,rd0,rd1',g1,g2,ab,lb,wrap_i64]
    refine ⟨by omega,by rw [hs],by omega,fun k hk => ?_⟩
    by_cases e:k=i
    · subst e;simp [pcOkN,g1,g2]
    · exact hall k (by omega)
  · have:i=p.s.length:=by omega
    subst this
    have hall':(List.range p.s.length).all (pcOkN p)=true:=by
      rw [List.all_eq_true];intro k hk;exact hall k (List.mem_range.1 hk)
    have hsum':p.a.take p.s.length=p.a:=List.take_of_length_le (by omega)
    have e:pieceB p=decide (p.a.sum=180*((p.s.length:Int)-2)):=by rw [pieceB_eq];simp [h1,h2,hall']
    rw [hsum'] at f4
    rw [e] at hK
    simp (disch:=omega) [f1,f3,f4,f5,wrap_i64]
    exact hK
end
end Go.Proofs.Ytclghkegfpcdpaa.Vm
namespace Go.Proofs.Ytclghkegfpcdpaa.Vm
open Go
set_option maxRecDepth 100000
set_option linter.unusedSimpArgs false
set_option linter.unusedVariables false
attribute [-simp] List.getD_eq_getElem?_getD
structure KeyE (α:Type)[DecidableEq α] where
  kv:α→V
  g:Bool
  ks:List CK
  agg:∀a,isAggV (kv a)=g
  eq:∀a b,eqCells ks (cellsV (kv a)) (cellsV (kv b))=some (decide (a=b))
  st:∀a,stor (kv a)=true
section
variable {α β:Type}[DecidableEq α]
def lkI (a:α):List (α×β)→Option (Nat×β)
  | []=>none
  | p :: r=>if a=p.1 then some (0,p.2) else (lkI a r).map fun q=>(q.1+1,q.2)
def look (a:α)(l:List (α×β)):Option β:=(lkI a l).map fun q=>q.2
def putA (a:α)(u:β)(l:List (α×β)):List (α×β):=match lkI a l with
  | some q=>l.set q.1 (a,u)
  | none=>l++[(a,u)]
theorem lkI_set {a:α} {u:β}:∀{l:List (α×β)} {i:Nat} {v:β},lkI a l=some (i,v)→i<l.length∧lkI a (l.set i (a,u))=some (i,u)∧∀b,b≠a→(lkI b (l.set i (a,u)))=lkI b l
  | [],i,v,h=>by simp [lkI] at h
  | p :: l,i,v,h=>by
    simp only [lkI] at h
    split at h
    · rename_i e
      cases h
      refine ⟨by simp,by simp [lkI],fun b hb => ?_⟩
      simp only [List.set_cons_zero,lkI]
      rw [if_neg hb,if_neg (by rw [←e];exact hb)]
    · rename_i e
      cases hm:lkI a l with
      | none=>rw [hm] at h;cases h
      | some q =>
        rw [hm] at h
        simp only [Option.map_some,Option.some.injEq,Prod.mk.injEq] at h
        obtain ⟨rfl,rfl⟩:=h
        obtain ⟨h1,h2,h3⟩:=lkI_set (u:=u) (i:=q.1) (v:=q.2) hm
        refine ⟨by simp;exact h1,?_,fun b hb => ?_⟩
        · simp only [List.set_cons_succ,lkI]
          rw [if_neg e,h2];rfl
        · simp only [List.set_cons_succ,lkI,h3 b hb]
theorem lkI_push {a:α} {u:β}:∀{l:List (α×β)},lkI a l=none→lkI a (l++[(a,u)])=some (l.length,u)∧∀b,b≠a→lkI b (l++[(a,u)])=lkI b l
  | [],_=>⟨by simp [lkI],fun b hb=>by simp [lkI,hb]⟩
  | p :: l,h=>by
    simp only [lkI] at h
    split at h
    · cases h
    · rename_i e
      have hm:lkI a l=none:=by
        cases hm:lkI a l with
        | none=>rfl
        | some q=>rw [hm] at h;cases h
      obtain ⟨h1,h2⟩:=lkI_push (u:=u) hm
      refine ⟨?_,fun b hb => ?_⟩
      · simp only [List.cons_append,lkI]
        rw [if_neg e,h1];rfl
      · simp only [List.cons_append,lkI,h2 b hb]
theorem look_put {a b:α}{u:β}{l:List (α×β)}:look b (putA a u l)=if b=a then some u else look b l:=by
  unfold look putA
  cases hm:lkI a l with
  | none =>
    obtain ⟨h1,h2⟩:=lkI_push (u:=u) hm
    by_cases e:b=a
    · subst e;rw [if_pos rfl];simp only [h1];rfl
    · rw [if_neg e];simp only [h2 b e]
  | some q =>
    obtain ⟨_,h1,h2⟩:=lkI_set (u:=u) (i:=q.1) (v:=q.2) hm
    by_cases e:b=a
    · subst e;rw [if_pos rfl];simp only [h1];rfl
    · rw [if_neg e];simp only [h2 b e]
theorem look_nil {b:α}:look b ([]:List (α×β))=none:=rfl
def mE (K:KeyE α)(vc:β→V)(l:List (α×β)):List (V×V):=l.map fun p=>(K.kv p.1,vc p.2)
theorem mE_set {K:KeyE α}{vc:β→V}{l:List (α×β)}{i:Nat}{a:α}{u:β}:(mE K vc l).set i (K.kv a,vc u)=mE K vc (l.set i (a,u)):=by simp [mE,List.map_set]
theorem mE_push {K:KeyE α}{vc:β→V}{l:List (α×β)}{a:α}{u:β}:mE K vc l++[(K.kv a,vc u)]=mE K vc (l++[(a,u)]):=by simp [mE]
theorem mfindE {K:KeyE α}{vc:β→V}{a:α}:∀{l:List (α×β)},mfind K.ks (K.kv a) (mE K vc l)=some ((lkI a l).map fun q=>(q.1,vc q.2))
  | []=>rfl
  | p :: l=>by
    have ih:=mfindE (K:=K) (vc:=vc) (a:=a) (l:=l)
    have hc:mE K vc (p :: l)=(K.kv p.1,vc p.2) :: mE K vc l:=rfl
    have hq:(if isAggV (K.kv a)==isAggV (K.kv p.1) then eqCells K.ks (cellsV (K.kv a)) (cellsV (K.kv p.1)) else none)=some (decide (a=p.1)):=by
      rw [K.agg,K.agg,K.eq];simp
    rw [hc]
    simp only [mfind,lkI]
    rw [hq,ih]
    by_cases e:a=p.1
    · rw [if_pos e];simp [e]
    · rw [if_neg e]
      simp only [e,decide_false]
      cases lkI a l<;>rfl
theorem keyOkE {K:KeyE α}{a:α}:keyOk K.g K.ks (K.kv a)=true:=by
  unfold keyOk
  rw [K.agg,K.st,K.eq];simp
section
variable {lim:Nat}{H:Hp}{K:KeyE α}{vc:β→V}{l:List (α×β)}{a:α}{u z:β}{b:Nat}
theorem vmgetE (hb:H[b]? = some (.map (mE K vc l))):vmget K.g K.ks false (vc z) H (.mp b) (K.kv a)=some (vc ((look a l).getD z)):=by
  simp only [vmget,hb,keyOkE,if_true,mfindE,look]
  cases lkI a l<;>rfl
theorem vmputE (hb:H[b]? = some (.map (mE K vc l)))(hlim:lim≤b)(hu:stor (vc u)=true):vmput lim K.g K.ks H (.mp b) (K.kv a) (vc u)=some (H.set b (.map (mE K vc (putA a u l)))):=by
  simp only [vmput,hlim,hb,keyOkE,hu,Bool.and_self,if_true,mfindE,putA]
  cases lkI a l with
  | none=>simp only [Option.map_none,mE_push]
  | some q=>simp only [Option.map_some,mE_set]
def entI (a:α)(l:List (α×β)):Nat:=match lkI a l with
  | some q=>q.1
  | none=>l.length
end
end
def kI:KeyE Int:=⟨fun a=>.int .i64 a,false,[.int .i64],fun _=>rfl,fun a b=>by simp [eqCells,eqCell,cellsV];by_cases e:a=b<;>simp [e],fun _=>rfl⟩
def kI2:KeyE (Int×Int):=⟨fun a=>.agg [.int .i64 a.1,.int .i64 a.2],true,[.int .i64,.int .i64],fun _=>rfl,fun a b=>by
  obtain ⟨a1,a2⟩:=a
  obtain ⟨b1,b2⟩:=b
  simp only [eqCells,eqCell,cellsV,and_self,if_true,Bool.and_true,Option.some.injEq]
  by_cases e:a1=b1<;>by_cases e2:a2=b2<;>simp [e,e2],fun _=>rfl⟩
def kI3:KeyE (Int×Int×Int):=⟨fun a=>.agg [.int .i64 a.1,.int .i64 a.2.1,.int .i64 a.2.2],true,[.int .i64,.int .i64,.int .i64],fun _=>rfl,fun a b=>by
  obtain ⟨a1,a2,a3⟩:=a
  obtain ⟨b1,b2,b3⟩:=b
  simp only [eqCells,eqCell,cellsV,and_self,if_true,Bool.and_true,Option.some.injEq]
  by_cases e:a1=b1<;>by_cases e2:a2=b2<;>by_cases e3:a3=b3<;>simp [e,e2,e3],fun _=>rfl⟩
end Go.Proofs.Ytclghkegfpcdpaa.Vm
namespace Go.Proofs.Ytclghkegfpcdpaa.Vm
open Go
set_option maxRecDepth 100000
set_option maxHeartbeats 1000000
set_option linter.unusedSimpArgs false
set_option linter.unusedVariables false
attribute [-simp] List.getD_eq_getElem?_getD
theorem lastO {α:Type}{X:List α}{c:α}:(X++[c])[X.length]? = some c:=by simp
theorem lastS {α:Type}{X:List α}{c d:α}:(X++[c]).set X.length d=X++[d]:=by simp
theorem keepL {L:Lo}{q:Nat}{c:List V}(h:L[q]? = some c):∀d,(L++[d])[q]? = some c:=fun d=>by
  rw [List.getElem?_append_left (List.getElem?_eq_some_iff.1 h).1];exact h
section
variable {lim:Nat}{H H':Hp}{K:V→Hp→Prop}{v pv sv:V}{ps:List (V×V)}{pcs P:List Pc}{S:List Sm}{e:Int}{ws:List V}{c:Cp}
theorem sdOk_no {pcs:List Pc}{a i:Int}(h:¬(0≤a∧a<pcs.length)):sdOk pcs a i=false:=by simp only [sdOk,h,decide_false,Bool.false_and]
theorem sdOk_at {pcs:List Pc}{a i:Int}(h:0≤a∧a<pcs.length):sdOk pcs a i=decide (0≤i∧i<ksN pcs a.toNat):=by simp only [sdOk,h,and_self,decide_true,Bool.true_and]
theorem surf_hasSide {a i:Int}(hp:PcsV H pv ps P)(hs:stor sv=true)(hs1:cellsV sv=[sv])(hK:K (.bool (sdOk P a i)) H):VCall tbl lim 72 [.agg [pv,sv,.int .i64 e],.int .i64 a,.int .i64 i] H K:=by
  refine VCall_fn tbl_at72 rfl ?_
  by_cases h1:0≤a
  case neg =>
    rw [sdOk_no (by omega)] at hK
    simp [vf72,rd0,hp.lst.stor,hp.lst.one,hp.vlen,hs,hs1,h1]
    exact hK
  by_cases h2:a<P.length
  case neg =>
    rw [sdOk_no (by omega)] at hK
    simp [vf72,rd0,hp.lst.stor,hp.lst.one,hp.vlen,hs,hs1,h1,h2]
    exact hK
  rw [sdOk_at ⟨h1,h2⟩] at hK
  by_cases h3:0≤i
  case neg =>
    rw [decide_eq_false (by omega)] at hK
    simp [vf72,rd0,hp.lst.stor,hp.lst.one,hp.vlen,hs,hs1,h1,h2,h3]
    exact hK
  have hat:a.toNat<P.length:=by omega
  have ad:=hp.addr (i:=a) ⟨h1,h2⟩
  have hl:=(hp.at' a.toNat hat).1.len
  have e4:decide (0≤i∧i<(ksN P a.toNat:Int))=decide (i<((P.getD a.toNat default).s.length:Int)):=by
    rw [decide_eq_decide];simp only [ksN];omega
  rw [e4] at hK
  simp [vf72,rd0,hp.lst.stor,hp.lst.one,hp.vlen,hs,hs1,h1,h2,h3,ad,hp.fa hat,hp.ld0 hat,hl]
  exact hK
theorem r02_side {a i:Int}(hp:PcsV H pv ps P)(hs:stor sv=true)(hs1:cellsV sv=[sv])(hb:P.length≤1000000∧∀q,q<P.length→ksN P q≤1000000)(hK:K (.bool (sdOk P a i)) H):VCall tbl lim 78 [.agg [pv,sv,.int .i64 e],.int .i64 a,.int .i64 i] H K:=by
  refine VCall_fn tbl_at78 rfl ?_
  simp (disch:=omega) [vf78,rd0,hp.lst.stor,hp.lst.one,hp.vlen,hs,hs1,wrap_i64]
  refine r02_within ?_
  by_cases h1:0≤a∧a≤(P.length:Int)-1
  case neg =>
    rw [sdOk_no (by omega)] at hK
    simp [h1]
    exact hK
  have h2:0≤a∧a<(P.length:Int):=by omega
  rw [sdOk_at h2] at hK
  have hat:a.toNat<P.length:=by omega
  have ad:=hp.addr (i:=a) h2
  have hl:=(hp.at' a.toNat hat).1.len
  have hk:=hb.2 a.toNat hat
  simp only [ksN] at hk
  simp (disch:=omega) [rd0,h1,ad,hp.fa hat,hp.ld0 hat,hl,wrap_i64]
  refine r02_within ?_
  have e4:decide (0≤i∧i<(ksN P a.toNat:Int))=decide (0≤i∧i≤((P.getD a.toNat default).s.length:Int)-1):=by
    rw [decide_eq_decide];simp only [ksN];omega
  rw [e4] at hK
  simpa using hK
theorem r02_uses {s:Sm}{a i:Int}(hK:K (.bool (usesB s a i)) H):VCall tbl lim 84 [.agg (smC.cells s),.int .i64 a,.int .i64 i] H K:=by
  refine VCall_fn tbl_at84 rfl ?_
  simp only [usesB] at hK
  by_cases h1:s.A=a<;>by_cases h2:s.I=i<;>by_cases h3:s.B=a<;>by_cases h4:s.J=i <;>
  simp [vf84,smC,rd0,rd1',rd2',rd3',h1,h2,h3,h4] at hK ⊢<;>exact hK
def usedB (pre:List Sm)(s:Sm):Bool:=pre.any fun t=>usesB t s.A s.I||usesB t s.B s.J
def selfB (s:Sm):Bool:=decide (s.A=s.B)&&decide (s.I=s.J)
def dfS (pcs:List Pc)(s:Sm):Int:=(pcs.getD s.A.toNat default).s.getD s.I.toNat 0-(pcs.getD s.B.toNat default).s.getD s.J.toNat 0
theorem seamE_eq {pcs:List Pc}{ease:Int}{pre:List Sm}{s:Sm}:seamE pcs ease pre s=if !(sdOk pcs s.A s.I&&sdOk pcs s.B s.J) then 5 else if selfB s||usedB pre s then 7 else if ease<dfS pcs s∨ease < -dfS pcs s then 8 else 0:=rfl
theorem getD_mem {α:Type}[Inhabited α]{l:List α}{i:Nat}(h:i<l.length):l.getD i default∈l:=by
  rw [List.getD_eq_getElem?_getD,List.getElem?_eq_getElem h];exact List.getElem_mem h
theorem usedB_take {S:List Sm}{n:Nat}{s:Sm}(hn:n≤S.length):usedB (S.take n) s=true↔∃k,k<n∧(usesB (S.getD k default) s.A s.I||usesB (S.getD k default) s.B s.J)=true:=by
  simp only [usedB,List.any_eq_true]
  constructor
  · rintro ⟨t,h1,h2⟩
    obtain ⟨k,hk,rfl⟩:=List.getElem_of_mem h1
    rw [List.length_take] at hk
    refine ⟨k,by omega,?_⟩
    rw [List.getElem_take] at h2
    rw [List.getD_eq_getElem?_getD,List.getElem?_eq_getElem (by omega)];exact h2
  · rintro ⟨k,h1,h2⟩
    refine ⟨_,?_,h2⟩
    have:S.getD k default=(S.take n).getD k default:=by
      simp only [List.getD_eq_getElem?_getD,List.getElem?_take_of_lt h1]
    rw [this]
    exact getD_mem (by rw [List.length_take];omega)
theorem side_bd {p:Pc}(h:pieceB p=true){i:Nat}(hi:i<p.s.length):1≤p.s.getD i 0∧p.s.getD i 0≤200:=((piece_ok h).2.2.1 i hi).1
def PcsOk (P:List Pc):Prop:=∀q,q<P.length→pieceB (P.getD q default)=true
theorem dfS_bd {s:Sm}(hok:PcsOk P)(h1:sdOk P s.A s.I=true)(h2:sdOk P s.B s.J=true) : -199≤dfS P s∧dfS P s≤199:=by
  obtain ⟨a1,a2,_,_⟩:=sd_ok h1
  obtain ⟨b1,b2,_,_⟩:=sd_ok h2
  have:=side_bd (hok _ a1) a2
  have:=side_bd (hok _ b1) b2
  simp only [dfS];omega
theorem r02_seamError {n:Nat} (hp:PcsV H pv ps P) (hsv:LstV smC H sv S) (hn:n<S.length) (hok:PcsOk P) (hb:P.length≤1000000∧S.length≤1000000) (he:0≤e∧e≤5) (hK:K (.int .i64 (seamE P e (S.take n) (S.getD n default))) H) :
    VCall tbl lim 57 [.agg [pv,sv,.int .i64 e],.int .i64 n] H K:=by
  refine VCall_fn tbl_at57 rfl ?_
  have hb2:P.length≤1000000∧∀q,q<P.length→ksN P q≤1000000:=⟨hb.1,fun q hq=>by
    have:ksN P q≤6:=(piece_ok (hok q hq)).1.2
    omega⟩
  have ld:=fun L=>hsv.load hn (L:=L)
  generalize hs:S.getD n default=s at ld hK
  have ec:smC.cells s=[.int .i64 s.A,.int .i64 s.I,.int .i64 s.B,.int .i64 s.J]:=rfl
  rw [ec] at ld
  rw [seamE_eq] at hK
  simp [vf57,rd0,rd1',rd2',rd3',hp.lst.stor,hp.lst.one,hsv.stor,hsv.one,hsv.at hn,ld,zsV,spl4,splice,rdA3]
  refine r02_side hp hsv.stor hsv.one hb2 ?_
  by_cases h1:sdOk P s.A s.I=true
  case neg =>
    have h1:sdOk P s.A s.I=false:=by simpa using h1
    simp [h1] at hK ⊢;exact hK
  simp [h1,rd0,rd1',rd2',rd3',rdA3]
  refine r02_side hp hsv.stor hsv.one hb2 ?_
  by_cases h2:sdOk P s.B s.J=true
  case neg =>
    have h2:sdOk P s.B s.J=false:=by simpa using h2
    simp [h1,h2] at hK ⊢;exact hK
  simp only [h1,h2,Bool.and_self,Bool.not_true,Bool.false_eq_true,if_false] at hK
  by_cases h3:selfB s=true
  · simp only [h3,Bool.true_or,if_true] at hK
    simp only [selfB,Bool.and_eq_true,decide_eq_true_eq] at h3
    simp [h2,rd0,rd1',rd2',rd3',h3.1,h3.2];exact hK
  have h3:selfB s=false:=by simpa using h3
  simp only [h3,Bool.false_or] at hK
  have key:∀Q:Prop,(¬(s.A=s.B∧s.I=s.J)→Q)→Q:=fun Q h=>h fun ⟨e1,e2⟩=>by simp [selfB,e1,e2] at h3
  refine key _ fun h3' => ?_
  have h3b:(decide (s.A=s.B)=false)∨(decide (s.A=s.B)=true∧decide (s.I=s.J)=false):=by
    by_cases e1:s.A=s.B
    · right;exact ⟨decide_eq_true e1,decide_eq_false fun e2=>h3' ⟨e1,e2⟩⟩
    · left;exact decide_eq_false e1
  have e3:(decide (s.A=s.B)&&decide (s.I=s.J))=false:=h3
  rcases h3b with g | ⟨g,g'⟩
  all_goals
    simp [h2,rd0,rd1',rd2',rd3',g]
    try simp [g']
    refine wLoop_up n (fun k fr L H'=>(fr 1=.int .i64 n∧fr 2=.lp 0 0∧fr 5=.lp 1 0∧fr 6=.int .i64 k)∧L=[[pv,sv,.int .i64 e],[.int .i64 s.A,.int .i64 s.I,.int .i64 s.B,.int .i64 s.J]]∧H'=H∧∀j,j<k→(usesB (S.getD j default) s.A s.I||usesB (S.getD j default) s.B s.J)=false) ⟨by simp,by simp,rfl,fun j hj=>by omega⟩ ?_
    rintro k hk fr L H1 ⟨⟨f1,f2,f5,f6⟩,rfl,rfl,hall⟩
    simp [f1,f2,f5,f6]
    refine cond_dec (fun ht => ?_) fun hfl => ?_
    · have ht:k<n:=by omega
      have hkl:k<S.length:=by omega
      have ldk:=fun L=>hsv.load hkl (L:=L)
      simp [f1,f2,f5,f6,rd0,rd1',rd2',rd3',hsv.at hkl,ldk]
      refine r02_uses ?_
      by_cases u1:usesB (S.getD k default) s.A s.I=true
      · have hu:usedB (S.take n) s=true:=(usedB_take (by omega)).2 ⟨k,ht,by simp [u1]⟩
        simp only [hu,if_true] at hK
        simp [u1];exact hK
      have u1:usesB (S.getD k default) s.A s.I=false:=by simpa using u1
      simp [f1,f2,f5,f6,rd0,rd1',rd2',rd3',hsv.at hkl,ldk,u1]
      refine r02_uses ?_
      by_cases u2:usesB (S.getD k default) s.B s.J=true
      · have hu:usedB (S.take n) s=true:=(usedB_take (by omega)).2 ⟨k,ht,by simp [u2]⟩
        simp only [hu,if_true] at hK
        simp [u2];exact hK
      have u2:usesB (S.getD k default) s.B s.J=false:=by simpa using u2
      simp (disch:=omega) [f1,f2,f5,f6,u1,u2,wrap_i64]
      refine ⟨ht,fun j hj => ?_⟩
      by_cases ej:j=k
      · subst ej;simp [u1,u2]
      · have:=hall j (by omega)
        simpa using this
    · have:k=n:=by omega
      subst this
      have hu:usedB (S.take k) s=false:=by
        cases hq:usedB (S.take k) s with
        | false=>rfl
        | true =>
          obtain ⟨j,h4,h5⟩:=(usedB_take (by omega)).1 hq
          rw [hall j h4] at h5;cases h5
      simp only [hu,Bool.false_eq_true,if_false] at hK
      obtain ⟨a1,a2,a3,a4⟩:=sd_ok h1
      obtain ⟨b1,b2,b3,b4⟩:=sd_ok h2
      have ad1:=hp.addr (i:=s.A) (by omega)
      have ad2:=hp.addr (i:=s.B) (by omega)
      have ai1:=(hp.at' _ a1).1.addr (i:=s.I) (by simp only [ksN] at a2;omega)
      have ai2:=(hp.at' _ b1).1.addr (i:=s.J) (by simp only [ksN] at b2;omega)
      have li1:=fun L=>(hp.at' _ a1).1.load (i:=s.I.toNat) a2 (L:=L)
      have li2:=fun L=>(hp.at' _ b1).1.load (i:=s.J.toNat) b2 (L:=L)
      have hd:=dfS_bd hok h1 h2
      have ed:(P.getD s.A.toNat default).s.getD s.I.toNat 0-(P.getD s.B.toNat default).s.getD s.J.toNat 0=dfS P s:=rfl
      have w1:IntKind.wrap .i64 (dfS P s)=dfS P s:=wrap_i64 (by omega) (by omega)
      have w2:IntKind.wrap .i64 (-dfS P s) = -dfS P s:=wrap_i64 (by omega) (by omega)
      simp [f1,f2,f5,f6,rd0,rd1',rd2',rd3',ad1,ad2,hp.fa a1,hp.fa b1,hp.ld0 a1,hp.ld0 b1,ai1,ai2,li1,li2,ed,w1,w2]
      by_cases hc:e<dfS P s
      · simp only [hc,true_or,if_true] at hK
        simp [hc];exact hK
      · by_cases hc2:e < -dfS P s
        · simp only [hc2,or_true,if_true] at hK
          simp [hc,hc2];exact hK
        · simp only [hc,hc2,or_self,if_false] at hK
          simp [hc,hc2];exact hK
end
end Go.Proofs.Ytclghkegfpcdpaa.Vm
namespace Go.Proofs.Ytclghkegfpcdpaa.Vm
open Go
set_option maxRecDepth 100000
set_option maxHeartbeats 1000000
set_option linter.unusedSimpArgs false
set_option linter.unusedVariables false
attribute [-simp] List.getD_eq_getElem?_getD
section
variable {lim:Nat}{H H':Hp}{K:V→Hp→Prop}{v pv sv:V}{ps:List (V×V)}{pcs P:List Pc}{S:List Sm}{e:Int}{ws:List V}{c:Cp}
theorem seams_more {pcs:List Pc}{ease:Int}{sm:List Sm}{k i:Nat}(h:seamE pcs ease (sm.take i) (sm.getD i default)=0):seamsE pcs ease sm (k+1) i=seamsE pcs ease sm k (i+1):=by
  simp only [seamsE,h,if_true]
theorem seams_stop {pcs:List Pc}{ease:Int}{sm:List Sm}{k i:Nat}(h:seamE pcs ease (sm.take i) (sm.getD i default)≠0):seamsE pcs ease sm (k+1) i=seamE pcs ease (sm.take i) (sm.getD i default):=by
  simp only [seamsE,h,if_false]
theorem seams_upto {pcs:List Pc}{ease:Int}{sm:List Sm}:∀{n:Nat},n≤sm.length→(∀t,t<n→seamE pcs ease (sm.take t) (sm.getD t default)=0)→seamsE pcs ease sm sm.length 0=seamsE pcs ease sm (sm.length-n) n
  | 0,_,_=>rfl
  | n+1,hn,h=>by
    rw [seams_upto (n:=n) (by omega) (fun t ht=>h t (by omega)),show sm.length-n=sm.length-(n+1)+1 by omega,seams_more (h n (by omega))]
theorem seams_err {pcs:List Pc}{ease:Int}{sm:List Sm}{n:Nat}(hn:n<sm.length)(h:∀t,t<n→seamE pcs ease (sm.take t) (sm.getD t default)=0)(hne:seamE pcs ease (sm.take n) (sm.getD n default)≠0):seamsE pcs ease sm sm.length 0=seamE pcs ease (sm.take n) (sm.getD n default):=by
  rw [seams_upto (n:=n) (by omega) h,show sm.length-n=sm.length-(n+1)+1 by omega,seams_stop hne]
theorem seams_fine {pcs:List Pc}{ease:Int}{sm:List Sm}(h:∀t,t<sm.length→seamE pcs ease (sm.take t) (sm.getD t default)=0):seamsE pcs ease sm sm.length 0=0:=by
  rw [seams_upto (n:=sm.length) (Nat.le_refl _) h,Nat.sub_self];rfl
theorem pcs_all {P:List Pc}:((List.range P.length).all fun q=>pieceB (P.getD q default))=true↔PcsOk P:=by
  rw [List.all_eq_true]
  exact ⟨fun h q hq=>h q (List.mem_range.2 hq),fun h q hq=>h q (List.mem_range.1 hq)⟩
theorem r02_Validate (hc:CapV H ws c) (hb:c.P.length≤1000000∧c.S.length≤1000000∧∀q,q<c.P.length→(c.P.getD q default).s.length≤100000) (hK:K (.int .i64 (capE c)) H):VCall tbl lim 19 [.agg ws] H K:=by
  cases hc with
  | mk hp hsv =>
  rename_i pv sv ps P S e
  simp only at hb
  refine VCall_fn tbl_at19 rfl ?_
  simp [vf19,rd0,rd1',rd2',hp.lst.stor,hp.lst.one,hsv.stor,hsv.one,hp.vlen]
  refine r02_within ?_
  unfold capE at hK
  simp only at hK
  by_cases h1:P.length<1∨8<P.length
  · have e1:decide ((1:Int)≤(P.length:Int)∧(P.length:Int)≤8)=false:=by rw [decide_eq_false_iff_not];omega
    rw [if_pos h1] at hK
    simp only [e1]
    simp;exact hK
  have e1:decide ((1:Int)≤(P.length:Int)∧(P.length:Int)≤8)=true:=by rw [decide_eq_true_eq];omega
  rw [if_neg h1] at hK
  simp only [e1]
  simp [rd0,rd1',rd2']
  refine r02_within ?_
  by_cases h2:e<0∨5<e
  · have e2:decide (0≤e∧e≤5)=false:=by rw [decide_eq_false_iff_not];omega
    rw [if_pos h2] at hK
    simp only [e2]
    simp;exact hK
  have e2:decide (0≤e∧e≤5)=true:=by rw [decide_eq_true_eq];omega
  rw [if_neg h2] at hK
  simp only [e2]
  simp
  refine wLoop_up P.length (fun i fr L H'=>(fr 1=.lp 0 0∧fr 3=.int .i64 i)∧L=[[pv,sv,.int .i64 e]]∧H'=H∧∀k,k<i→pieceB (P.getD k default)=true) ⟨by simp,rfl,rfl,fun k hk=>by omega⟩ ?_
  rintro i hi fr L H1 ⟨⟨f1,f3⟩,rfl,rfl,hall⟩
  simp [f1,f3,rd0,hp.vlen]
  refine cond_dec (fun ht => ?_) fun hfl => ?_
  · have ht:i<P.length:=by omega
    obtain ⟨s1,s2⟩:=hp.at' i ht
    simp [f1,f3,rd0,hp.at ht,hp.ld2 ht,s1.stor,s2.stor]
    refine r02_pieceOK (p:=P.getD i default) s1 s2 (hb.2.2 i ht) ?_
    by_cases g:pieceB (P.getD i default)=true
    · simp (disch:=omega) [f1,f3,g,wrap_i64]
      refine ⟨ht,fun k hk => ?_⟩
      by_cases ek:k=i
      · subst ek;exact g
      · exact hall k (by omega)
    · have hn:((List.range P.length).all fun q=>pieceB (P.getD q default))=false:=by
        rw [Bool.eq_false_iff];intro hh;exact g (pcs_all.1 hh i ht)
      rw [hn] at hK
      have g:pieceB (P.getD i default)=false:=by simpa using g
      simp at hK
      simp [g];exact hK
  · have:i=P.length:=by omega
    subst this
    have hok:PcsOk P:=hall
    rw [pcs_all.2 hok] at hK
    simp only [Bool.not_true,Bool.false_eq_true,if_false] at hK
    simp [f1,f3]
    refine wLoop_up S.length (fun i fr L H'=>(fr 1=.lp 0 0∧fr 4=.int .i64 i)∧L=[[pv,sv,.int .i64 e]]∧H'=H1∧∀t,t<i→seamE P e (S.take t) (S.getD t default)=0) ⟨by simp [f1],rfl,rfl,fun k hk=>by omega⟩ ?_
    clear f1 f3 hall fr hfl hi
    rintro i hi fr L H2 ⟨⟨f1,f4⟩,rfl,rfl,hall⟩
    simp [f1,f4,rd1',hsv.len]
    refine cond_dec (fun ht => ?_) fun hfl => ?_
    · have ht:i<S.length:=by omega
      simp [f1,f4,rdA3]
      refine r02_seamError hp hsv ht hok ⟨hb.1,hb.2.1⟩ (by omega) ?_
      by_cases g:seamE P e (S.take i) (S.getD i default)=0
      · simp (disch:=omega) [f1,f4,g,wrap_i64]
        refine ⟨ht,fun k hk => ?_⟩
        by_cases ek:k=i
        · subst ek;exact g
        · exact hall k (by omega)
      · rw [seams_err ht hall g] at hK
        simp [g];exact hK
    · have:i=S.length:=by omega
      subst this
      rw [seams_fine hall] at hK
      simp;exact hK
def SewR (M:List ((Int×Int)×Bool))(pre:List Sm):Prop:=∀a i,(look (a,i) M).getD false=pre.any fun t=>usesB t a i
theorem SewR.nil:SewR [] []:=fun a i=>by simp [look_nil]
theorem SewR.snoc {M:List ((Int×Int)×Bool)} {pre:List Sm} {s:Sm} (h:SewR M pre):SewR (putA (s.B,s.J) true (putA (s.A,s.I) true M)) (pre++[s]):=by
  intro a i
  rw [look_put,look_put,List.any_append,←h a i]
  simp only [List.any_cons,List.any_nil,Bool.or_false,usesB,Prod.mk.injEq]
  by_cases h1:a=s.B∧i=s.J
  · simp [h1.1,h1.2]
  · rw [if_neg h1]
    by_cases h2:a=s.A∧i=s.I
    · simp [h2.1,h2.2]
    · rw [if_neg h2]
      have e1:(decide (s.A=a)&&decide (s.I=i))=false:=by
        rw [Bool.and_eq_false_iff]
        by_cases e:s.A=a
        · right;rw [decide_eq_false_iff_not];exact fun e2=>h2 ⟨e.symm,e2.symm⟩
        · left;exact decide_eq_false e
      have e2:(decide (s.B=a)&&decide (s.J=i))=false:=by
        rw [Bool.and_eq_false_iff]
        by_cases e:s.B=a
        · right;rw [decide_eq_false_iff_not];exact fun e2=>h1 ⟨e.symm,e2.symm⟩
        · left;exact decide_eq_false e
      rw [e1,e2];simp
theorem used_or {pre:List Sm}{s:Sm}:usedB pre s=((pre.any fun t=>usesB t s.A s.I)||(pre.any fun t=>usesB t s.B s.J)):=by
  induction pre with
  | nil=>rfl
  | cons t pre ih =>
    simp only [usedB,List.any_cons] at ih ⊢
    rw [ih]
    cases usesB t s.A s.I<;>cases usesB t s.B s.J<;>simp
theorem take_next {S:List Sm}{n:Nat}(hn:n<S.length):S.take (n+1)=S.take n++[S.getD n default]:=by
  rw [List.take_add_one,List.getElem?_eq_getElem hn,List.getD_eq_getElem?_getD,List.getElem?_eq_getElem hn];rfl
theorem veqA_22 {a b c d:Int}:veqA false [.int .i64,.int .i64] (.agg [.int .i64 a,.int .i64 b]) (.agg [.int .i64 c,.int .i64 d])=some (.bool (decide (a=c)&&decide (b=d))):=by rw [veqA_2];simp
theorem zs4:ints (zs 4)=[.int .i64 0,.int .i64 0,.int .i64 0,.int .i64 0]:=Eq.trans rfl rfl
theorem surf_validateSeams (hp:PcsV H pv ps P) (hsv:LstV smC H sv S) (hok:PcsOk P) (hb:S.length≤1000000) (he:0≤e∧e≤5) (hlim:lim≤H.length) (hK:∀H',HX H H'→K (.int .i64 (seamsE P e S S.length 0)) H') :
    VCall tbl lim 54 [.agg [pv,sv,.int .i64 e]] H K:=by
  refine VCall_fn tbl_at54 rfl ?_
  simp [vf54,rd0,rd1',rd2',hp.lst.stor,hp.lst.one,hsv.stor,hsv.one,hsv.len]
  refine wLoop_up S.length (fun i fr L H'=>∃M X,(fr 1=.lp 0 0∧fr 3=.mp H.length∧fr 11=sv∧fr 12=.int .i64 S.length∧fr 13=.int .i64 i)∧L=[pv,sv,.int .i64 e] :: X∧H'=H++[.map (mE kI2 .bool M)]∧SewR M (S.take i)∧∀t,t<i→seamE P e (S.take t) (S.getD t default)=0) ⟨[],[],by simp,by simp,rfl,by simpa using SewR.nil,fun k hk=>by omega⟩ ?_
  rintro i hi fr L H1 ⟨M,X,⟨f1,f3,f11,f12,f13⟩,rfl,rfl,hM,hall⟩
  simp [f1,f3,f11,f12,f13]
  have hx:∀x,HX H (H++[x]):=fun x=>HX.push
  refine cond_dec (fun ht => ?_) fun hfl => ?_
  · have ht:i<S.length:=by omega
    have hp1:=hp.mono (hx (.map (mE kI2 .bool M)))
    have hs1:=hsv.mono (hx (.map (mE kI2 .bool M)))
    have ld:=fun L=>hs1.load ht (L:=L)
    generalize hs:S.getD i default=s at ld
    have ec:smC.cells s=[.int .i64 s.A,.int .i64 s.I,.int .i64 s.B,.int .i64 s.J]:=rfl
    rw [ec] at ld
    have hseam:=seamE_eq (pcs:=P) (ease:=e) (pre:=S.take i) (s:=s)
    simp [f1,f3,f11,f12,f13,hs1.at ht,ld,zs4,lastO,lastS,splice,spl4,rd0,rd1',rd2',rd3',rdA3,hp.lst.stor,hp.lst.one,hsv.stor,hsv.one]
    refine surf_hasSide hp1 hsv.stor hsv.one ?_
    by_cases h1:sdOk P s.A s.I=true
    case neg =>
      have h1:sdOk P s.A s.I=false:=by simpa using h1
      have h5:seamE P e (S.take i) (S.getD i default)=5:=by rw [hs,hseam];simp [h1]
      have hK5:=hK _ (hx (.map (mE kI2 .bool M)))
      rw [seams_err ht hall (by omega),h5] at hK5
      simp [h1];exact hK5
    simp [f1,f3,f11,f12,f13,h1,lastO,lastS,rd0,rd1',rd2',rd3',rdA3,hp.lst.stor,hp.lst.one,hsv.stor,hsv.one]
    refine surf_hasSide hp1 hsv.stor hsv.one ?_
    by_cases h2:sdOk P s.B s.J=true
    case neg =>
      have h2:sdOk P s.B s.J=false:=by simpa using h2
      have h5:seamE P e (S.take i) (S.getD i default)=5:=by rw [hs,hseam];simp [h1,h2]
      have hK5:=hK _ (hx (.map (mE kI2 .bool M)))
      rw [seams_err ht hall (by omega),h5] at hK5
      simp [h2];exact hK5
    rw [h1,h2] at hseam
    simp only [Bool.and_self,Bool.not_true,Bool.false_eq_true,if_false] at hseam
    have hg:∀a b,vmget true [.int .i64,.int .i64] false (.bool false) (H++[.map (mE kI2 .bool M)]) (.mp H.length) (.agg [.int .i64 a,.int .i64 b])=some (.bool ((S.take i).any fun t=>usesB t a b)):=by
      intro a b
      have:=vmgetE (K:=kI2) (vc:=V.bool) (l:=M) (a:=(a,b)) (z:=false) (b:=H.length) (H:=H++[.map (mE kI2 .bool M)]) (by simp)
      rw [hM a b] at this
      exact this
    have hself:veqA false [.int .i64,.int .i64] (.agg [.int .i64 s.A,.int .i64 s.I]) (.agg [.int .i64 s.B,.int .i64 s.J])=some (.bool (selfB s)):=veqA_22
    have h7:(selfB s||usedB (S.take i) s)=true→K (.int .i64 7) (H++[.map (mE kI2 .bool M)]):=by
      intro hh
      have h5:seamE P e (S.take i) (S.getD i default)=7:=by rw [hs,hseam,if_pos hh]
      have hK5:=hK _ (hx (.map (mE kI2 .bool M)))
      rwa [seams_err ht hall (by omega),h5] at hK5
    rw [used_or] at h7
    by_cases h3:selfB s=true
    · have h7:=h7 (by simp [h3])
      simp [f1,f3,f11,f12,f13,h2,lastO,lastS,rd0,rd1',rd2',rd3',rdA3,rdA2,hp.lst.stor,hp.lst.one,hsv.stor,hsv.one,splice,hself,hg,h3]
      exact h7
    have h3:selfB s=false:=by simpa using h3
    by_cases u1:((S.take i).any fun t=>usesB t s.A s.I)=true
    · have h7:=h7 (by simp [u1])
      simp [f1,f3,f11,f12,f13,h2,lastO,lastS,rd0,rd1',rd2',rd3',rdA3,rdA2,hp.lst.stor,hp.lst.one,hsv.stor,hsv.one,splice,hself,hg,h3,u1,-List.any_eq_true]
      exact h7
    have u1:((S.take i).any fun t=>usesB t s.A s.I)=false:=Bool.eq_false_iff.2 u1
    by_cases u2:((S.take i).any fun t=>usesB t s.B s.J)=true
    · have h7:=h7 (by simp [u2])
      simp [f1,f3,f11,f12,f13,h2,lastO,lastS,rd0,rd1',rd2',rd3',rdA3,rdA2,hp.lst.stor,hp.lst.one,hsv.stor,hsv.one,splice,hself,hg,h3,u1,u2,-List.any_eq_true]
      exact h7
    have u2:((S.take i).any fun t=>usesB t s.B s.J)=false:=Bool.eq_false_iff.2 u2
    clear h7
    have hseam:seamE P e (S.take i) s=if e<dfS P s∨e < -dfS P s then 8 else 0:=by
      rw [hseam,used_or,h3,u1,u2];rfl
    have hput:∀(M:List ((Int×Int)×Bool)) a b,vmput lim true [.int .i64,.int .i64] (H++[.map (mE kI2 .bool M)]) (.mp H.length) (.agg [.int .i64 a,.int .i64 b]) (.bool true)=some (H++[.map (mE kI2 .bool (putA (a,b) true M))]):=by
      intro M a b
      have:=vmputE (K:=kI2) (vc:=V.bool) (l:=M) (a:=(a,b)) (u:=true) (b:=H.length) (H:=H++[.map (mE kI2 .bool M)]) (lim:=lim) (by simp) hlim rfl
      rw [lastS] at this
      exact this
    have hp2:=hp.mono (hx (.map (mE kI2 .bool (putA (s.B,s.J) true (putA (s.A,s.I) true M)))))
    obtain ⟨a1,a2,a3,a4⟩:=sd_ok h1
    obtain ⟨b1,b2,b3,b4⟩:=sd_ok h2
    have ad1:=hp2.addr (i:=s.A) (by omega)
    have ad2:=hp2.addr (i:=s.B) (by omega)
    have ai1:=(hp2.at' _ a1).1.addr (i:=s.I) (by simp only [ksN] at a2;omega)
    have ai2:=(hp2.at' _ b1).1.addr (i:=s.J) (by simp only [ksN] at b2;omega)
    have li1:=fun L=>(hp2.at' _ a1).1.load (i:=s.I.toNat) a2 (L:=L)
    have li2:=fun L=>(hp2.at' _ b1).1.load (i:=s.J.toNat) b2 (L:=L)
    have hd:=dfS_bd hok h1 h2
    have ed:(P.getD s.A.toNat default).s.getD s.I.toNat 0-(P.getD s.B.toNat default).s.getD s.J.toNat 0=dfS P s:=rfl
    have w1:IntKind.wrap .i64 (dfS P s)=dfS P s:=wrap_i64 (by omega) (by omega)
    have w2:IntKind.wrap .i64 (-dfS P s) = -dfS P s:=wrap_i64 (by omega) (by omega)
    simp [f1,f3,f11,f12,f13,h2,lastO,lastS,rd0,rd1',rd2',rd3',rdA3,rdA2,hp.lst.stor,hp.lst.one,hsv.stor,hsv.one,splice,hself,hg,h3,u1,u2,hput,-List.any_eq_true,-List.any_eq_false,ad1,ad2,hp2.fa a1,hp2.fa b1,hp2.ld0 a1,hp2.ld0 b1,ai1,ai2,li1,li2,ed,w1,w2]
    by_cases hc:e<dfS P s∨e < -dfS P s
    · have h8:seamE P e (S.take i) (S.getD i default)=8:=by rw [hs,hseam,if_pos hc]
      have hK5:=hK _ (hx (.map (mE kI2 .bool (putA (s.B,s.J) true (putA (s.A,s.I) true M)))))
      rw [seams_err ht hall (by omega),h8] at hK5
      have hc:e<max (dfS P s) (-dfS P s):=by omega
      simp [hc];exact hK5
    · have h8:seamE P e (S.take i) (S.getD i default)=0:=by rw [hs,hseam,if_neg hc]
      have hc:¬e<max (dfS P s) (-dfS P s):=by omega
      simp (disch:=omega) [hc,f1,f3,f11,f12,f13,wrap_i64]
      refine ⟨ht,_,rfl,?_,fun k hk => ?_⟩
      · rw [take_next ht,hs];exact hM.snoc
      · by_cases ek:k=i
        · subst ek;exact h8
        · exact hall k (by omega)
  · have:i=S.length:=by omega
    subst this
    have hK5:=hK _ (hx (.map (mE kI2 .bool M)))
    rw [seams_fine hall] at hK5
    simp;exact hK5
theorem surf_Validate (hc:CapV H ws c) (hb:c.S.length≤1000000) (hlim:lim≤H.length) (hK:∀H',HX H H'→K (.int .i64 (capE c)) H'):VCall tbl lim 18 [.agg ws] H K:=by
  cases hc with
  | mk hp hsv =>
  rename_i pv sv ps P S e
  simp only at hb
  refine VCall_fn tbl_at18 rfl ?_
  unfold capE at hK
  simp only at hK
  by_cases h1:P.length<1∨8<P.length
  · have e1:(decide ((P.length:Int)<1)||decide (8<(P.length:Int)))=true:=by simp;omega
    rw [if_pos h1] at hK
    simp [vf18,rd0,rd1',rd2',hp.lst.stor,hp.lst.one,hsv.stor,hsv.one,hp.vlen,e1]
    exact hK _ HX.refl
  have e1:decide ((P.length:Int)<1)=false:=by simp;omega
  have e2:decide (8<(P.length:Int))=false:=by simp;omega
  rw [if_neg h1] at hK
  by_cases h2:e<0∨5<e
  · have e3:(decide (e<0)||decide (5<e))=true:=by simp;omega
    rw [if_pos h2] at hK
    simp [vf18,rd0,rd1',rd2',hp.lst.stor,hp.lst.one,hsv.stor,hsv.one,hp.vlen,e1,e2,e3]
    exact hK _ HX.refl
  have e3:decide (e<0)=false:=by simp;omega
  have e4:decide (5<e)=false:=by simp;omega
  rw [if_neg h2] at hK
  simp [vf18,rd0,rd1',rd2',hp.lst.stor,hp.lst.one,hsv.stor,hsv.one,hp.vlen,e1,e2,e3,e4]
  refine wLoop_up P.length (fun i fr L H'=>∃X,(fr 1=.lp 0 0∧fr 24=pv∧fr 25=.int .i64 P.length∧fr 26=.int .i64 i)∧L=[pv,sv,.int .i64 e] :: X∧H'=H∧∀k,k<i→pieceB (P.getD k default)=true) ⟨[],by simp,rfl,rfl,fun k hk=>by omega⟩ ?_
  rintro i hi fr L H1 ⟨X,⟨f1,f24,f25,f26⟩,rfl,rfl,hall⟩
  simp [f1,f24,f25,f26]
  refine cond_dec (fun ht => ?_) fun hfl => ?_
  · have ht:i<P.length:=by omega
    obtain ⟨s1,s2⟩:=hp.at' i ht
    simp [f1,f24,f25,f26,rd0,rdA2,hp.at ht,hp.ld2 ht,s1.stor,s2.stor,s1.one,s2.one,lastO,lastS,splice]
    refine surf_isPiece (p:=P.getD i default) s1 s2 ?_
    by_cases g:pieceB (P.getD i default)=true
    · simp (disch:=omega) [f1,f24,f25,f26,g,wrap_i64]
      refine ⟨ht,fun k hk => ?_⟩
      by_cases ek:k=i
      · subst ek;exact g
      · exact hall k (by omega)
    · have hn:((List.range P.length).all fun q=>pieceB (P.getD q default))=false:=by
        rw [Bool.eq_false_iff];intro hh;exact g (pcs_all.1 hh i ht)
      rw [hn] at hK
      have g:pieceB (P.getD i default)=false:=by simpa using g
      simp at hK
      simp [g];exact hK _ HX.refl
  · have:i=P.length:=by omega
    subst this
    have hok:PcsOk P:=hall
    rw [pcs_all.2 hok] at hK
    simp only [Bool.not_true,Bool.false_eq_true,if_false] at hK
    simp [f1,f24,f25,f26,rdA3]
    refine surf_validateSeams hp hsv hok hb (by omega) hlim fun H2 x2 => ?_
    simp
    exact hK _ x2
end
end Go.Proofs.Ytclghkegfpcdpaa.Vm
namespace Go.Proofs.Ytclghkegfpcdpaa.Vm
open Go
set_option maxRecDepth 100000
set_option maxHeartbeats 1000000
set_option linter.unusedSimpArgs false
set_option linter.unusedVariables false
attribute [-simp] List.getD_eq_getElem?_getD
def sdP (P:List Pc)(L:List (Nat×Nat))(i:Nat):Sid:=⟨lnN P i,anN P i,nxN P i,bfN P i,if alf L i=i then -1 else (alf L i:Nat)⟩
def layL (P:List Pc)(L:List (Nat×Nat)):List Sid:=(List.range (nsN P)).map (sdP P L)
theorem layL_len {P:List Pc}{L:List (Nat×Nat)}:(layL P L).length=nsN P:=by simp [layL]
theorem layL_get {P:List Pc}{L:List (Nat×Nat)}{i:Nat}(hi:i<nsN P):(layL P L).getD i default=sdP P L i:=getD_mapR hi
theorem ext_getDA {α:Type}[Inhabited α]{l m:List α}(h:l.length=m.length)(hk:∀k,k<l.length→l.getD k default=m.getD k default):l=m:=by
  apply List.ext_getElem h
  intro i h1 h2
  have:=hk i h1
  simpa [List.getD_eq_getElem?_getD,h1,h2] using this
theorem bas_lay {P:List Pc}:basT P P.length=layL P []:=by
  refine ext_getDA (by rw [basT_len,layL_len];rfl) fun i hi => ?_
  rw [basT_len] at hi
  rw [layL_get hi]
  obtain ⟨q,j,h1,h2,rfl⟩:=off_loc hi
  have h3:=nx_at h1 h2
  have h4:=bf_at h1 h2
  rw [sdP,ln_at h1 h2,an_at h1 h2,h3,h4,bas_get h1 h2]
  simp only [alf,if_true,sidE];rfl
theorem getD_setA {α:Type}[Inhabited α]{l:List α}{i t:Nat}{x:α}(h:i<l.length):(l.set i x).getD t default=if t=i then x else l.getD t default:=by
  simp only [List.getD_eq_getElem?_getD,List.getElem?_set]
  by_cases e:i=t
  · subst e;simp [h]
  · rw [if_neg e,if_neg (fun h=>e h.symm)]
theorem lay_seam {P:List Pc}{L:List (Nat×Nat)}{a b:Nat}(h:SmOk (nsN P) ((a,b) :: L)):((layL P L).set a { sdP P L a with p:=(b:Nat) }).set b { sdP P L b with p:=(a:Nat) }=layL P ((a,b) :: L):=by
  have hc:=fun {c}=>alf_cons h (c:=c)
  cases h with
  | cons h h1 h2 h3 h4 =>
  simp only at h1 h2 h3
  refine ext_getDA (by simp [layL_len]) fun i hi => ?_
  have hi:i<nsN P:=by simpa [layL_len] using hi
  rw [getD_setA (by simpa [layL_len] using h2),getD_setA (by simpa [layL_len] using h1),layL_get hi,layL_get hi]
  by_cases e1:i=b
  · subst e1
    have hne:¬i=a:=fun e=>h3 e.symm
    have e:alf ((a,i) :: L) i=a:=by rw [hc,if_neg hne,if_pos rfl]
    rw [if_pos rfl];simp only [sdP,e];rw [if_neg h3]
  · rw [if_neg e1]
    by_cases e2:i=a
    · subst e2
      have e:alf ((i,b) :: L) i=b:=by rw [hc,if_pos rfl]
      rw [if_pos rfl];simp only [sdP,e];rw [if_neg (fun e=>e1 e.symm)]
    · have e:alf ((a,b) :: L) i=alf L i:=by rw [hc,if_neg e2,if_neg e1]
      rw [if_neg e2];simp only [sdP,e]
theorem lay_ok {P:List Pc}{L:List (Nat×Nat)}(h:SmOk (nsN P) L)(hn:nsN P≤100000):LayOk (layL P L) where
  n := fun i hi=>by
    rw [layL_len] at hi ⊢
    rw [layL_get hi]
    have:=nx_pr.lt i hi
    simp only [sdP];omega
  p := fun i hi=>by
    rw [layL_len] at hi ⊢
    rw [layL_get hi]
    have:=h.pr.lt i hi
    simp only [sdP];split<;>omega
  len:=by rw [layL_len];exact hn
theorem lay_free {P:List Pc}{L:List (Nat×Nat)}{i:Nat}(hi:i<nsN P):((layL P L).getD i default).p = -1↔alf L i=i:=by
  rw [layL_get hi];simp only [sdP];split<;>(constructor<;>intro h)<;>first | assumption | rfl | omega | contradiction
theorem wlk_it {P:List Pc}{L:List (Nat×Nat)}(h:SmOk (nsN P) L){c:Nat}(hc:c<nsN P):∀{k:Nat},(∀i,i<k→alf L (itN (nuN (nxN P) L) i c)≠itN (nuN (nxN P) L) i c)→wlk (layL P L) c k=itN (nuN (nxN P) L) k c
  | 0,_=>rfl
  | k+1,hf=>by
    have ih:=wlk_it h hc (k:=k) fun i hi=>hf i (by omega)
    have hlt:=(nu_pr nx_pr h).it hc k
    have hk:=hf k (by omega)
    simp only [wlk,ih,itN]
    rw [layL_get hlt]
    simp only [sdP,hk,if_false,Int.toNat_natCast]
    rw [layL_get (h.pr.lt _ hlt)]
    simp only [sdP,Int.toNat_natCast];rfl
section
variable {n lim:Nat}{H H0 H':Hp}{K:V→Hp→Prop}{v lv fv pv sv:V}{ps:List (V×V)}{pcs P:List Pc}{S:List Sm}{e:Int}{ws:List V}{c:Cp}{l:List Sid}{f:List Int}
theorem OwnV.keepB (h:OwnV n H v f)(hk:∀b o m z,v=.sl b o m z→H'[b]? = H[b]?):OwnV n H' v f:=by
  cases h with
  | nil=>exact .nil
  | row h1 h3=>exact .row h1 (by rw [hk _ _ _ _ rfl];exact h3)
theorem OwnT.keepB {α:Type}{k:Nat}{c:Cod α k}{l:List α}(h:OwnT n c H v l)(hk:∀b o m z,v=.sl b o m z→H'[b]? = H[b]?):OwnT n c H' v l:=by
  cases h with
  | nil=>exact .nil
  | row h1 h3=>exact .row h1 (by rw [hk _ _ _ _ rfl];exact h3)
theorem OwnT.belowB {α:Type}{k:Nat}{c:Cod α k}{l:List α}(h:OwnT n c H v l):∀b o m z,v=.sl b o m z→n≤b∧b<H.length:=by
  rintro b o m z rfl
  cases h with
  | row h1 h3=>exact ⟨h1,(List.getElem?_eq_some_iff.1 h3).1⟩
theorem OwnV.belowB (h:OwnV n H v f):∀b o m z,v=.sl b o m z→n≤b∧b<H.length:=by
  rintro b o m z rfl
  cases h with
  | row h1 h3=>exact ⟨h1,(List.getElem?_eq_some_iff.1 h3).1⟩
theorem OwnV.appendF (h:OwnV n H v f){x:Int}(hn:lim≤n∧n≤H.length)(hl:f.length<1000000) :
    ∃v' H',vappend lim 1 8 (H++[.row [.int .i64 x] true]) v (.sl H.length 0 1 1)=some (v',H')∧OwnV n H' v' (f++[x])∧(∀H0,HX H0 H→H0.length≤n→HX H0 H')∧H.length≤H'.length∧(∀b',b'<H.length→(∀o z y,v≠.sl b' o z y)→H'[b']? = H[b']?)∧∀b o z y,v'=.sl b o z y→H.length≤b:=by
  refine ⟨_,_,h.append ⟨hn.1,hl⟩,h.ap hn.2,fun H0 hx h0=>h.apX hx h0,h.apLen,fun b' hb' hne => ?_,fun b o z y e=>by cases e;omega⟩
  cases h with
  | nil=>simp only [apH];rw [List.getElem?_append_left (by simp;omega),List.getElem?_append_left hb']
  | row h1 h3 =>
    rename_i b
    simp only [apH]
    rw [List.getElem?_append_left (by simp;omega),List.getElem?_set_ne (fun e=>hne _ _ _ (by rw [e])),List.getElem?_append_left hb']
theorem OwnT.appendF2 {α:Type}{k:Nat}{c:Cod α k}{l:List α}(h:OwnT n c H v l){lim bytes:Nat}{x:α}{cs:List V}(hcs:c.cells x=cs)(hn:lim≤n∧n≤H.length)(hb:bytes≤1000)(hl:l.length<1000000) :
    ∃v' H',vappend lim k bytes (H++[.row cs true]) v (.sl H.length 0 1 k)=some (v',H')∧OwnT n c H' v' (l++[x])∧(∀H0,HX H0 H→H0.length≤n→HX H0 H')∧H.length≤H'.length∧(∀b',b'<H.length→(∀o z y,v≠.sl b' o z y)→H'[b']? = H[b']?)∧∀b o z y,v'=.sl b o z y→H.length≤b:=by
  have hh:=h
  subst hcs
  obtain ⟨v',H',a1,a2,a3,a4,a5,a6⟩:=h.append (lim:=lim) (bytes:=bytes) (x:=x) rfl hn hb hl
  refine ⟨v',H',a1,a2,a3,by omega,a6,?_⟩
  have hy:LstV c (H++[.row (c.cells x) true]) (.sl H.length 0 1 k) [x]:=by
    have:=LstV.sl (c:=c) (l:=[x]) (off:=0) (H:=H++[.row (c.cells x) true]) (b:=H.length) (own:=true) (cs:=c.cells x) List.getElem?_concat_length (by simp [c.len]) (by simp [Cod.all_one];rw [List.take_of_length_le (by rw [c.len];omega)])
    simpa using this
  have hb1:(l.length+1)*bytes≤1000000*1000:=Nat.mul_le_mul (by omega) hb
  have hb2:1*bytes≤1000000*1000:=Nat.mul_le_mul (by omega) hb
  rintro b o z y rfl
  cases hh with
  | nil =>
    simp [vappend,hy.cells,hy.len,show bytes≤140737488355328 by omega] at a1
    omega
  | row h1 h2 =>
    rename_i b'
    have hbl:=(List.getElem?_eq_some_iff.1 h2).1
    have h2':(H++[Blk.row (c.cells x) true])[b']? = some (.row (c.all l) true):=by rw [List.getElem?_append_left hbl];exact h2
    simp [vappend,hy.cells,hy.len,h2',Cod.all_len,show lim≤b' by omega,show (l.length+1)*bytes≤140737488355328 by omega,show l.length+1<4611686018427387904 by omega] at a1
    omega
structure LayS (n:Nat)(H0 H:Hp)(lv fv:V)(l:List Sid)(f:List Int):Prop where
  hx:HX H0 H
  ol:OwnT n sdC H lv l
  of:OwnV n H fv f
  ap:∀b o z y o' z' y',lv=.sl b o z y→fv=.sl b o' z' y'→False
theorem LayS.pushF (h:LayS n H0 H lv fv l f){x:Int}(hn:lim≤n∧H0.length≤n∧n≤H.length)(hl:f.length<1000000) :
    ∃v' H',vappend lim 1 8 (H++[.row [.int .i64 x] true]) fv (.sl H.length 0 1 1)=some (v',H')∧LayS n H0 H' lv v' l (f++[x])∧H.length≤H'.length:=by
  obtain ⟨v',H',a1,a2,a3,a4,a5,a6⟩:=h.of.appendF (x:=x) ⟨hn.1,hn.2.2⟩ hl
  refine ⟨v',H',a1,⟨a3 _ h.hx hn.2.1,h.ol.keepB fun b o m z e=>a5 b (h.ol.belowB _ _ _ _ e).2 fun o' z' y' e'=>h.ap _ _ _ _ _ _ _ e e',a2,fun b o z y o' z' y' e e' => ?_⟩,a4⟩
  have:=(h.ol.belowB _ _ _ _ e).2
  have:=a6 _ _ _ _ e'
  omega
theorem LayS.pushL (h:LayS n H0 H lv fv l f){x:Sid}{cs:List V}(hcs:sdC.cells x=cs)(hn:lim≤n∧H0.length≤n∧n≤H.length)(hl:l.length<1000000) :
    ∃v' H',vappend lim 5 40 (H++[.row cs true]) lv (.sl H.length 0 1 5)=some (v',H')∧LayS n H0 H' v' fv (l++[x]) f∧H.length≤H'.length:=by
  obtain ⟨v',H',a1,a2,a3,a4,a5,a6⟩:=h.ol.appendF2 (lim:=lim) (bytes:=40) hcs ⟨hn.1,hn.2.2⟩ (by omega) hl
  refine ⟨v',H',a1,⟨a3 _ h.hx hn.2.1,a2,h.of.keepB fun b o m z e=>a5 b (h.of.belowB _ _ _ _ e).2 fun o' z' y' e'=>h.ap _ _ _ _ _ _ _ e' e,fun b o z y o' z' y' e e' => ?_⟩,a4⟩
  have:=(h.of.belowB _ _ _ _ e').2
  have:=a6 _ _ _ _ e
  omega
theorem LayS.setL (h:LayS n H0 H lv fv l f){l':List Sid}(hl:l'.length=l.length)(hn:H0.length≤n):LayS n H0 (setH H lv (sdC.all l')) lv fv l' f where
  hx:=h.ol.setX h.hx hn
  ol:=h.ol.put hl
  of:=h.of.keepB fun b o m z e=>by
    have:=h.ap
    cases h.ol with
    | nil=>rfl
    | row h1 h2=>simp only [setH];rw [List.getElem?_set_ne];rintro rfl;exact h.ap _ _ _ _ _ _ _ rfl e
  ap:=h.ap
def offL (P:List Pc)(i:Nat):List Int:=(List.range i).map fun q=>(offN P q:Int)
theorem offL_len {P:List Pc}{i:Nat}:(offL P i).length=i:=by simp [offL]
theorem offL_snoc {P:List Pc}{i:Nat}:offL P (i+1)=offL P i++[(offN P i:Int)]:=by simp [offL,List.range_succ]
theorem offL_get {P:List Pc}{i q:Nat}(h:q<i):(offL P i).getD q 0=offN P q:=getD_map_range h
theorem zs5:ints (zs 5)=[.int .i64 0,.int .i64 0,.int .i64 0,.int .i64 0,.int .i64 0]:=Eq.trans rfl rfl
theorem surf_lay (hc:CapV H ws c) (hok:CapOk c) (hlim:lim≤H.length) (hK:∀H' lv,HX H H'→OwnT H.length sdC H' lv (layL c.P (lsN c))→K lv H'):VCall tbl lim 58 [.agg ws] H K:=by
  cases hc with
  | mk hp hsv =>
  rename_i pv sv ps P S e
  refine VCall_fn tbl_at58 rfl ?_
  simp only at hK
  have hnp:=hok.np
  have hns:=hok.ns
  simp only at hnp hns
  have hsl:S.length≤24:=by
    have:=frees_len hok.sm_ok
    rw [ls_len] at this
    simp only at this;omega
  have hks:∀q,q<P.length→3≤ksN P q∧ksN P q≤6:=fun q hq=>hok.ks hq
  have hof:∀q,q≤P.length→offN P q≤48:=fun q hq=>by have:=off_mono (pcs:=P) hq;unfold nsN at hns;omega
  simp [vf58,rd0,rd1',rd2',hp.lst.stor,hp.lst.one,hsv.stor,hsv.one,hp.vlen]
  refine wLoop_up P.length (fun i fr L H'=>∃lv fv X,(fr 1=.lp 0 0∧fr 3=lv∧fr 4=fv∧fr 15=pv∧fr 16=.int .i64 P.length∧fr 17=.int .i64 i)∧L=[pv,sv,.int .i64 e] :: X∧LayS H.length H H' lv fv (basT P i) (offL P i)) ⟨.snil,.snil,[],by simp,by simp,.refl,.nil,.nil,fun b o z y o' z' y' e _=>by cases e⟩ ?_
  rintro i hi fr L H1 ⟨lv,fv,X,⟨f1,f3,f4,f15,f16,f17⟩,rfl,hS⟩
  simp [f1,f3,f4,f15,f16,f17]
  have x1:HX H H1:=hS.hx
  have l1:=x1.len
  refine cond_dec (fun ht => ?_) fun hfl => ?_
  · have ht:i<P.length:=by omega
    have hp1:=hp.mono x1
    obtain ⟨s1,s2⟩:=hp1.at' i ht
    have hpo:=hok.pc i ht
    obtain ⟨g1,g2,g3,g4⟩:=piece_ok hpo
    simp only at g1 g2 g3 g4
    have hl1:=hS.ol.lst.len
    rw [basT_len] at hl1
    have hki:=hks i ht
    have hoi:=hof i (by omega)
    have ksd:ksN P i=(P.getD i default).s.length:=rfl
    obtain ⟨fv2,H2,b1,hS2,l2⟩:=hS.pushF (lim:=lim) (x:=(offN P i:Int)) ⟨hlim,Nat.le_refl _,by omega⟩ (by rw [offL_len];omega)
    have x2:HX H H2:=hS2.hx
    simp [f1,f3,f4,f15,f16,f17,hp1.at ht,hp1.ld2 ht,rd0,rd1',rd2',rdA2,splice,lastO,lastS,s1.stor,s1.one,s2.stor,s2.one,s1.len,hl1,b1]
    refine wLoop_up (ksN P i) (fun j fr L' H'=>∃lv,(fr 1=.lp 0 0∧fr 3=lv∧fr 4=fv2∧fr 6=.lp (X.length+1) 0∧fr 7=.int .i64 (offN P i)∧fr 8=.int .i64 (ksN P i)∧fr 15=pv∧fr 16=.int .i64 P.length∧fr 17=.int .i64 i∧fr 30=.int .i64 (ksN P i)∧fr 31=.int .i64 j)∧L'=[pv,sv,.int .i64 e] :: (X++[[(ps.getD i default).1,(ps.getD i default).2]])∧LayS H.length H H' lv fv2 (basT P i++(List.range j).map (sidE (offN P i) (P.getD i default))) (offL P i++[(offN P i:Int)])) ⟨lv,by simp [f1,f3,f4,f15,f16,f17,ksd],rfl,by simpa using hS2⟩ ?_
    clear f1 f3 f4 f15 f16 f17 hl1 hS hS2 hi fr
    rintro j hj fr L' H3 ⟨lv,⟨f1,f3,f4,f6,f7,f8,f15,f16,f17,f30,f31⟩,rfl,hS3⟩
    have x3:HX H H3:=hS3.hx
    have l3:=x3.len
    simp [f1,f3,f4,f6,f7,f8,f15,f16,f17,f30,f31]
    refine cond_dec (fun hjt => ?_) fun hjf => ?_
    · have hjt:j<ksN P i:=by omega
      have hp3:=hp.mono x3
      obtain ⟨t1,t2⟩:=hp3.at' i ht
      have aa:=t1.addr (i:=(j:Int)) (by rw [←ksd];omega)
      have ab:=t2.addr (i:=(j:Int)) (by rw [g2,←ksd];omega)
      simp only [Int.toNat_natCast] at aa ab
      have la:=fun L=>t1.load (i:=j) (by rw [←ksd];omega) (L:=L)
      have lb:=fun L=>t2.load (i:=j) (by rw [g2,←ksd];omega) (L:=L)
      have e1:((j:Int)+1).tmod (ksN P i:Int)=(((j+1) % ksN P i:Nat):Int):=tmod_nat (j+1) (ksN P i)
      have e2:((j:Int)+(ksN P i:Int)-1).tmod (ksN P i:Int)=(((j+ksN P i-1) % ksN P i:Nat):Int):=by
        rw [show (j:Int)+(ksN P i:Int)-1=((j+ksN P i-1:Nat):Int) by omega];exact tmod_nat _ _
      have hne:(ksN P i:Int)≠0:=by omega
      have m1:(j+1) % ksN P i<ksN P i:=Nat.mod_lt _ (by omega)
      have m2:(j+ksN P i-1) % ksN P i<ksN P i:=Nat.mod_lt _ (by omega)
      obtain ⟨lv2,H4,c1,hS4,l4⟩:=hS3.pushL (lim:=lim) (x:=sidE (offN P i) (P.getD i default) j) (cs:=[.int .i64 ((P.getD i default).s.getD j 0),.int .i64 ((P.getD i default).a.getD j 0),.int .i64 ((offN P i:Int)+((j+1) % ksN P i:Nat)),.int .i64 ((offN P i:Int)+((j+ksN P i-1) % ksN P i:Nat)),.int .i64 (-1)]) (by
        simp only [sdC,Sid.cells,sidE,←ksd,Int.natCast_add]) ⟨hlim,Nat.le_refl _,by omega⟩ (by
        rw [List.length_append,basT_len,List.length_map,List.length_range];omega)
      generalize hm1:(j+1) % ksN P i=r1 at *
      generalize hm2:(j+ksN P i-1) % ksN P i=r2 at *
      have hvr:∀a:Int,vbin .rem (.int .i64 a) (.int .i64 (ksN P i:Int))=some (.int .i64 (a.tmod (ksN P i:Int))):=fun a=>vbin_rem hne
      simp (disch:=omega) [f1,f3,f4,f6,f7,f8,f15,f16,f17,f30,f31,rd0,rd1',lastO,aa,ab,la,lb,wrap_i64,hvr,e1,e2,splice,zs5,c1]
      refine ⟨hjt,?_⟩
      rw [List.range_succ,List.map_append,←List.append_assoc]
      exact hS4
    · have:j=ksN P i:=by omega
      subst this
      simp (disch:=omega) [f1,f3,f4,f6,f7,f8,f15,f16,f17,f30,f31,wrap_i64]
      exact ⟨ht,_,_,⟨rfl,rfl⟩,by rw [offL_snoc];exact hS3⟩
  · have:i=P.length:=by omega
    subst this
    simp [f1,f3,f4,f15,f16,f17,rd1',hsv.len]
    refine wLoop_up S.length (fun i fr L H'=>∃X,(fr 1=.lp 0 0∧fr 3=lv∧fr 4=fv∧fr 65=sv∧fr 66=.int .i64 S.length∧fr 67=.int .i64 i)∧L=[pv,sv,.int .i64 e] :: X∧LayS H.length H H' lv fv (layL P (prL P (S.take i))) (offL P P.length)) ⟨X,by simp [f1,f3,f4],rfl,by
      have e0:prL P (S.take 0)=[]:=by simp [prL]
      rw [e0,←bas_lay];exact hS⟩ ?_
    clear f1 f3 f4 f15 f16 f17 hS hi fr hfl
    rintro i hi fr L H3 ⟨X,⟨f1,f3,f4,f65,f66,f67⟩,rfl,hS3⟩
    have x3:HX H H3:=hS3.hx
    have l3:=x3.len
    simp [f1,f3,f4,f65,f66,f67]
    refine cond_dec (fun ht => ?_) fun hfl => ?_
    · have ht:i<S.length:=by omega
      have hs3:=hsv.mono x3
      have ld:=fun L=>hs3.load ht (L:=L)
      have hso:=hok.sm i ht
      have hpl:prL P (S.take (i+1))=prS P (S.getD i default) :: prL P (S.take i):=by
        rw [take_next ht,prL,List.map_append,List.reverse_append];rfl
      have hsk:=seams_ok hok (n:=i+1) ht
      simp only at hsk
      rw [hpl] at hsk ⊢
      simp only at hso
      generalize hs:S.getD i default=s at ld hso hsk ⊢
      have ec:smC.cells s=[.int .i64 s.A,.int .i64 s.I,.int .i64 s.B,.int .i64 s.J]:=rfl
      rw [ec] at ld
      obtain ⟨⟨q1,q2⟩,_,_,_⟩:=seam_ok hso
      obtain ⟨a1,a2,a3,a4⟩:=sd_ok q1
      obtain ⟨b1,b2,b3,b4⟩:=sd_ok q2
      have oa:=hof s.A.toNat (by omega)
      have ob:=hof s.B.toNat (by omega)
      have ka:=hks _ a1
      have kb:=hks _ b1
      have aa:=hS3.of.sl.addr (i:=s.A) (by rw [offL_len];omega)
      have ab:=hS3.of.sl.addr (i:=s.B) (by rw [offL_len];omega)
      have la:=fun L=>hS3.of.sl.load (i:=s.A.toNat) (by rw [offL_len];omega) (L:=L)
      have lb:=fun L=>hS3.of.sl.load (i:=s.B.toNat) (by rw [offL_len];omega) (L:=L)
      rw [offL_get a1] at la
      rw [offL_get b1] at lb
      have hsk2:=hsk
      generalize hab:prS P s=ab' at hsk hsk2 ⊢
      obtain ⟨a,b⟩:=ab'
      simp only [prS,Prod.mk.injEq] at hab
      cases hsk2 with
      | cons _ h1 h2 h3 h4 =>
      simp only at h1 h2 h3
      have ea:(offN P s.A.toNat:Int)+s.I=(a:Nat):=by omega
      have eb:(offN P s.B.toNat:Int)+s.J=(b:Nat):=by omega
      have wa:IntKind.wrap .i64 (a:Int)=(a:Int):=wrap_i64 (by omega) (by omega)
      have wb:IntKind.wrap .i64 (b:Int)=(b:Int):=wrap_i64 (by omega) (by omega)
      have hll:=layL_len (P:=P) (L:=prL P (S.take i))
      have ga:=hS3.ol.lst.at (i:=a) (by omega)
      have gb:=hS3.ol.lst.at (i:=b) (by omega)
      have fa:vfaddr 4 (ept 5 lv a)=some (eptf 5 lv a 4):=hS3.ol.lst.faddr (by omega)
      have fb:vfaddr 4 (ept 5 lv b)=some (eptf 5 lv b 4):=hS3.ol.lst.faddr (by omega)
      have st1:=fun L=>hS3.ol.store (lim:=lim) (i:=a) (j:=4) (x:=.int .i64 (b:Int)) (y:={ sdP P (prL P (S.take i)) a with p:=(b:Int) }) (L:=L) (sz:=1) hlim (by omega) rfl rfl (by omega) (by
        rw [layL_get h1];rfl)
      have hS4:=hS3.setL (l':=(layL P (prL P (S.take i))).set a { sdP P (prL P (S.take i)) a with p:=(b:Int) }) (by simp) (Nat.le_refl _)
      have st2:=fun L=>hS4.ol.store (lim:=lim) (i:=b) (j:=4) (x:=.int .i64 (a:Int)) (y:={ sdP P (prL P (S.take i)) b with p:=(a:Int) }) (L:=L) (sz:=1) hlim (by simp;omega) rfl rfl (by omega) (by
        rw [getD_setA (by omega),if_neg (fun e=>h3 e.symm),layL_get h2];rfl)
      have hS5:=hS4.setL (l':=((layL P (prL P (S.take i))).set a { sdP P (prL P (S.take i)) a with p:=(b:Int) }).set b { sdP P (prL P (S.take i)) b with p:=(a:Int) }) (by simp) (Nat.le_refl _)
      rw [lay_seam hsk] at hS5 st2
      have ls:vstore lim ([pv,sv,.int .i64 e] :: (X++[[.int .i64 0,.int .i64 0,.int .i64 0,.int .i64 0]])) H3 (.lp (X.length+1) 0) (.agg [.int .i64 s.A,.int .i64 s.I,.int .i64 s.B,.int .i64 s.J]) 4=some ([pv,sv,.int .i64 e] :: (X++[[.int .i64 s.A,.int .i64 s.I,.int .i64 s.B,.int .i64 s.J]]),H3):=by simp [vstore,splice]
      simp (disch:=omega) [f1,f3,f4,f65,f66,f67,hs3.at ht,ld,zs4,spl4,splice,lastO,lastS,rd0,rd1',rd2',rd3',aa,ab,la,lb,ea,eb,wa,wb,ga,gb,fa,fb,st1,st2,ls,-vstore,wrap_i64,lpId_eptf]
      exact ⟨ht,hS5⟩
    · have:i=S.length:=by omega
      subst this
      rw [List.take_length] at hS3
      simp [f3,hS3.ol.lst.stor]
      exact hK _ _ x3 hS3.ol
end
end Go.Proofs.Ytclghkegfpcdpaa.Vm
