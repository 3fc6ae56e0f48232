/- Classes of numbers and how many there are; the cycles of a permutation; two numbers exchanged before it. Pure. -/
import Derived.Test.YtclghkegfpcdpaaVmRec
import Derived.Test.YtclghkegfpcdpaaVmTab
import Derived.Test.YtclghkegfpcdpaaVmMove
import Derived.KernelRfl
import Derived.Test.YtclghkegfpcdpaaVmArg
namespace Go.Proofs.Ytclghkegfpcdpaa.Vm
set_option linter.unusedVariables false
set_option linter.unusedSimpArgs false
structure Eqv (E:Nat→Nat→Prop):Prop where
  rf:∀a,E a a
  sy:∀{a b},E a b→E b a
  tr:∀{a b c},E a b→E b c→E a c
section
variable {E F:Nat→Nat→Prop}{N:Nat}
def LeE (E:Nat→Nat→Prop)(c:Nat):Prop:=∀d,d<c→¬E c d
theorem Eqv.low (h:Eqv E):∀c,∃d,d≤c∧E c d∧LeE E d:=by
  intro c
  induction c using Nat.strongRecOn with
  | _ c ih =>
    by_cases hl:LeE E c
    · exact ⟨c,Nat.le_refl _,h.rf c,hl⟩
    · have:∃d,d<c∧E c d:=by
        apply Classical.byContradiction
        intro hn
        exact hl fun d hd he=>hn ⟨d,hd,he⟩
      obtain ⟨d,hd,he⟩:=this
      obtain ⟨e,h1,h2,h3⟩:=ih d hd
      exact ⟨e,by omega,h.tr he h2,h3⟩
theorem Eqv.least_eq (h:Eqv E){c d:Nat}(hc:LeE E c)(hd:LeE E d)(he:E c d):c=d:=by
  rcases Nat.lt_trichotomy c d with hlt | he' | hlt
  · exact absurd (h.sy he) (hd c hlt)
  · exact he'
  · exact absurd he (hc d hlt)
open Classical in
noncomputable def minsE (E:Nat→Nat→Prop)(N:Nat):List Nat:=(List.range N).filter fun c=>decide (LeE E c)
noncomputable def nCls (E:Nat→Nat→Prop)(N:Nat):Nat:=(minsE E N).length
theorem mem_mins {c:Nat}:c∈minsE E N↔c<N∧LeE E c:=by
  simp [minsE]
theorem mins_nodup:(minsE E N).Nodup:=List.Nodup.sublist List.filter_sublist List.nodup_range
theorem perm_nodup {α:Type}{l m:List α}(hl:l.Nodup)(hm:m.Nodup)(h:∀x,x∈l↔x∈m):l.Perm m:=(List.perm_ext_iff_of_nodup hl hm).2 h
structure Reps (E:Nat→Nat→Prop)(N:Nat)(R:List Nat):Prop where
  lt:∀r,r∈R→r<N
  dis:R.Pairwise fun a b=>¬E a b
  cov:∀c,c<N→∃r,r∈R∧E c r
open Classical in
noncomputable def lowE (E:Nat→Nat→Prop)(c:Nat):Nat:=if h:∃d,d≤c∧E c d∧LeE E d then Classical.choose h else c
theorem lowE_spec (h:Eqv E)(c:Nat):lowE E c≤c∧E c (lowE E c)∧LeE E (lowE E c):=by
  have hx:=h.low c
  unfold lowE
  rw [dif_pos hx]
  exact Classical.choose_spec hx
theorem lowE_eq (h:Eqv E){c d:Nat}(he:E c d):lowE E c=lowE E d:=by
  obtain ⟨_,a2,a3⟩:=lowE_spec h c
  obtain ⟨_,b2,b3⟩:=lowE_spec h d
  exact h.least_eq a3 b3 (h.tr (h.sy a2) (h.tr he b2))
theorem lowE_iff (h:Eqv E){c d:Nat}:lowE E c=lowE E d↔E c d:=by
  refine ⟨fun e => ?_,lowE_eq h⟩
  obtain ⟨_,a2,a3⟩:=lowE_spec h c
  obtain ⟨_,b2,b3⟩:=lowE_spec h d
  rw [e] at a2
  exact h.tr a2 (h.sy b2)
theorem lowE_min (h:Eqv E){c:Nat}(hc:LeE E c):lowE E c=c:=by
  obtain ⟨_,a2,a3⟩:=lowE_spec h c
  exact (h.least_eq hc a3 a2).symm
theorem Reps.perm (h:Eqv E){R:List Nat}(hr:Reps E N R):(R.map (lowE E)).Perm (minsE E N):=by
  refine perm_nodup ?_ mins_nodup fun x => ?_
  · rw [List.Nodup,List.pairwise_map]
    exact hr.dis.imp fun hne e=>hne ((lowE_iff h).1 e)
  · rw [mem_mins,List.mem_map]
    constructor
    · rintro ⟨r,h1,rfl⟩
      have:=lowE_spec h r
      have:=hr.lt r h1
      exact ⟨by omega,(lowE_spec h r).2.2⟩
    · rintro ⟨h1,h2⟩
      obtain ⟨r,h3,h4⟩:=hr.cov x h1
      exact ⟨r,h3,by rw [←lowE_eq h h4,lowE_min h h2]⟩
theorem Reps.len (h:Eqv E){R:List Nat}(hr:Reps E N R):R.length=nCls E N:=by
  have:=(hr.perm h).length_eq
  simpa [nCls] using this
theorem Reps.mins (h:Eqv E):Reps E N (minsE E N) where
  lt:=fun r hr=>(mem_mins.1 hr).1
  dis:=(mins_nodup (E:=E) (N:=N)).imp_of_mem fun {a b} ha hb hne he=>hne (h.least_eq (mem_mins.1 ha).2 (mem_mins.1 hb).2 he)
  cov:=fun c hc=>by
    obtain ⟨a1,a2,a3⟩:=lowE_spec h c
    exact ⟨lowE E c,mem_mins.2 ⟨by omega,a3⟩,a2⟩
def merE (E:Nat→Nat→Prop)(a b:Nat):Nat→Nat→Prop:=fun c d=>E c d∨(E c a∧E b d)∨(E c b∧E a d)
theorem merE_eqv (h:Eqv E)(a b:Nat):Eqv (merE E a b) where
  rf:=fun x=>Or.inl (h.rf x)
  sy:=by
    rintro x y (h1 | ⟨h1,h2⟩ | ⟨h1,h2⟩)
    · exact Or.inl (h.sy h1)
    · exact Or.inr (Or.inr ⟨h.sy h2,h.sy h1⟩)
    · exact Or.inr (Or.inl ⟨h.sy h2,h.sy h1⟩)
  tr:=by
    rintro x y z (h1 | ⟨h1,h2⟩ | ⟨h1,h2⟩) (h3 | ⟨h3,h4⟩ | ⟨h3,h4⟩)
    · exact Or.inl (h.tr h1 h3)
    · exact Or.inr (Or.inl ⟨h.tr h1 h3,h4⟩)
    · exact Or.inr (Or.inr ⟨h.tr h1 h3,h4⟩)
    · exact Or.inr (Or.inl ⟨h1,h.tr h2 h3⟩)
    · exact Or.inr (Or.inl ⟨h1,h4⟩)
    · exact Or.inl (h.tr h1 h4)
    · exact Or.inr (Or.inr ⟨h1,h.tr h2 h3⟩)
    · exact Or.inl (h.tr h1 h4)
    · exact Or.inr (Or.inr ⟨h1,h4⟩)
end
def itN (f:Nat→Nat):Nat→Nat→Nat
  | 0,c=>c
  | k+1,c=>f (itN f k c)
theorem itN_add (f:Nat→Nat)(j k c:Nat):itN f (j+k) c=itN f j (itN f k c):=by
  induction j with
  | zero=>simp [itN]
  | succ j ih=>rw [Nat.succ_add];simp [itN,ih]
structure PrN (N:Nat)(f:Nat→Nat):Prop where
  lt:∀c,c<N→f c<N
  inj:∀c d,c<N→d<N→f c=f d→c=d
section
variable {N:Nat}{f g:Nat→Nat}
theorem PrN.it (h:PrN N f){c:Nat}(hc:c<N):∀k,itN f k c<N
  | 0=>hc
  | k+1=>h.lt _ (h.it hc k)
theorem PrN.back (h:PrN N f){c:Nat}(hc:c<N):∀i k,itN f (i+k) c=itN f i c→itN f k c=c
  | 0,k,e=>by simpa [itN] using e
  | i+1,k,e=>by
    rw [Nat.succ_add] at e
    simp only [itN] at e
    exact h.back hc i k (h.inj _ _ (h.it hc _) (h.it hc _) e)
theorem few_below:∀(m:Nat) (l:List Nat),l.Nodup→(∀x∈l,x<m)→l.length≤m
  | 0,l,_,h=>by
    cases l with
    | nil=>simp
    | cons x l=>have:=h x (by simp);omega
  | m + 1,l,hn,h=>by
    by_cases hm:m∈l
    · have h1:=few_below m (l.erase m) (hn.erase m) (fun x hx=>by
        have h2:=h x (List.mem_of_mem_erase hx)
        have h3:x≠m:=fun e=>by
          subst e
          exact (List.Nodup.mem_erase_iff hn).1 hx |>.1 rfl
        omega)
      have:=List.length_erase_of_mem hm
      have:0<l.length:=List.length_pos_of_mem hm
      omega
    · have:=few_below m l hn (fun x hx=>by
        have h2:=h x hx
        have h3:x≠m:=fun e=>hm (e ▸ hx)
        omega)
      omega
theorem PrN.per (h:PrN N f){c:Nat}(hc:c<N):∃k,0<k∧k≤N∧itN f k c=c:=by
  apply Classical.byContradiction
  intro hn
  have hnd:((List.range (N+1)).map fun i=>itN f i c).Nodup:=by
    rw [List.Nodup,List.pairwise_map]
    refine List.pairwise_lt_range.imp_of_mem ?_
    intro i j hi hj hlt e
    have hj:=List.mem_range.1 hj
    refine hn ⟨j-i,by omega,by omega,?_⟩
    refine h.back hc i (j-i) ?_
    rw [show i+(j-i)=j by omega];exact e.symm
  have:=few_below N _ hnd (by
    intro x hx
    obtain ⟨i,_,rfl⟩:=List.mem_map.1 hx
    exact h.it hc i)
  simp at this
  omega
def Orb (N:Nat)(f:Nat→Nat):Nat→Nat→Prop:=fun c d=>c=d∨(c<N∧d<N∧∃k,itN f k c=d)
theorem it_per {c k:Nat}(h:itN f k c=c):∀m,itN f (m*k) c=c
  | 0=>by simp [itN]
  | m+1=>by rw [Nat.add_mul,Nat.one_mul,itN_add,h,it_per h m]
theorem PrN.eqv (h:PrN N f):Eqv (Orb N f) where
  rf:=fun _=>Or.inl rfl
  sy:=by
    rintro a b (rfl | ⟨ha,hb,k,hk⟩)
    · exact Or.inl rfl
    · obtain ⟨m,h1,_,h2⟩:=h.per ha
      refine Or.inr ⟨hb,ha,(k+1)*m-k,?_⟩
      rw [←hk,←itN_add]
      have:k≤(k+1)*m:=Nat.le_trans (by omega) (Nat.le_mul_of_pos_right (k+1) h1)
      rw [show (k+1)*m-k+k=(k+1)*m by omega]
      exact it_per h2 _
  tr:=by
    rintro a b c (rfl | ⟨ha,hb,k,hk⟩) (rfl | ⟨hb',hc,j,hj⟩)
    · exact Or.inl rfl
    · exact Or.inr ⟨hb',hc,j,hj⟩
    · exact Or.inr ⟨ha,hb,k,hk⟩
    · exact Or.inr ⟨ha,hc,j+k,by rw [itN_add,hk,hj]⟩
theorem PrN.one (h:PrN N f){c:Nat}(hc:c<N):Orb N f c (f c):=Or.inr ⟨hc,h.lt c hc,1,rfl⟩
theorem Orb.sub {E:Nat→Nat→Prop}(hE:Eqv E)(h:PrN N f)(hs:∀c,c<N→E c (f c)){c d:Nat}(ho:Orb N f c d):E c d:=by
  rcases ho with rfl | ⟨hc,hd,k,rfl⟩
  · exact hE.rf _
  · clear hd
    induction k with
    | zero=>exact hE.rf _
    | succ k ih=>exact hE.tr ih (hs _ (h.it hc k))
def swN (a b c:Nat):Nat:=if c=a then b else if c=b then a else c
theorem swN_lt {a b c : Nat} (ha : a < N) (hb : b < N) (hc : c < N) : swN a b c < N := by unfold swN;split;· exact hb
                                                                                          · split;· exact ha
                                                                                            · exact hc
theorem swN_sw {a b c:Nat}:swN a b (swN a b c)=c:=by
  unfold swN
  by_cases h1:c=a
  · subst h1;simp only [if_true];split<;>simp_all
  · by_cases h2:c=b
    · subst h2;simp [h1]
    · simp [h1,h2]
theorem swN_a {a b:Nat}:swN a b a=b:=by simp [swN]
theorem swN_b {a b:Nat}:swN a b b=a:=by unfold swN;split<;>simp_all
theorem swN_o {a b c:Nat}(h1:c≠a)(h2:c≠b):swN a b c=c:=by simp [swN,h1,h2]
theorem PrN.sw (h:PrN N f){a b:Nat}(ha:a<N)(hb:b<N):PrN N fun c=>f (swN a b c) where
  lt:=fun c hc=>h.lt _ (swN_lt ha hb hc)
  inj:=fun c d hc hd e=>by
    have:=h.inj _ _ (swN_lt ha hb hc) (swN_lt ha hb hd) e
    rw [←swN_sw (a:=a) (b:=b) (c:=c),this,swN_sw]
end
end Go.Proofs.Ytclghkegfpcdpaa.Vm
namespace Go.Proofs.Ytclghkegfpcdpaa.Vm
set_option linter.unusedVariables false
set_option linter.unusedSimpArgs false
def alf:List (Nat×Nat)→Nat→Nat
  | [],c=>c
  | s :: L,c=>alf L (swN s.1 s.2 c)
inductive SmOk (N:Nat):List (Nat×Nat)→Prop
  | nil:SmOk N []
  | cons {s:Nat×Nat} {L:List (Nat×Nat)}:SmOk N L→s.1<N→s.2<N→s.1≠s.2→(∀t∈L,t.1≠s.1∧t.1≠s.2∧t.2≠s.1∧t.2≠s.2)→SmOk N (s :: L)
section
variable {N P:Nat}{nx pc:Nat→Nat}{L:List (Nat×Nat)}
theorem alf_off:∀{L:List (Nat×Nat)} {c:Nat},(∀t∈L,t.1≠c∧t.2≠c)→alf L c=c
  | [],c,_=>rfl
  | s :: L,c,h=>by
    have h1:=h s (by simp)
    simp only [alf]
    rw [swN_o (fun e=>h1.1 e.symm) (fun e=>h1.2 e.symm)]
    exact alf_off fun t ht=>h t (List.mem_cons_of_mem _ ht)
theorem SmOk.pr (h:SmOk N L):PrN N (alf L):=by
  induction h with
  | nil=>exact ⟨fun c hc=>hc,fun c d _ _ e=>e⟩
  | cons h h1 h2 h3 h4 ih=>exact ih.sw h1 h2
theorem alf_cons {s:Nat×Nat}(h:SmOk N (s :: L)){c:Nat}:alf (s :: L) c=if c=s.1 then s.2 else if c=s.2 then s.1 else alf L c:=by
  cases h with
  | cons h h1 h2 h3 h4 =>
    have e1:alf L s.1=s.1:=alf_off fun t ht=>⟨(h4 t ht).1,(h4 t ht).2.2.1⟩
    have e2:alf L s.2=s.2:=alf_off fun t ht=>⟨(h4 t ht).2.1,(h4 t ht).2.2.2⟩
    simp only [alf]
    by_cases a1:c=s.1
    · subst a1;rw [swN_a,e2,if_pos rfl]
    · by_cases a2:c=s.2
      · subst a2;rw [swN_b,e1,if_neg a1,if_pos rfl]
      · rw [swN_o a1 a2,if_neg a1,if_neg a2]
theorem SmOk.inv (h:SmOk N L) {c:Nat} (hc:c<N):alf L (alf L c)=c:=by
  induction h generalizing c with
  | nil=>rfl
  | @cons s L h h1 h2 h3 h4 ih =>
    have hh:SmOk N (s :: L):=.cons h h1 h2 h3 h4
    have e1:alf L s.1=s.1:=alf_off fun t ht=>⟨(h4 t ht).1,(h4 t ht).2.2.1⟩
    have e2:alf L s.2=s.2:=alf_off fun t ht=>⟨(h4 t ht).2.1,(h4 t ht).2.2.2⟩
    rw [alf_cons hh (c:=c)]
    by_cases a1:c=s.1
    · subst a1;rw [if_pos rfl,alf_cons hh,if_neg (fun e=>h3 e.symm),if_pos rfl]
    · by_cases a2:c=s.2
      · subst a2;rw [if_neg a1,if_pos rfl,alf_cons hh,if_pos rfl]
      · rw [if_neg a1,if_neg a2,alf_cons hh]
        have b1:alf L c≠s.1:=fun e=>a1 (h.pr.inj _ _ hc h1 (by rw [e,e1]))
        have b2:alf L c≠s.2:=fun e=>a2 (h.pr.inj _ _ hc h2 (by rw [e,e2]))
        rw [if_neg b1,if_neg b2]
        exact ih hc
def freeN (L:List (Nat×Nat))(c:Nat):Bool:=decide (alf L c=c)
def freesN (L:List (Nat×Nat))(N:Nat):List Nat:=(List.range N).filter (freeN L)
def prtE (pc:Nat→Nat):List (Nat×Nat)→Nat→Nat→Prop
  | []=>fun a b=>a=b
  | s :: L=>merE (prtE pc L) (pc s.1) (pc s.2)
theorem prtE_eqv:∀{L:List (Nat×Nat)},Eqv (prtE pc L)
  | []=>⟨fun _=>rfl,fun h=>h.symm,fun h g=>h.trans g⟩
  | s :: L=>merE_eqv prtE_eqv _ _
theorem prtE_more {s:Nat×Nat}{a b:Nat}(h:prtE pc L a b):prtE pc (s :: L) a b:=Or.inl h
theorem prtE_sewn:∀{L:List (Nat×Nat)} {c:Nat},prtE pc L (pc c) (pc (alf L c))
  | [],c=>rfl
  | s :: L,c=>by
    simp only [alf]
    have h1:prtE pc (s :: L) (pc c) (pc (swN s.1 s.2 c)):=by
      by_cases e1:c=s.1
      · rw [e1,swN_a];exact Or.inr (Or.inl ⟨prtE_eqv.rf _,prtE_eqv.rf _⟩)
      · by_cases e2:c=s.2
        · rw [e2,swN_b];exact Or.inr (Or.inr ⟨prtE_eqv.rf _,prtE_eqv.rf _⟩)
        · rw [swN_o e1 e2];exact prtE_eqv.rf _
    exact prtE_eqv.tr h1 (prtE_more prtE_sewn)
def nuN (nx:Nat→Nat)(L:List (Nat×Nat))(c:Nat):Nat:=nx (alf L c)
theorem nu_pr (hn:PrN N nx)(h:SmOk N L):PrN N (nuN nx L) where
  lt:=fun c hc=>hn.lt _ (h.pr.lt c hc)
  inj:=fun c d hc hd e=>h.pr.inj _ _ hc hd (hn.inj _ _ (h.pr.lt c hc) (h.pr.lt d hd) e)
end
end Go.Proofs.Ytclghkegfpcdpaa.Vm
namespace Go.Proofs.Ytclghkegfpcdpaa.Vm
set_option linter.unusedVariables false
set_option linter.unusedSimpArgs false
section
variable {N P:Nat}{nx pc:Nat→Nat}{L:List (Nat×Nat)}
structure WkN (nx:Nat→Nat)(L:List (Nat×Nat))(c k d:Nat):Prop where
  it:itN (nuN nx L) k c=d
  nf:∀i,i<k→alf L (itN (nuN nx L) i c)≠itN (nuN nx L) i c
theorem WkN.zero {c:Nat}:WkN nx L c 0 c:=⟨rfl,fun i hi=>by omega⟩
theorem WkN.one {c:Nat}(h:alf L c≠c):WkN nx L c 1 (nuN nx L c):=⟨rfl,fun i hi=>by
  have:i=0:=by omega
  subst this;exact h⟩
theorem WkN.trans {c d e j k:Nat}(h:WkN nx L c k d)(g:WkN nx L d j e):WkN nx L c (j+k) e where
  it:=by rw [itN_add,h.it,g.it]
  nf:=fun i hi=>by
    by_cases hk:i<k
    · exact h.nf i hk
    · have:=g.nf (i-k) (by omega)
      rw [←h.it,←itN_add,show i-k+k=i by omega] at this
      exact this
theorem WkN.cut {c d e j k:Nat}(h:WkN nx L d k c)(g:WkN nx L d j e)(hk:k≤j):WkN nx L c (j-k) e where
  it:=by rw [←h.it,←itN_add,show j-k+k=j by omega,g.it]
  nf:=fun i hi=>by
    have:=g.nf (i+k) (by omega)
    rw [itN_add,h.it] at this
    exact this
theorem WkN.meet (hp:PrN N (nuN nx L)){c d e j k:Nat}(hc:c<N)(he:e<N)(h:WkN nx L c k d)(g:WkN nx L e j d)(hk:k≤j):WkN nx L e (j-k) c where
  it:=by
    have h1:itN (nuN nx L) k (itN (nuN nx L) (j-k) e)=itN (nuN nx L) k c:=by rw [←itN_add,show k+(j-k)=j by omega,g.it,h.it]
    have inj:∀k a b,a<N→b<N→itN (nuN nx L) k a=itN (nuN nx L) k b→a=b:=by
      intro k
      induction k with
      | zero=>intro a b _ _ e;exact e
      | succ k ih=>intro a b ha hb e;exact ih a b ha hb (hp.inj _ _ (hp.it ha k) (hp.it hb k) e)
    exact inj k _ _ (hp.it he _) hc h1
  nf:=fun i hi=>g.nf i (by omega)
def ptE (N:Nat)(nx:Nat→Nat)(L:List (Nat×Nat)):Nat→Nat→Prop:=fun c d=>c=d∨(c<N∧d<N∧∃k,WkN nx L c k d∨WkN nx L d k c)
theorem ptE_eqv (hp:PrN N (nuN nx L)):Eqv (ptE N nx L) where
  rf:=fun _=>Or.inl rfl
  sy:=by
    rintro a b (rfl | ⟨ha,hb,k,h | h⟩)
    · exact Or.inl rfl
    · exact Or.inr ⟨hb,ha,k,Or.inr h⟩
    · exact Or.inr ⟨hb,ha,k,Or.inl h⟩
  tr := by
    rintro a b c (rfl | ⟨ha,hb,k,h⟩) (rfl | ⟨hb',hc,j,g⟩)
    · exact Or.inl rfl
    · exact Or.inr ⟨hb',hc,j,g⟩
    · exact Or.inr ⟨ha,hb,k,h⟩
    · refine Or.inr ⟨ha,hc,?_⟩
      rcases h with h | h<;>rcases g with g | g
      · exact ⟨_,Or.inl (h.trans g)⟩
      · rcases Nat.le_total k j with hk | hk
        · exact ⟨_,Or.inr (WkN.meet hp ha hc h g hk)⟩
        · exact ⟨_,Or.inl (WkN.meet hp hc ha g h hk)⟩
      · rcases Nat.le_total k j with hk | hk
        · exact ⟨_,Or.inl (h.cut g hk)⟩
        · exact ⟨_,Or.inr (g.cut h hk)⟩
      · exact ⟨_,Or.inr (g.trans h)⟩
def InnN (N:Nat)(nx:Nat→Nat)(L:List (Nat×Nat))(c:Nat):Prop:=∀d,ptE N nx L c d→alf L d≠d
theorem InnN.iff (hp:PrN N (nuN nx L)){c d:Nat}(h:ptE N nx L c d):InnN N nx L c↔InnN N nx L d :=
  ⟨fun g e he=>g e ((ptE_eqv hp).tr h he),fun g e he=>g e ((ptE_eqv hp).tr ((ptE_eqv hp).sy h) he)⟩
open Classical in
noncomputable def rnN (N:Nat)(nx:Nat→Nat)(L:List (Nat×Nat))(c:Nat):Nat:=if h:∃n,n<N∧(alf L (itN (nuN nx L) n c)=itN (nuN nx L) n c∨itN (nuN nx L) (n+1) c=c)∧∀i,i<n→alf L (itN (nuN nx L) i c)≠itN (nuN nx L) i c∧itN (nuN nx L) (i+1) c≠c then Classical.choose h else 0
noncomputable def ringN (N:Nat)(nx:Nat→Nat)(L:List (Nat×Nat))(c:Nat):List Nat:=(List.range (rnN N nx L c+1)).map fun i=>itN (nuN nx L) i c
def StaN (N:Nat)(nx:Nat→Nat)(L:List (Nat×Nat))(c:Nat):Prop:=∀x,x<N→nuN nx L x=c→alf L x=x
open Classical in
noncomputable def memE (E:Nat→Nat→Prop)(N c:Nat):List Nat:=(List.range N).filter fun d=>decide (E c d)
open Classical in
noncomputable def innMins (N:Nat)(nx:Nat→Nat)(L:List (Nat×Nat)):List Nat:=(minsE (ptE N nx L) N).filter fun c=>decide (InnN N nx L c)
open Classical in
noncomputable def stasN (N:Nat)(nx:Nat→Nat)(L:List (Nat×Nat)):List Nat:=(List.range N).filter fun c=>decide (StaN N nx L c)
noncomputable def sgN (N:Nat)(nx:Nat→Nat)(L:List (Nat×Nat))(s:Nat):Nat:=if alf L s=s then itN (nuN nx L) (rnN N nx L (nuN nx L s)) (nuN nx L s) else s
noncomputable def firstsN (N:Nat)(nx:Nat→Nat)(L:List (Nat×Nat)):List Nat:=(minsE (Orb N (sgN N nx L)) N).filter (freeN L)
open Classical in
noncomputable def perN (N:Nat)(f:Nat→Nat)(c:Nat):Nat:=if h:∃m,m≤N∧(0<m∧itN f m c=c)∧∀j,j<m→¬(0<j∧itN f j c=c) then Classical.choose h else 1
noncomputable def lpN (N:Nat)(f:Nat→Nat)(c:Nat):List Nat:=(List.range (perN N f c)).map fun i=>itN f i c
noncomputable def loopsN (N:Nat)(nx:Nat→Nat)(L:List (Nat×Nat)):List (List Nat):=(firstsN N nx L).map (lpN N (sgN N nx L))
end
end Go.Proofs.Ytclghkegfpcdpaa.Vm
namespace Go.Proofs.Ytclghkegfpcdpaa.Vm
set_option linter.unusedVariables false
set_option linter.unusedSimpArgs false
attribute [-simp] List.getD_eq_getElem?_getD
structure Sid where
  l:Int
  a:Int
  n:Int
  b:Int
  p:Int
  deriving Inhabited
structure Pc where
  s:List Int
  a:List Int
  deriving Inhabited
structure Sm where
  A:Int
  I:Int
  B:Int
  J:Int
  deriving Inhabited
def ksN (pcs:List Pc)(q:Nat):Nat:=(pcs.getD q default).s.length
def offN (pcs:List Pc):Nat→Nat
  | 0=>0
  | q+1=>offN pcs q+ksN pcs q
def sidE (o:Nat)(p:Pc)(i:Nat):Sid:=⟨p.s.getD i 0,p.a.getD i 0,((o+(i+1) % p.s.length:Nat):Int),((o+(i+p.s.length-1) % p.s.length:Nat):Int),-1⟩
def basT (pcs:List Pc):Nat→List Sid
  | 0=>[]
  | q+1=>basT pcs q++(List.range (ksN pcs q)).map (sidE (offN pcs q) (pcs.getD q default))
def pcT (pcs:List Pc):Nat→List Nat
  | 0=>[]
  | q+1=>pcT pcs q++(List.range (ksN pcs q)).map fun _=>q
section
variable {pcs:List Pc}
theorem basT_len:∀{q:Nat},(basT pcs q).length=offN pcs q
  | 0=>rfl
  | q+1=>by simp [basT,offN,basT_len (q:=q)]
theorem pcT_len:∀{q:Nat},(pcT pcs q).length=offN pcs q
  | 0=>rfl
  | q+1=>by simp [pcT,offN,pcT_len (q:=q)]
theorem off_step {q:Nat}:offN pcs (q+1)=offN pcs q+ksN pcs q:=rfl
theorem off_mono:∀{p q:Nat},p≤q→offN pcs p≤offN pcs q
  | p, 0, h => by have:p=0:=by omega
                  subst this;exact Nat.le_refl _
  | p,q+1,h=>by
    rcases Nat.lt_or_ge p (q+1) with h1 | h1
    · have:=off_mono (p:=p) (q:=q) (by omega)
      rw [off_step];omega
    · have:p=q+1:=by omega
      subst this;exact Nat.le_refl _
theorem off_loc:∀{p i:Nat},i<offN pcs p→∃q j,q<p∧j<ksN pcs q∧i=offN pcs q+j
  | 0,i,h=>by simp [offN] at h
  | p + 1,i,h=>by
    rw [off_step] at h
    rcases Nat.lt_or_ge i (offN pcs p) with h1 | h1
    · obtain ⟨q,j,a,b,c⟩:=off_loc h1
      exact ⟨q,j,by omega,b,c⟩
    · exact ⟨p,i-offN pcs p,by omega,by omega,by omega⟩
theorem off_lt {p q j:Nat}(hq:q<p)(hj:j<ksN pcs q):offN pcs q+j<offN pcs p:=by
  have:=off_mono (pcs:=pcs) (p:=q+1) (q:=p) (by omega)
  rw [off_step] at this;omega
theorem off_inj {q j q' j':Nat}(hj:j<ksN pcs q)(hj':j'<ksN pcs q')(h:offN pcs q+j=offN pcs q'+j'):q=q'∧j=j':=by
  rcases Nat.lt_trichotomy q q' with h1 | h1 | h1
  · have:=off_lt h1 hj;omega
  · subst h1;exact ⟨rfl,by omega⟩
  · have:=off_lt h1 hj';omega
theorem getD_lt {α:Type}{d:α}{l m:List α}{i:Nat}(h:i<l.length):(l++m).getD i d=l.getD i d:=by
  rw [List.getD_eq_getElem?_getD,List.getD_eq_getElem?_getD,List.getElem?_append_left h]
theorem getD_ge {α:Type}{d:α}{l m:List α}{i j:Nat}(h:i=l.length+j):(l++m).getD i d=m.getD j d:=by
  subst h
  rw [List.getD_eq_getElem?_getD,List.getD_eq_getElem?_getD,List.getElem?_append_right (by omega)]
  congr 2;omega
theorem getD_mapR {α:Type}{d:α}{g:Nat→α}{n i:Nat}(h:i<n):((List.range n).map g).getD i d=g i:=by
  simp [List.getD_eq_getElem?_getD,h]
theorem bas_get:∀{p q j:Nat},q<p→j<ksN pcs q→(basT pcs p).getD (offN pcs q+j) default=sidE (offN pcs q) (pcs.getD q default) j
  | 0,q,j,h,_=>by omega
  | p + 1,q,j,h,hj=>by
    rcases Nat.lt_or_ge q p with h1 | h1
    · rw [basT,getD_lt (by rw [basT_len];exact off_lt h1 hj),bas_get h1 hj]
    · have:q=p:=by omega
      subst this
      rw [basT,getD_ge (j:=j) (by rw [basT_len]),getD_mapR hj]
theorem pcT_get:∀{p q j:Nat},q<p→j<ksN pcs q→(pcT pcs p).getD (offN pcs q+j) 0=q
  | 0,q,j,h,_=>by omega
  | p + 1,q,j,h,hj=>by
    rcases Nat.lt_or_ge q p with h1 | h1
    · rw [pcT,getD_lt (by rw [pcT_len];exact off_lt h1 hj),pcT_get h1 hj]
    · have:q=p:=by omega
      subst this
      rw [pcT,getD_ge (j:=j) (by rw [pcT_len]),getD_mapR hj]
def nsN (pcs:List Pc):Nat:=offN pcs pcs.length
def nxN (pcs:List Pc)(i:Nat):Nat:=((basT pcs pcs.length).getD i default).n.toNat
def bfN (pcs:List Pc)(i:Nat):Nat:=((basT pcs pcs.length).getD i default).b.toNat
def anN (pcs:List Pc)(i:Nat):Int:=((basT pcs pcs.length).getD i default).a
def lnN (pcs:List Pc)(i:Nat):Int:=((basT pcs pcs.length).getD i default).l
def pcN (pcs:List Pc)(i:Nat):Nat:=(pcT pcs pcs.length).getD i 0
variable {q j:Nat}
theorem nx_at (hq:q<pcs.length)(hj:j<ksN pcs q):nxN pcs (offN pcs q+j)=offN pcs q+(j+1) % ksN pcs q:=by
  rw [nxN,bas_get hq hj];exact Int.toNat_natCast _
theorem pc_at (hq:q<pcs.length)(hj:j<ksN pcs q):pcN pcs (offN pcs q+j)=q:=by rw [pcN,pcT_get hq hj]
theorem mod_next {j k:Nat}(h:j<k):(j+1) % k=if j+1=k then 0 else j+1:=by
  split
  · rename_i e;rw [e];exact Nat.mod_self k
  · exact Nat.mod_eq_of_lt (by omega)
theorem nx_pr:PrN (nsN pcs) (nxN pcs) where
  lt:=fun c hc=>by
    obtain ⟨q,j,h1,h2,rfl⟩:=off_loc hc
    rw [nx_at h1 h2]
    exact off_lt h1 (Nat.mod_lt _ (by omega))
  inj := fun c d hc hd e=>by
    obtain ⟨q,j,h1,h2,rfl⟩:=off_loc hc
    obtain ⟨q',j',h3,h4,rfl⟩:=off_loc hd
    rw [nx_at h1 h2,nx_at h3 h4] at e
    obtain ⟨e1,e2⟩:=off_inj (Nat.mod_lt _ (by omega)) (Nat.mod_lt _ (by omega)) e
    subst e1
    rw [mod_next h2,mod_next h4] at e2
    have:j=j':=by
      split at e2<;>split at e2<;>omega
    rw [this]
theorem pc_lt {c:Nat}(hc:c<nsN pcs):pcN pcs c<pcs.length:=by
  obtain ⟨q,j,h1,h2,rfl⟩:=off_loc hc
  rw [pc_at h1 h2];exact h1
def sdOk (pcs:List Pc)(a i:Int):Bool:=decide (0≤a∧a<pcs.length)&&decide (0≤i∧i<ksN pcs a.toNat)
def prS (pcs:List Pc)(s:Sm):Nat×Nat:=(offN pcs s.A.toNat+s.I.toNat,offN pcs s.B.toNat+s.J.toNat)
def prL (pcs:List Pc)(l:List Sm):List (Nat×Nat):=(l.map (prS pcs)).reverse
def usesB (s:Sm)(a i:Int):Bool:=(decide (s.A=a)&&decide (s.I=i))||(decide (s.B=a)&&decide (s.J=i))
def seamE (pcs:List Pc)(ease:Int)(pre:List Sm)(s:Sm):Int :=
  if !(sdOk pcs s.A s.I&&sdOk pcs s.B s.J) then 5 else
  if (decide (s.A=s.B)&&decide (s.I=s.J))||pre.any (fun t=>usesB t s.A s.I||usesB t s.B s.J) then 7 else
  if ease<(pcs.getD s.A.toNat default).s.getD s.I.toNat 0-(pcs.getD s.B.toNat default).s.getD s.J.toNat 0∨ease < -((pcs.getD s.A.toNat default).s.getD s.I.toNat 0-(pcs.getD s.B.toNat default).s.getD s.J.toNat 0) then 8 else 0
def seamsE (pcs:List Pc)(ease:Int)(sm:List Sm):Nat→Nat→Int
  | 0,_=>0
  | k+1,i=>if seamE pcs ease (sm.take i) (sm.getD i default)=0 then seamsE pcs ease sm k (i+1) else seamE pcs ease (sm.take i) (sm.getD i default)
def allAt (p:Nat→Bool)(n:Nat):Bool:=(List.range n).all p
def pieceB (p:Pc):Bool:=decide (3≤p.s.length∧p.s.length≤6)&&(decide (p.a.length=p.s.length)&&((List.range p.s.length).all (fun i=>decide ((1≤p.s.getD i 0∧p.s.getD i 0≤200)∧(1≤p.a.getD i 0∧p.a.getD i 0≤359)))&&decide (p.a.sum=180*((p.s.length:Int)-2))))
structure Cp where
  P:List Pc
  S:List Sm
  e:Int
  deriving Inhabited
def capE (c:Cp):Int :=
  if c.P.length<1∨8<c.P.length then 4 else
  if c.e<0∨5<c.e then 1 else
  if !((List.range c.P.length).all fun q=>pieceB (c.P.getD q default)) then 1 else
  seamsE c.P c.e c.S c.S.length 0
structure CapOk (c:Cp):Prop where
  np:1≤c.P.length∧c.P.length≤8
  pc:∀q,q<c.P.length→pieceB (c.P.getD q default)=true
  e:0≤c.e∧c.e≤5
  sm:∀i,i<c.S.length→seamE c.P c.e (c.S.take i) (c.S.getD i default)=0
theorem piece_ok {p:Pc}(h:pieceB p=true):(3≤p.s.length∧p.s.length≤6)∧p.a.length=p.s.length∧(∀i,i<p.s.length→(1≤p.s.getD i 0∧p.s.getD i 0≤200)∧(1≤p.a.getD i 0∧p.a.getD i 0≤359))∧p.a.sum=180*((p.s.length:Int)-2):=by
  simp only [pieceB,Bool.and_eq_true,decide_eq_true_eq,List.all_eq_true,List.mem_range] at h
  exact h
theorem seam_ok {ease:Int}{pre:List Sm}{s:Sm}(h:seamE pcs ease pre s=0):(sdOk pcs s.A s.I=true∧sdOk pcs s.B s.J=true)∧¬(s.A=s.B∧s.I=s.J)∧(∀t∈pre,usesB t s.A s.I=false∧usesB t s.B s.J=false)∧((pcs.getD s.A.toNat default).s.getD s.I.toNat 0-(pcs.getD s.B.toNat default).s.getD s.J.toNat 0≤ease∧-((pcs.getD s.A.toNat default).s.getD s.I.toNat 0-(pcs.getD s.B.toNat default).s.getD s.J.toNat 0)≤ease):=by
  unfold seamE at h
  split at h
  · omega
  rename_i h1
  split at h
  · omega
  rename_i h2
  split at h
  · omega
  rename_i h3
  have h1:(sdOk pcs s.A s.I&&sdOk pcs s.B s.J)=true:=by simpa using h1
  rw [Bool.and_eq_true] at h1
  have h2:=Bool.eq_false_iff.2 h2
  rw [Bool.or_eq_false_iff,Bool.and_eq_false_iff] at h2
  refine ⟨h1,?_,?_,by omega⟩
  · rintro ⟨e1,e2⟩
    rcases h2.1 with g | g<;>simp [e1,e2] at g
  · intro t ht
    have g:(pre.any fun t=>usesB t s.A s.I||usesB t s.B s.J)=false:=h2.2
    rw [List.any_eq_false] at g
    have:=g t ht
    simpa using this
theorem sd_ok {a i:Int}(h:sdOk pcs a i=true):a.toNat<pcs.length∧i.toNat<ksN pcs a.toNat∧(a.toNat:Int)=a∧(i.toNat:Int)=i:=by
  simp only [sdOk,Bool.and_eq_true,decide_eq_true_eq] at h
  omega
theorem CapOk.ks {c:Cp}(h:CapOk c){q:Nat}(hq:q<c.P.length):3≤ksN c.P q∧ksN c.P q≤6:=(piece_ok (h.pc q hq)).1
theorem off_six {pcs:List Pc}:∀{p:Nat},(∀q,q<p→ksN pcs q≤6)→offN pcs p≤p*6
  | 0,_=>by simp [offN]
  | p+1,h=>by
    have h1:=off_six (p:=p) fun q hq=>h q (by omega)
    have h2:=h p (by omega)
    rw [off_step];omega
theorem CapOk.ns {c:Cp}(h:CapOk c):nsN c.P≤48:=by
  have h1:=off_six (pcs:=c.P) (p:=c.P.length) fun q hq=>(h.ks hq).2
  have h2:=h.np
  unfold nsN;omega
theorem seams_ok {c:Cp} (h:CapOk c):∀{n:Nat},n≤c.S.length→SmOk (nsN c.P) (prL c.P (c.S.take n))
  | 0,_=>by simpa [prL] using SmOk.nil
  | n + 1,hn=>by
    have ih:=seams_ok h (n:=n) (by omega)
    have ht:c.S.take (n+1)=c.S.take n++[c.S.getD n default]:=by
      rw [List.take_add_one,List.getElem?_eq_getElem (by omega),List.getD_eq_getElem?_getD,List.getElem?_eq_getElem (by omega)]
      rfl
    obtain ⟨⟨g1,g2⟩,g3,g4,g5⟩:=seam_ok (h.sm n (by omega))
    obtain ⟨a1,a2,a3,a4⟩:=sd_ok g1
    obtain ⟨b1,b2,b3,b4⟩:=sd_ok g2
    have e:prL c.P (c.S.take (n+1))=prS c.P (c.S.getD n default) :: prL c.P (c.S.take n):=by
      rw [ht,prL,List.map_append,List.reverse_append];rfl
    rw [e]
    refine .cons ih (off_lt a1 a2) (off_lt b1 b2) (fun e => ?_) fun t ht => ?_
    · obtain ⟨e1,e2⟩:=off_inj a2 b2 e
      exact g3 ⟨by omega,by omega⟩
    · obtain ⟨u,hu,rfl⟩:=List.mem_map.1 (List.mem_reverse.1 ht)
      obtain ⟨x1,x2⟩:=g4 u hu
      have hus:sdOk c.P u.A u.I=true∧sdOk c.P u.B u.J=true:=by
        obtain ⟨k,hk,hk2⟩:=List.getElem_of_mem hu
        have hkn:k<n:=by rw [List.length_take] at hk;omega
        have:=h.sm k (by omega)
        have e:c.S.getD k default=u:=by
          rw [←hk2,List.getElem_take,List.getD_eq_getElem?_getD,List.getElem?_eq_getElem (by omega)];rfl
        rw [e] at this
        exact (seam_ok this).1
      obtain ⟨c1,c2,c3,c4⟩:=sd_ok hus.1
      obtain ⟨d1,d2,d3,d4⟩:=sd_ok hus.2
      simp only [usesB,Bool.or_eq_false_iff,Bool.and_eq_false_iff,decide_eq_false_iff_not] at x1 x2
      refine ⟨fun e => ?_,fun e => ?_,fun e => ?_,fun e => ?_⟩
      · obtain ⟨e1,e2⟩:=off_inj c2 a2 e
        rcases x1.1 with g | g<;>exact g (by omega)
      · obtain ⟨e1,e2⟩:=off_inj c2 b2 e
        rcases x2.1 with g | g<;>exact g (by omega)
      · obtain ⟨e1,e2⟩:=off_inj d2 a2 e
        rcases x1.2 with g | g<;>exact g (by omega)
      · obtain ⟨e1,e2⟩:=off_inj d2 b2 e
        rcases x2.2 with g | g<;>exact g (by omega)
end
end Go.Proofs.Ytclghkegfpcdpaa.Vm
namespace Go.Proofs.Ytclghkegfpcdpaa.Vm
set_option linter.unusedVariables false
set_option linter.unusedSimpArgs false
attribute [-simp] List.getD_eq_getElem?_getD
structure Ptt where
  cs:List Nat
  inn:Bool
  ang:Int
  df:Int
  deriving Inhabited
def lsN (c:Cp):List (Nat×Nat):=prL c.P c.S
def PtR (c:Cp):Nat→Nat→Prop:=ptE (nsN c.P) (nxN c.P) (lsN c)
def nuP (c:Cp):Nat→Nat:=nuN (nxN c.P) (lsN c)
open Classical in
noncomputable def innB (c:Cp)(k:Nat):Bool:=decide (InnN (nsN c.P) (nxN c.P) (lsN c) k)
noncomputable def ptOf (c:Cp)(k:Nat):Ptt :=
  ⟨memE (PtR c) (nsN c.P) k,innB c k,((memE (PtR c) (nsN c.P) k).map (anN c.P)).sum,(if innB c k then 360 else 180)-((memE (PtR c) (nsN c.P) k).map (anN c.P)).sum⟩
noncomputable def ptsP (c:Cp):List Ptt:=(minsE (PtR c) (nsN c.P)).map (ptOf c)
noncomputable def missP (c:Cp):Int:=((ptsP c).map (·.df)).sum
noncomputable def eulP (c:Cp):Int:=((ptsP c).length:Int)-((nsN c.P:Int)-(c.S.length:Int))+(c.P.length:Int)
noncomputable def partP (c:Cp):Nat:=nCls (prtE (pcN c.P) (lsN c)) c.P.length
noncomputable def loopP (c:Cp):List (List Nat):=loopsN (nsN c.P) (nxN c.P) (lsN c)
noncomputable def cycP (c:Cp):Nat:=nCls (Orb (nsN c.P) (nuP c)) (nsN c.P)
noncomputable def handP (c:Cp):Int:=(2*(partP c:Int)-eulP c-((loopP c).length:Int)).tdiv 2
noncomputable def hairP (c:Cp):List Int:=(loopP c).map fun l=>(l.map (lnN c.P)).sum
section
variable {c:Cp}
theorem CapOk.sm_ok (h:CapOk c):SmOk (nsN c.P) (lsN c):=by
  have:=seams_ok h (Nat.le_refl c.S.length)
  rwa [List.take_length] at this
theorem CapOk.nu (h:CapOk c):PrN (nsN c.P) (nuP c):=nu_pr nx_pr h.sm_ok
theorem CapOk.ptE (h:CapOk c):Eqv (PtR c):=ptE_eqv h.nu
end
end Go.Proofs.Ytclghkegfpcdpaa.Vm
namespace Go.Proofs.Ytclghkegfpcdpaa.Vm
set_option linter.unusedVariables false
set_option linter.unusedSimpArgs false
attribute [-simp] List.getD_eq_getElem?_getD
section
variable {N:Nat}{nx pc:Nat→Nat}{L:List (Nat×Nat)}
structure FReps (N:Nat)(nx:Nat→Nat)(L:List (Nat×Nat))(R:List Nat):Prop where
  lt:∀r,r∈R→r<N∧alf L r=r
  dis:R.Pairwise fun a b=>¬Orb N (nuN nx L) a b
  cov:∀c,c<N→alf L c=c→∃r,r∈R∧Orb N (nuN nx L) c r
theorem prtE_in:∀{L:List (Nat×Nat)} {t:Nat×Nat},t∈L→prtE pc L (pc t.1) (pc t.2)
  | s :: L,t,h=>by
    rcases List.mem_cons.1 h with e | e
    · subst e;exact Or.inr (Or.inl ⟨prtE_eqv.rf _,prtE_eqv.rf _⟩)
    · exact prtE_more (prtE_in e)
theorem prtE_sub {F:Nat→Nat→Prop}(hF:Eqv F):∀{L:List (Nat×Nat)},(∀t,t∈L→F (pc t.1) (pc t.2))→∀{a b},prtE pc L a b→F a b
  | [],_,a,b,h=>by
    have:a=b:=h
    subst this;exact hF.rf _
  | s :: L,hs,a,b,h=>by
    have ih:=fun {a b}=>prtE_sub hF (L:=L) (fun t ht=>hs t (List.mem_cons_of_mem _ ht)) (a:=a) (b:=b)
    have h0:=hs s (by simp)
    rcases h with h | ⟨h1,h2⟩ | ⟨h1,h2⟩
    · exact ih h
    · exact hF.tr (ih h1) (hF.tr h0 (ih h2))
    · exact hF.tr (ih h1) (hF.tr (hF.sy h0) (ih h2))
end
structure SplR (N:Nat)(nx pc:Nat→Nat)(L:List (Nat×Nat))(N':Nat)(nx' pc':Nat→Nat)(L':List (Nat×Nat))(g:Nat→Nat)(d1 d2 ii jj:Nat):Prop where
  hn:PrN N nx
  hl:SmOk N L
  hn':PrN N' nx'
  hl':SmOk N' L'
  glt:∀x,x<N→g x<N'∧g x≠d1∧g x≠d2
  ginj:∀x y,x<N→y<N→g x=g y→x=y
  gcov:∀y,y<N'→y=d1∨y=d2∨∃x,x<N∧y=g x
  dlt:d1<N'∧d2<N'∧d1≠d2
  ij:ii<N∧jj<N∧ii≠jj
  nxg:∀x,x<N→(nx x=jj∧nx' (g x)=d1)∨(nx x=ii∧nx' (g x)=d2)∨(nx x≠ii∧nx x≠jj∧nx' (g x)=g (nx x))
  nx1:nx' d1=g ii
  nx2:nx' d2=g jj
  lg:L'=(d1,d2) :: L.map fun s=>(g s.1,g s.2)
section
variable {N N':Nat}{nx pc nx' pc' g:Nat→Nat}{L L':List (Nat×Nat)}{d1 d2 ii jj:Nat}
theorem alf_map (hgi:∀x y,x<N→y<N→g x=g y→x=y):∀{L:List (Nat×Nat)},SmOk N L→∀{c},c<N→alf (L.map fun s=>(g s.1,g s.2)) (g c)=g (alf L c)
  | [],_,c,_=>rfl
  | s :: L,h,c,hc=>by
    cases h with
    | cons h h1 h2 h3 h4 =>
      simp only [List.map_cons,alf]
      have:swN (g s.1) (g s.2) (g c)=g (swN s.1 s.2 c):=by
        by_cases e1:c=s.1
        · subst e1;rw [swN_a,swN_a]
        · by_cases e2:c=s.2
          · subst e2;rw [swN_b,swN_b]
          · rw [swN_o e1 e2,swN_o (fun e=>e1 (hgi _ _ hc h1 e)) (fun e=>e2 (hgi _ _ hc h2 e))]
      rw [this]
      exact alf_map hgi h (swN_lt h1 h2 hc)
variable (S:SplR N nx pc L N' nx' pc' L' g d1 d2 ii jj)
include S
theorem SplR.alfg {c:Nat}(hc:c<N):alf L' (g c)=g (alf L c):=by
  have h:=S.hl'
  rw [S.lg] at h ⊢
  rw [alf_cons h,if_neg (S.glt c hc).2.1,if_neg (S.glt c hc).2.2]
  exact alf_map S.ginj S.hl hc
theorem SplR.alf1:alf L' d1=d2:=by
  have h:=S.hl'
  rw [S.lg] at h ⊢
  rw [alf_cons h,if_pos rfl]
theorem SplR.alf2:alf L' d2=d1:=by
  have h:=S.hl'
  rw [S.lg] at h ⊢
  rw [alf_cons h,if_neg (fun e=>S.dlt.2.2 e.symm),if_pos rfl]
theorem SplR.nu:PrN N (nuN nx L):=nu_pr S.hn S.hl
theorem SplR.nu':PrN N' (nuN nx' L'):=nu_pr S.hn' S.hl'
theorem SplR.nug {c:Nat}(hc:c<N):(nuN nx L c=jj∧nuN nx' L' (g c)=d1)∨(nuN nx L c=ii∧nuN nx' L' (g c)=d2)∨(nuN nx L c≠ii∧nuN nx L c≠jj∧nuN nx' L' (g c)=g (nuN nx L c)):=by
  have:=S.nxg (alf L c) (S.hl.pr.lt c hc)
  simp only [nuN,S.alfg hc]
  exact this
theorem SplR.nu1:nuN nx' L' d1=g jj:=by rw [nuN,S.alf1,S.nx2]
theorem SplR.nu2:nuN nx' L' d2=g ii:=by rw [nuN,S.alf2,S.nx1]
theorem SplR.step {c:Nat}(hc:c<N):Orb N' (nuN nx' L') (g c) (g (nuN nx L c)):=by
  have h0:=S.nu'.one (S.glt c hc).1
  rcases S.nug hc with ⟨h1,h2⟩ | ⟨h1,h2⟩ | ⟨_,_,h2⟩
  · rw [h2] at h0
    have:=S.nu'.one S.dlt.1
    rw [S.nu1,←h1] at this
    exact S.nu'.eqv.tr h0 this
  · rw [h2] at h0
    have:=S.nu'.one S.dlt.2.1
    rw [S.nu2,←h1] at this
    exact S.nu'.eqv.tr h0 this
  · rw [h2] at h0;exact h0
theorem SplR.up {c d:Nat}(h:Orb N (nuN nx L) c d):Orb N' (nuN nx' L') (g c) (g d) :=
  Orb.sub (E:=fun a b=>Orb N' (nuN nx' L') (g a) (g b)) ⟨fun _=>S.nu'.eqv.rf _,fun h=>S.nu'.eqv.sy h,fun h k=>S.nu'.eqv.tr h k⟩ S.nu (fun c hc=>S.step hc) h
theorem SplR.back:∃p:Nat→Nat,(∀x,x<N→p (g x)=x)∧p d1=jj∧p d2=ii∧∀y,y<N'→p y<N:=by
  have key:∀y,∃x,(∀z,z<N→y=g z→x=z)∧(y=d1→x=jj)∧(y=d2→x=ii)∧(y<N'→x<N):=by
    intro y
    by_cases e1:y=d1
    · subst e1
      exact ⟨jj,fun z hz e=>absurd e.symm (S.glt z hz).2.1,fun _=>rfl,fun e=>absurd e S.dlt.2.2,fun _=>S.ij.2.1⟩
    · by_cases e2:y=d2
      · subst e2
        exact ⟨ii,fun z hz e=>absurd e.symm (S.glt z hz).2.2,fun e=>absurd e.symm S.dlt.2.2,fun _=>rfl,fun _=>S.ij.1⟩
      · by_cases hx:∃x,x<N∧y=g x
        · obtain ⟨x,h1,h2⟩:=hx
          exact ⟨x,fun z hz e=>S.ginj _ _ h1 hz (h2 ▸ e),fun e=>absurd e e1,fun e=>absurd e e2,fun _=>h1⟩
        · exact ⟨0,fun z hz e=>absurd ⟨z,hz,e⟩ hx,fun e=>absurd e e1,fun e=>absurd e e2,fun hy=>by
            rcases S.gcov y hy with h | h | h
            · exact absurd h e1
            · exact absurd h e2
            · exact absurd h hx⟩
  refine ⟨fun y=>Classical.choose (key y),fun x hx => ?_,?_,?_,fun y hy => ?_⟩
  · exact (Classical.choose_spec (key (g x))).1 x hx rfl
  · exact (Classical.choose_spec (key d1)).2.1 rfl
  · exact (Classical.choose_spec (key d2)).2.2.1 rfl
  · exact (Classical.choose_spec (key y)).2.2.2 hy
theorem SplR.down {c d:Nat}(hc:c<N)(hd:d<N)(h:Orb N' (nuN nx' L') (g c) (g d)):Orb N (nuN nx L) c d:=by
  obtain ⟨p,p1,p2,p3,p4⟩:=S.back
  have:=Orb.sub (E:=fun a b=>Orb N (nuN nx L) (p a) (p b)) ⟨fun _=>S.nu.eqv.rf _,fun h=>S.nu.eqv.sy h,fun h k=>S.nu.eqv.tr h k⟩ S.nu' (fun y hy=>by
    show Orb N (nuN nx L) (p y) (p (nuN nx' L' y))
    rcases S.gcov y hy with e | e | ⟨x,hx,e⟩
    · subst e;rw [S.nu1,p2,p1 _ S.ij.2.1];exact Or.inl rfl
    · subst e;rw [S.nu2,p3,p1 _ S.ij.1];exact Or.inl rfl
    · subst e
      rw [p1 x hx]
      have h0:=S.nu.one hx
      rcases S.nug hx with ⟨h1,h2⟩ | ⟨h1,h2⟩ | ⟨_,_,h2⟩
      · rw [h2,p2,←h1];exact h0
      · rw [h2,p3,←h1];exact h0
      · rw [h2,p1 _ (S.nu.lt x hx)];exact h0) h
  simp only [p1 c hc,p1 d hd] at this
  exact this
theorem SplR.parts {P q:Nat} {ρ:Nat→Nat} (hq:q<P) (hP:∀x,x<N→pc x<P) (hpg:∀x,x<N→pc' (g x)=pc x∨(pc x=q∧pc' (g x)=P)) (h1:pc' d1=q) (h2:pc' d2=P):nCls (prtE pc' L') (P+1)=nCls (prtE pc L) P:=by
  have hL:∀t,t∈L→t.1<N∧t.2<N:=by
    have:=S.hl
    clear S
    induction this with
    | nil=>intro t ht;cases ht
    | cons h a b c d ih =>
      intro t ht
      rcases List.mem_cons.1 ht with e | e
      · subst e;exact ⟨a,b⟩
      · exact ih t e
  have hline:prtE pc' L' q P:=by
    have:=prtE_in (pc:=pc') (L:=L') (t:=(d1,d2)) (by rw [S.lg];simp)
    rwa [h1,h2] at this
  have hgp:∀x,x<N→prtE pc' L' (pc' (g x)) (pc x):=by
    intro x hx
    rcases hpg x hx with e | ⟨e1,e2⟩
    · rw [e];exact prtE_eqv.rf _
    · rw [e1,e2];exact prtE_eqv.sy hline
  have up:∀{a b},prtE pc L a b→prtE pc' L' a b:=fun {a b} h=>prtE_sub prtE_eqv (fun t ht=>by
    have hin:prtE pc' L' (pc' (g t.1)) (pc' (g t.2)):=prtE_in (t:=(g t.1,g t.2)) (by rw [S.lg];exact List.mem_cons_of_mem _ (List.mem_map.2 ⟨t,ht,rfl⟩))
    exact prtE_eqv.tr (prtE_eqv.sy (hgp _ (hL t ht).1)) (prtE_eqv.tr hin (hgp _ (hL t ht).2))) h
  have down:∀{a b},prtE pc' L' a b→prtE pc L (if a=P then q else a) (if b=P then q else b):=fun {a b} h =>
    prtE_sub (F:=fun a b=>prtE pc L (if a=P then q else a) (if b=P then q else b)) ⟨fun _=>prtE_eqv.rf _,fun h=>prtE_eqv.sy h,fun h k=>prtE_eqv.tr h k⟩ (fun t ht=>by
      show prtE pc L (if pc' t.1=P then q else pc' t.1) (if pc' t.2=P then q else pc' t.2)
      have hg:∀x,x<N→(if pc' (g x)=P then q else pc' (g x))=pc x:=by
        intro x hx
        have:=hP x hx
        rcases hpg x hx with e | ⟨e1,e2⟩
        · rw [e,if_neg (by omega)]
        · rw [e2,if_pos rfl,e1]
      rw [S.lg] at ht
      rcases List.mem_cons.1 ht with e | e
      · subst e
        show prtE pc L (if pc' d1=P then q else pc' d1) (if pc' d2=P then q else pc' d2)
        rw [h1,h2,if_neg (by omega),if_pos rfl];exact prtE_eqv.rf _
      · obtain ⟨u,hu,rfl⟩:=List.mem_map.1 e
        show prtE pc L (if pc' (g u.1)=P then q else pc' (g u.1)) (if pc' (g u.2)=P then q else pc' (g u.2))
        rw [hg _ (hL u hu).1,hg _ (hL u hu).2]
        exact prtE_in hu) h
  have hm:=Reps.mins (N:=P) (prtE_eqv (pc:=pc) (L:=L))
  have hr:Reps (prtE pc' L') (P+1) (minsE (prtE pc L) P):=by
    refine ⟨fun r hr=>by have:=hm.lt r hr;omega,?_,?_⟩
    · refine hm.dis.imp_of_mem ?_
      intro a b ha hb hne he
      have h3:=down he
      have:=hm.lt a ha
      have:=hm.lt b hb
      rw [if_neg (by omega),if_neg (by omega)] at h3
      exact hne h3
    · intro y hy
      by_cases e:y=P
      · subst e
        obtain ⟨r,a,b⟩:=hm.cov q hq
        exact ⟨r,a,prtE_eqv.tr (prtE_eqv.sy hline) (up b)⟩
      · obtain ⟨r,a,b⟩:=hm.cov y (by omega)
        exact ⟨r,a,up b⟩
  rw [←hr.len prtE_eqv];rfl
end
end Go.Proofs.Ytclghkegfpcdpaa.Vm
namespace Go.Proofs.Ytclghkegfpcdpaa.Vm
open Go
set_option maxRecDepth 100000
set_option linter.unusedSimpArgs false
set_option linter.unusedVariables false
attribute [-simp] List.getD_eq_getElem?_getD
def Sid.cells (s:Sid):List V:=[.int .i64 s.l,.int .i64 s.a,.int .i64 s.n,.int .i64 s.b,.int .i64 s.p]
def sdC:Cod Sid 5:=⟨Sid.cells,fun _=>rfl⟩
def wlk (l:List Sid)(c:Nat):Nat→Nat
  | 0=>c
  | k+1=>(l.getD (l.getD (wlk l c k) default).p.toNat default).n.toNat
structure LayOk (l:List Sid):Prop where
  n:∀i,i<l.length→0≤(l.getD i default).n∧(l.getD i default).n<l.length
  p:∀i,i<l.length→(l.getD i default).p≠-1→0≤(l.getD i default).p∧(l.getD i default).p<l.length
  len:l.length≤100000
section
variable {lim:Nat}{H:Hp}{K:V→Hp→Prop}
end
end Go.Proofs.Ytclghkegfpcdpaa.Vm
namespace Go.Proofs.Ytclghkegfpcdpaa.Vm
open Go
set_option maxRecDepth 100000
set_option linter.unusedSimpArgs false
set_option linter.unusedVariables false
attribute [-simp] List.getD_eq_getElem?_getD
section
variable {lim:Nat}{H:Hp}{K:V→Hp→Prop}
end
end Go.Proofs.Ytclghkegfpcdpaa.Vm
namespace Go.Proofs.Ytclghkegfpcdpaa.Vm
open Go
set_option maxRecDepth 100000
theorem cp_known {lim:Nat}{H:Hp}{K:V→Hp→Prop}(hlim:lim≤H.length)(hK:∀H',HX H H'→K (.bool true) H'):VCall tbl lim 16 [] H K :=
  vcall_known (n:=300) (by kernel_rfl) hlim fun X=>hK _ ⟨X,rfl⟩
end Go.Proofs.Ytclghkegfpcdpaa.Vm
namespace Go.Proofs.Ytclghkegfpcdpaa.Vm
open Go
set_option maxRecDepth 100000
set_option linter.unusedSimpArgs false
attribute [-simp] List.getD_eq_getElem?_getD
def restN (xs:List Int):Nat→Int
  | 0=>0
  | k+1=>(xs.getD (23-k) 0+xs.getD (47-k) 0)+restN xs k
def Small (xs:List Int):Prop:=∀x∈xs,-1099511627776≤x∧x≤1099511627776
theorem Small.at {xs:List Int}(h:Small xs)(i:Nat) : -1099511627776≤xs.getD i 0∧xs.getD i 0≤1099511627776:=by
  by_cases hi:i<xs.length
  · rw [List.getD_eq_getElem?_getD,List.getElem?_eq_getElem hi];exact h _ (List.getElem_mem hi)
  · rw [List.getD_eq_getElem?_getD,List.getElem?_eq_none (by omega)];simp
def aboveS (xs:List Int)(n:Int):Int:=restN xs (24-(max n 1-1).toNat)
theorem SlV.at {H:Hp} {v:V} {l:List Int} (h:SlV H v l) {i:Nat} (hi:i<l.length):∃b o,viaddrS 1 v (.int .i64 i)=some (.ptr b o)∧∀L,vload none L H (.ptr b o)=some (.int .i64 (l.getD i 0)):=by
  cases h with
  | nil=>simp at hi
  | empty=>simp at hi
  | sl h1 h2 h3 =>
    rename_i b off cs own
    refine ⟨b,off+i,?_,fun L => ?_⟩
    · rw [viaddrS_in (by omega)];simp
    · rw [vload_ptr h1]
      have hlt:off+i<cs.length:=by omega
      simp only [rd,hlt,if_true]
      have e:(cs.drop off)[i]? = (ints l)[i]? := by
        rw [←h3,List.getElem?_take_of_lt hi]
      rw [List.getElem?_drop,ints_get?,List.getElem?_eq_getElem hi] at e
      simp [List.getD_eq_getElem?_getD,e,hi]
def anyNeg (l:List Int):Bool:=l.any (·<0)
def anyBig (l:List Int):Bool:=l.any (1000000<·)
def errOf (r w:List Int):Int :=
  if 24<r.length∨24<w.length then 4 else if anyNeg r∨anyNeg w then 1 else if anyBig r∨anyBig w then 4 else 0
inductive BunV (H:Hp)(r w:List Int):V→Prop
  | mk {rv wv:V}:SlV H rv r→SlV H wv w→BunV H r w (.agg [rv,wv])
theorem BunV.mono {H H':Hp}(hx:HX H H'){v:V}{r w:List Int}(h:BunV H r w v):BunV H' r w v:=by
  cases h with
  | mk h1 h2=>exact .mk (h1.mono hx) (h2.mono hx)
def pad (l:List Int):List Int:=l++List.replicate (24-l.length) 0
def sheafOf (r w:List Int):List Int:=pad r++pad w
def opened (r w:List Int):List Int:=if errOf r w=0 then sheafOf r w else zs 48
def inRest (xs:List Int):Nat→Int
  | 0=>0
  | k+1=>(24-k)*(xs.getD (23-k) 0+xs.getD (47-k) 0)+inRest xs k
def inchesS (xs:List Int):Int:=inRest xs 24
section
variable {lim:Nat}{H:Hp}{bv:V}{r w:List Int}{K:V→Hp→Prop}
theorem BunV.stor (h:BunV H r w bv):stor bv=true∧(cellsV bv).length=2:=by
  cases h with
  | mk h1 h2=>exact ⟨rfl,rfl⟩
theorem BunV.load (h:BunV H r w bv):rd (some 2) (cellsV bv) 0=some bv:=by
  cases h with
  | mk h1 h2=>exact rd_two
end
end Go.Proofs.Ytclghkegfpcdpaa.Vm
namespace Go.Proofs.Ytclghkegfpcdpaa.Vm
open Go
set_option maxRecDepth 100000
set_option linter.unusedSimpArgs false
attribute [-simp] List.getD_eq_getElem?_getD
structure RefOf (xs ys:List Int):Prop where
  len:ys.length=50
  right:∀i,i<24→ys.getD (i+1) 0=xs.getD i 0
  wrong:∀i,i<24→ys.getD (26+i) 0=xs.getD (24+i) 0
  zero:ys.getD 0 0=0∧ys.getD 25 0=0
theorem RefOf.at {xs ys:List Int}(h:RefOf xs ys){m:Nat}(h1:1≤m)(h2:m≤24):ys.getD m 0=xs.getD (m-1) 0∧ys.getD (25+m) 0=xs.getD (24+(m-1)) 0:=by
  obtain ⟨i,rfl⟩:∃i,m=i+1:=⟨m-1,by omega⟩
  refine ⟨h.right i (by omega),?_⟩
  rw [show 25+(i+1)=26+i by omega]
  exact h.wrong i (by omega)
section
variable {lim:Nat}{H:Hp}{bv:V}{r w:List Int}{K:V→Hp→Prop}
end
section
variable {lim:Nat}{H:Hp}{bv:V}{r w:List Int}{K:V→Hp→Prop}
end
end Go.Proofs.Ytclghkegfpcdpaa.Vm
namespace Go.Proofs.Ytclghkegfpcdpaa.Vm
open Go
set_option maxRecDepth 100000
set_option linter.unusedSimpArgs false
set_option linter.unusedVariables false
attribute [-simp] List.getD_eq_getElem?_getD
inductive OwnB (n:Nat)(H:Hp)(r w:List Int):V→Prop
  | mk {rv wv:V}:OwnV n H rv r→OwnV n H wv w→OwnB n H r w (.agg [rv,wv])
theorem OwnB.mono {n:Nat}{H H':Hp}(hx:HX H H'){v:V}{r w:List Int}(h:OwnB n H r w v):OwnB n H' r w v:=by
  cases h with
  | mk h1 h2=>exact .mk (h1.mono hx) (h2.mono hx)
theorem OwnB.le {n m:Nat}(hnm:n≤m){H:Hp}{v:V}{r w:List Int}(h:OwnB m H r w v):OwnB n H r w v:=by
  cases h with
  | mk h1 h2=>exact .mk (h1.le hnm) (h2.le hnm)
theorem OwnB.zero {n:Nat}{H:Hp}:OwnB n H [] [] (.agg [.snil,.snil]):=.mk .nil .nil
theorem OwnB.stor {n:Nat}{H:Hp}{v:V}{r w:List Int}(h:OwnB n H r w v):stor v=true∧(cellsV v).length=2:=by
  cases h;exact ⟨rfl,rfl⟩
abbrev HF:=Nat→Nat→Int
def mk48 (f:HF):List Int:=(List.range 48).map fun k=>f (k / 24) (k % 24+1)
def mk50 (f:HF):List Int:=(List.range 50).map fun k=>if k % 25=0 then 0 else f (k / 25) (k % 25)
def fset (f:HF)(w n:Nat)(x:Int):HF:=fun w' n'=>if w'=w∧n'=n then x else f w' n'
@[simp] theorem mk48_len {f:HF}:(mk48 f).length=48:=by simp [mk48]
@[simp] theorem mk50_len {f:HF}:(mk50 f).length=50:=by simp [mk50]
def op (r w:List Int):HF:=fun way n=>if errOf r w=0 then (if way=0 then r else w).getD (n-1) 0 else 0
def lastN (f:Nat→Int):Nat→Nat
  | 0=>0
  | k+1=>if f (k+1)=0 then lastN f k else k+1
def listN (f:Nat→Int)(n:Nat):List Int:=(List.range n).map fun i=>f (i+1)
@[simp] theorem listN_length (f:Nat→Int) (n:Nat):(listN f n).length=n:=by simp [listN]
def sideF (f:HF)(way:Nat):List Int:=listN (f way) (lastN (f way) 24)
end Go.Proofs.Ytclghkegfpcdpaa.Vm
namespace Go.Proofs.Ytclghkegfpcdpaa.Vm
open Go
set_option maxRecDepth 100000
set_option linter.unusedSimpArgs false
set_option linter.unusedVariables false
attribute [-simp] List.getD_eq_getElem?_getD
def pvC:Cod (V×V) 2:=⟨fun p=>[p.1,p.2],fun _=>rfl⟩
def smC:Cod Sm 4:=⟨fun s=>[.int .i64 s.A,.int .i64 s.I,.int .i64 s.B,.int .i64 s.J],fun _=>rfl⟩
structure PcsV (H:Hp)(v:V)(ps:List (V×V))(pcs:List Pc):Prop where
  lst:LstV pvC H v ps
  len:ps.length=pcs.length
  at':∀i,i<pcs.length→SlV H (ps.getD i default).1 (pcs.getD i default).s∧SlV H (ps.getD i default).2 (pcs.getD i default).a
inductive CapV (H:Hp):List V→Cp→Prop
  | mk {pv sv:V} {ps:List (V×V)} {P:List Pc} {S:List Sm} {e:Int}:PcsV H pv ps P→LstV smC H sv S→CapV H [pv,sv,.int .i64 e] ⟨P,S,e⟩
section
variable {lim:Nat}{H H':Hp}{K:V→Hp→Prop}{v pv sv:V}{ps:List (V×V)}{pcs P:List Pc}{S:List Sm}{e:Int}{ws:List V}{c:Cp}
theorem PcsV.mono (hx:HX H H')(h:PcsV H v ps pcs):PcsV H' v ps pcs:=⟨h.lst.mono hx,h.len,fun i hi=>⟨(h.at' i hi).1.mono hx,(h.at' i hi).2.mono hx⟩⟩
theorem CapV.mono (hx:HX H H')(h:CapV H ws c):CapV H' ws c:=by
  cases h with
  | mk h1 h2=>exact .mk (h1.mono hx) (h2.mono hx)
theorem PcsV.at (h:PcsV H v ps pcs){i:Nat}(hi:i<pcs.length):viaddrS 2 v (.int .i64 (i:Int))=some (ept 2 v i):=h.lst.at (by rw [h.len];exact hi)
theorem PcsV.addr (h:PcsV H v ps pcs){i:Int}(hi:0≤i∧i<pcs.length):viaddrS 2 v (.int .i64 i)=some (ept 2 v i.toNat):=h.lst.addr (by rw [h.len];exact hi)
theorem surf_isSide {n:Int}(hK:K (.bool (decide (1≤n∧n≤200))) H):VCall tbl lim 73 [.int .i64 n] H K:=by
  refine VCall_fn tbl_at73 rfl ?_
  simp [vf73]
  by_cases h:1≤n
  · simpa [h] using hK
  · simpa [h] using hK
theorem r02_within {n a b:Int}(hK:K (.bool (decide (a≤n∧n≤b))) H):VCall tbl lim 55 [.int .i64 n,.int .i64 a,.int .i64 b] H K:=by
  refine VCall_fn tbl_at55 rfl ?_
  simp [vf55]
  by_cases h:a≤n
  · simpa [h] using hK
  · simpa [h] using hK
def pcOkN (p:Pc)(i:Nat):Bool:=decide ((1≤p.s.getD i 0∧p.s.getD i 0≤200)∧(1≤p.a.getD i 0∧p.a.getD i 0≤359))
end
end Go.Proofs.Ytclghkegfpcdpaa.Vm
namespace Go.Proofs.Ytclghkegfpcdpaa.Vm
open Go
set_option maxRecDepth 100000
set_option linter.unusedSimpArgs false
set_option linter.unusedVariables false
attribute [-simp] List.getD_eq_getElem?_getD
structure KeyE (α:Type)[DecidableEq α] where
  kv:α→V
  g:Bool
  ks:List CK
  agg:∀a,isAggV (kv a)=g
  eq:∀a b,eqCells ks (cellsV (kv a)) (cellsV (kv b))=some (decide (a=b))
  st:∀a,stor (kv a)=true
section
variable {α β:Type}[DecidableEq α]
def lkI (a:α):List (α×β)→Option (Nat×β)
  | []=>none
  | p :: r=>if a=p.1 then some (0,p.2) else (lkI a r).map fun q=>(q.1+1,q.2)
def look (a:α)(l:List (α×β)):Option β:=(lkI a l).map fun q=>q.2
def putA (a:α)(u:β)(l:List (α×β)):List (α×β):=match lkI a l with
  | some q=>l.set q.1 (a,u)
  | none=>l++[(a,u)]
theorem lkI_set {a:α} {u:β}:∀{l:List (α×β)} {i:Nat} {v:β},lkI a l=some (i,v)→i<l.length∧lkI a (l.set i (a,u))=some (i,u)∧∀b,b≠a→(lkI b (l.set i (a,u)))=lkI b l
  | [],i,v,h=>by simp [lkI] at h
  | p :: l,i,v,h=>by
    simp only [lkI] at h
    split at h
    · rename_i e
      cases h
      refine ⟨by simp,by simp [lkI],fun b hb => ?_⟩
      simp only [List.set_cons_zero,lkI]
      rw [if_neg hb,if_neg (by rw [←e];exact hb)]
    · rename_i e
      cases hm:lkI a l with
      | none=>rw [hm] at h;cases h
      | some q =>
        rw [hm] at h
        simp only [Option.map_some,Option.some.injEq,Prod.mk.injEq] at h
        obtain ⟨rfl,rfl⟩:=h
        obtain ⟨h1,h2,h3⟩:=lkI_set (u:=u) (i:=q.1) (v:=q.2) hm
        refine ⟨by simp;exact h1,?_,fun b hb => ?_⟩
        · simp only [List.set_cons_succ,lkI]
          rw [if_neg e,h2];rfl
        · simp only [List.set_cons_succ,lkI,h3 b hb]
theorem lkI_push {a:α} {u:β}:∀{l:List (α×β)},lkI a l=none→lkI a (l++[(a,u)])=some (l.length,u)∧∀b,b≠a→lkI b (l++[(a,u)])=lkI b l
  | [],_=>⟨by simp [lkI],fun b hb=>by simp [lkI,hb]⟩
  | p :: l,h=>by
    simp only [lkI] at h
    split at h
    · cases h
    · rename_i e
      have hm:lkI a l=none:=by
        cases hm:lkI a l with
        | none=>rfl
        | some q=>rw [hm] at h;cases h
      obtain ⟨h1,h2⟩:=lkI_push (u:=u) hm
      refine ⟨?_,fun b hb => ?_⟩
      · simp only [List.cons_append,lkI]
        rw [if_neg e,h1];rfl
      · simp only [List.cons_append,lkI,h2 b hb]
theorem look_put {a b:α}{u:β}{l:List (α×β)}:look b (putA a u l)=if b=a then some u else look b l:=by
  unfold look putA
  cases hm:lkI a l with
  | none =>
    obtain ⟨h1,h2⟩:=lkI_push (u:=u) hm
    by_cases e:b=a
    · subst e;rw [if_pos rfl];simp only [h1];rfl
    · rw [if_neg e];simp only [h2 b e]
  | some q =>
    obtain ⟨_,h1,h2⟩:=lkI_set (u:=u) (i:=q.1) (v:=q.2) hm
    by_cases e:b=a
    · subst e;rw [if_pos rfl];simp only [h1];rfl
    · rw [if_neg e];simp only [h2 b e]
theorem look_nil {b:α}:look b ([]:List (α×β))=none:=rfl
def mE (K:KeyE α)(vc:β→V)(l:List (α×β)):List (V×V):=l.map fun p=>(K.kv p.1,vc p.2)
section
variable {lim:Nat}{H:Hp}{K:KeyE α}{vc:β→V}{l:List (α×β)}{a:α}{u z:β}{b:Nat}
def entI (a:α)(l:List (α×β)):Nat:=match lkI a l with
  | some q=>q.1
  | none=>l.length
end
end
def kI:KeyE Int:=⟨fun a=>.int .i64 a,false,[.int .i64],fun _=>rfl,fun a b=>by simp [eqCells,eqCell,cellsV];by_cases e:a=b<;>simp [e],fun _=>rfl⟩
def kI2:KeyE (Int×Int):=⟨fun a=>.agg [.int .i64 a.1,.int .i64 a.2],true,[.int .i64,.int .i64],fun _=>rfl,fun a b=>by
  obtain ⟨a1,a2⟩:=a
  obtain ⟨b1,b2⟩:=b
  simp only [eqCells,eqCell,cellsV,and_self,if_true,Bool.and_true,Option.some.injEq]
  by_cases e:a1=b1<;>by_cases e2:a2=b2<;>simp [e,e2],fun _=>rfl⟩
def kI3:KeyE (Int×Int×Int):=⟨fun a=>.agg [.int .i64 a.1,.int .i64 a.2.1,.int .i64 a.2.2],true,[.int .i64,.int .i64,.int .i64],fun _=>rfl,fun a b=>by
  obtain ⟨a1,a2,a3⟩:=a
  obtain ⟨b1,b2,b3⟩:=b
  simp only [eqCells,eqCell,cellsV,and_self,if_true,Bool.and_true,Option.some.injEq]
  by_cases e:a1=b1<;>by_cases e2:a2=b2<;>by_cases e3:a3=b3<;>simp [e,e2,e3],fun _=>rfl⟩
end Go.Proofs.Ytclghkegfpcdpaa.Vm
namespace Go.Proofs.Ytclghkegfpcdpaa.Vm
open Go
set_option maxRecDepth 100000
set_option maxHeartbeats 1000000
set_option linter.unusedSimpArgs false
set_option linter.unusedVariables false
attribute [-simp] List.getD_eq_getElem?_getD
theorem keepL {L:Lo}{q:Nat}{c:List V}(h:L[q]? = some c):∀d,(L++[d])[q]? = some c:=fun d=>by
  rw [List.getElem?_append_left (List.getElem?_eq_some_iff.1 h).1];exact h
section
variable {lim:Nat}{H H':Hp}{K:V→Hp→Prop}{v pv sv:V}{ps:List (V×V)}{pcs P:List Pc}{S:List Sm}{e:Int}{ws:List V}{c:Cp}
def usedB (pre:List Sm)(s:Sm):Bool:=pre.any fun t=>usesB t s.A s.I||usesB t s.B s.J
def selfB (s:Sm):Bool:=decide (s.A=s.B)&&decide (s.I=s.J)
def dfS (pcs:List Pc)(s:Sm):Int:=(pcs.getD s.A.toNat default).s.getD s.I.toNat 0-(pcs.getD s.B.toNat default).s.getD s.J.toNat 0
def PcsOk (P:List Pc):Prop:=∀q,q<P.length→pieceB (P.getD q default)=true
end
end Go.Proofs.Ytclghkegfpcdpaa.Vm
namespace Go.Proofs.Ytclghkegfpcdpaa.Vm
open Go
set_option maxRecDepth 100000
set_option maxHeartbeats 1000000
set_option linter.unusedSimpArgs false
set_option linter.unusedVariables false
attribute [-simp] List.getD_eq_getElem?_getD
section
variable {lim:Nat}{H H':Hp}{K:V→Hp→Prop}{v pv sv:V}{ps:List (V×V)}{pcs P:List Pc}{S:List Sm}{e:Int}{ws:List V}{c:Cp}
def SewR (M:List ((Int×Int)×Bool))(pre:List Sm):Prop:=∀a i,(look (a,i) M).getD false=pre.any fun t=>usesB t a i
theorem SewR.nil:SewR [] []:=fun a i=>by simp [look_nil]
theorem SewR.snoc {M:List ((Int×Int)×Bool)} {pre:List Sm} {s:Sm} (h:SewR M pre):SewR (putA (s.B,s.J) true (putA (s.A,s.I) true M)) (pre++[s]):=by
  intro a i
  rw [look_put,look_put,List.any_append,←h a i]
  simp only [List.any_cons,List.any_nil,Bool.or_false,usesB,Prod.mk.injEq]
  by_cases h1:a=s.B∧i=s.J
  · simp [h1.1,h1.2]
  · rw [if_neg h1]
    by_cases h2:a=s.A∧i=s.I
    · simp [h2.1,h2.2]
    · rw [if_neg h2]
      have e1:(decide (s.A=a)&&decide (s.I=i))=false:=by
        rw [Bool.and_eq_false_iff]
        by_cases e:s.A=a
        · right;rw [decide_eq_false_iff_not];exact fun e2=>h2 ⟨e.symm,e2.symm⟩
        · left;exact decide_eq_false e
      have e2:(decide (s.B=a)&&decide (s.J=i))=false:=by
        rw [Bool.and_eq_false_iff]
        by_cases e:s.B=a
        · right;rw [decide_eq_false_iff_not];exact fun e2=>h1 ⟨e.symm,e2.symm⟩
        · left;exact decide_eq_false e
      rw [e1,e2];simp
end
end Go.Proofs.Ytclghkegfpcdpaa.Vm
namespace Go.Proofs.Ytclghkegfpcdpaa.Vm
open Go
set_option maxRecDepth 100000
set_option maxHeartbeats 1000000
set_option linter.unusedSimpArgs false
set_option linter.unusedVariables false
attribute [-simp] List.getD_eq_getElem?_getD
def sdP (P:List Pc)(L:List (Nat×Nat))(i:Nat):Sid:=⟨lnN P i,anN P i,nxN P i,bfN P i,if alf L i=i then -1 else (alf L i:Nat)⟩
def layL (P:List Pc)(L:List (Nat×Nat)):List Sid:=(List.range (nsN P)).map (sdP P L)
section
variable {n lim:Nat}{H H0 H':Hp}{K:V→Hp→Prop}{v lv fv pv sv:V}{ps:List (V×V)}{pcs P:List Pc}{S:List Sm}{e:Int}{ws:List V}{c:Cp}{l:List Sid}{f:List Int}
theorem OwnV.keepB (h:OwnV n H v f)(hk:∀b o m z,v=.sl b o m z→H'[b]? = H[b]?):OwnV n H' v f:=by
  cases h with
  | nil=>exact .nil
  | row h1 h3=>exact .row h1 (by rw [hk _ _ _ _ rfl];exact h3)
theorem OwnT.keepB {α:Type}{k:Nat}{c:Cod α k}{l:List α}(h:OwnT n c H v l)(hk:∀b o m z,v=.sl b o m z→H'[b]? = H[b]?):OwnT n c H' v l:=by
  cases h with
  | nil=>exact .nil
  | row h1 h3=>exact .row h1 (by rw [hk _ _ _ _ rfl];exact h3)
theorem OwnT.belowB {α:Type}{k:Nat}{c:Cod α k}{l:List α}(h:OwnT n c H v l):∀b o m z,v=.sl b o m z→n≤b∧b<H.length:=by
  rintro b o m z rfl
  cases h with
  | row h1 h3=>exact ⟨h1,(List.getElem?_eq_some_iff.1 h3).1⟩
theorem OwnV.belowB (h:OwnV n H v f):∀b o m z,v=.sl b o m z→n≤b∧b<H.length:=by
  rintro b o m z rfl
  cases h with
  | row h1 h3=>exact ⟨h1,(List.getElem?_eq_some_iff.1 h3).1⟩
theorem OwnV.appendF (h:OwnV n H v f){x:Int}(hn:lim≤n∧n≤H.length)(hl:f.length<1000000) :
    ∃v' H',vappend lim 1 8 (H++[.row [.int .i64 x] true]) v (.sl H.length 0 1 1)=some (v',H')∧OwnV n H' v' (f++[x])∧(∀H0,HX H0 H→H0.length≤n→HX H0 H')∧H.length≤H'.length∧(∀b',b'<H.length→(∀o z y,v≠.sl b' o z y)→H'[b']? = H[b']?)∧∀b o z y,v'=.sl b o z y→H.length≤b:=by
  refine ⟨_,_,h.append ⟨hn.1,hl⟩,h.ap hn.2,fun H0 hx h0=>h.apX hx h0,h.apLen,fun b' hb' hne => ?_,fun b o z y e=>by cases e;omega⟩
  cases h with
  | nil=>simp only [apH];rw [List.getElem?_append_left (by simp;omega),List.getElem?_append_left hb']
  | row h1 h3 =>
    rename_i b
    simp only [apH]
    rw [List.getElem?_append_left (by simp;omega),List.getElem?_set_ne (fun e=>hne _ _ _ (by rw [e])),List.getElem?_append_left hb']
theorem OwnT.appendF2 {α:Type}{k:Nat}{c:Cod α k}{l:List α}(h:OwnT n c H v l){lim bytes:Nat}{x:α}{cs:List V}(hcs:c.cells x=cs)(hn:lim≤n∧n≤H.length)(hb:bytes≤1000)(hl:l.length<1000000) :
    ∃v' H',vappend lim k bytes (H++[.row cs true]) v (.sl H.length 0 1 k)=some (v',H')∧OwnT n c H' v' (l++[x])∧(∀H0,HX H0 H→H0.length≤n→HX H0 H')∧H.length≤H'.length∧(∀b',b'<H.length→(∀o z y,v≠.sl b' o z y)→H'[b']? = H[b']?)∧∀b o z y,v'=.sl b o z y→H.length≤b:=by
  have hh:=h
  subst hcs
  obtain ⟨v',H',a1,a2,a3,a4,a5,a6⟩:=h.append (lim:=lim) (bytes:=bytes) (x:=x) rfl hn hb hl
  refine ⟨v',H',a1,a2,a3,by omega,a6,?_⟩
  have hy:LstV c (H++[.row (c.cells x) true]) (.sl H.length 0 1 k) [x]:=by
    have:=LstV.sl (c:=c) (l:=[x]) (off:=0) (H:=H++[.row (c.cells x) true]) (b:=H.length) (own:=true) (cs:=c.cells x) List.getElem?_concat_length (by simp [c.len]) (by simp [Cod.all_one];rw [List.take_of_length_le (by rw [c.len];omega)])
    simpa using this
  have hb1:(l.length+1)*bytes≤1000000*1000:=Nat.mul_le_mul (by omega) hb
  have hb2:1*bytes≤1000000*1000:=Nat.mul_le_mul (by omega) hb
  rintro b o z y rfl
  cases hh with
  | nil =>
    simp [vappend,hy.cells,hy.len,show bytes≤140737488355328 by omega] at a1
    omega
  | row h1 h2 =>
    rename_i b'
    have hbl:=(List.getElem?_eq_some_iff.1 h2).1
    have h2':(H++[Blk.row (c.cells x) true])[b']? = some (.row (c.all l) true):=by rw [List.getElem?_append_left hbl];exact h2
    simp [vappend,hy.cells,hy.len,h2',Cod.all_len,show lim≤b' by omega,show (l.length+1)*bytes≤140737488355328 by omega,show l.length+1<4611686018427387904 by omega] at a1
    omega
structure LayS (n:Nat)(H0 H:Hp)(lv fv:V)(l:List Sid)(f:List Int):Prop where
  hx:HX H0 H
  ol:OwnT n sdC H lv l
  of:OwnV n H fv f
  ap:∀b o z y o' z' y',lv=.sl b o z y→fv=.sl b o' z' y'→False
theorem LayS.pushF (h:LayS n H0 H lv fv l f){x:Int}(hn:lim≤n∧H0.length≤n∧n≤H.length)(hl:f.length<1000000) :
    ∃v' H',vappend lim 1 8 (H++[.row [.int .i64 x] true]) fv (.sl H.length 0 1 1)=some (v',H')∧LayS n H0 H' lv v' l (f++[x])∧H.length≤H'.length:=by
  obtain ⟨v',H',a1,a2,a3,a4,a5,a6⟩:=h.of.appendF (x:=x) ⟨hn.1,hn.2.2⟩ hl
  refine ⟨v',H',a1,⟨a3 _ h.hx hn.2.1,h.ol.keepB fun b o m z e=>a5 b (h.ol.belowB _ _ _ _ e).2 fun o' z' y' e'=>h.ap _ _ _ _ _ _ _ e e',a2,fun b o z y o' z' y' e e' => ?_⟩,a4⟩
  have:=(h.ol.belowB _ _ _ _ e).2
  have:=a6 _ _ _ _ e'
  omega
theorem LayS.pushL (h:LayS n H0 H lv fv l f){x:Sid}{cs:List V}(hcs:sdC.cells x=cs)(hn:lim≤n∧H0.length≤n∧n≤H.length)(hl:l.length<1000000) :
    ∃v' H',vappend lim 5 40 (H++[.row cs true]) lv (.sl H.length 0 1 5)=some (v',H')∧LayS n H0 H' v' fv (l++[x]) f∧H.length≤H'.length:=by
  obtain ⟨v',H',a1,a2,a3,a4,a5,a6⟩:=h.ol.appendF2 (lim:=lim) (bytes:=40) hcs ⟨hn.1,hn.2.2⟩ (by omega) hl
  refine ⟨v',H',a1,⟨a3 _ h.hx hn.2.1,a2,h.of.keepB fun b o m z e=>a5 b (h.of.belowB _ _ _ _ e).2 fun o' z' y' e'=>h.ap _ _ _ _ _ _ _ e' e,fun b o z y o' z' y' e e' => ?_⟩,a4⟩
  have:=(h.of.belowB _ _ _ _ e').2
  have:=a6 _ _ _ _ e
  omega
def offL (P:List Pc)(i:Nat):List Int:=(List.range i).map fun q=>(offN P q:Int)
end
end Go.Proofs.Ytclghkegfpcdpaa.Vm
namespace Go.Proofs.Ytclghkegfpcdpaa.Vm
open Go
set_option maxRecDepth 100000
set_option linter.unusedSimpArgs false
set_option linter.unusedVariables false
attribute [-simp] List.getD_eq_getElem?_getD
section
variable {α:Type}[Inhabited α]
structure PermR (a b:Nat)(l l':List α):Prop where
  perm:l'.Perm l
  out:∀i,(i<a∨b≤i)→l'.getD i default=l.getD i default
theorem PermR.refl {a b:Nat}{l:List α}:PermR a b l l:=⟨.refl _,fun _ _=>rfl⟩
theorem PermR.trans {a b:Nat}{l l' l'':List α}(h:PermR a b l l')(k:PermR a b l' l''):PermR a b l l'':=⟨k.perm.trans h.perm,fun i hi=>(k.out i hi).trans (h.out i hi)⟩
theorem PermR.len {a b:Nat}{l l':List α}(h:PermR a b l l'):l'.length=l.length:=h.perm.length_eq
def swp (l:List α)(i j:Nat):List α:=(l.set i (l.getD j default)).set j (l.getD i default)
theorem swp_len {l:List α}{i j:Nat}:(swp l i j).length=l.length:=by simp [swp]
theorem getD_of {l:List α}{i:Nat}(h:i<l.length):l.getD i default=l[i]:=by simp [List.getD_eq_getElem?_getD,h]
theorem setD_get {l:List α}{i k:Nat}{x:α}(h:i<l.length):(l.set i x).getD k default=if k=i then x else l.getD k default:=by
  simp only [List.getD_eq_getElem?_getD,List.getElem?_set]
  by_cases e:k=i
  · subst e;simp [h]
  · rw [if_neg (fun e'=>e e'.symm),if_neg e]
theorem swp_get {l:List α}{i j k:Nat}(hi:i<l.length)(hj:j<l.length):(swp l i j).getD k default=if k=j then l.getD i default else if k=i then l.getD j default else l.getD k default:=by
  rw [swp,setD_get (by simpa using hj),setD_get hi]
end
section
variable {α:Type}[Inhabited α]{cf:α→α→Int}
def leC (cf:α→α→Int)(x y:α):Prop:=¬cf y x<0
structure Ordr (cf:α→α→Int):Prop where
  tr:∀x y z,leC cf x y→leC cf y z→leC cf x z
  tot:∀x y,leC cf x y∨leC cf y x
omit [Inhabited α] in
theorem Ordr.rf (h:Ordr cf)(x:α):leC cf x x:=(h.tot x x).elim id id
def SortR (cf:α→α→Int)(a b:Nat)(l:List α):Prop:=∀p q,a≤p→p<q→q<b→leC cf (l.getD p default) (l.getD q default)
def InsR (cf:α→α→Int)(a i j:Nat)(l:List α):Prop :=
  (∀p q,a≤p→p<q→q≤i→p≠j→q≠j→leC cf (l.getD p default) (l.getD q default))∧∀q,j<q→q≤i→leC cf (l.getD j default) (l.getD q default)
theorem InsR.start {a i:Nat}{l:List α}(h:SortR cf a i l):InsR cf a i i l :=
  ⟨fun p q h1 h2 h3 _ h5=>h p q h1 h2 (by omega),fun q h1 h2=>absurd h1 (by omega)⟩
theorem InsR.done (ho:Ordr cf) {a i j:Nat} {l:List α} (h:InsR cf a i j l) (ha:a≤j) (hj:j≤i) (hx:j=a∨¬cf (l.getD j default) (l.getD (j-1) default)<0):SortR cf a (i+1) l:=by
  intro p q h1 h2 h3
  by_cases e1:p=j
  · subst e1;exact h.2 q h2 (by omega)
  · by_cases e2:q=j
    · subst e2
      rcases hx with hx | hx
      · omega
      · by_cases e3:p=q-1
        · subst e3;exact hx
        · exact ho.tr _ _ _ (h.1 p (q-1) h1 (by omega) (by omega) e1 (by omega)) hx
    · exact h.1 p q h1 h2 (by omega) e1 e2
end
section
variable {α:Type}[Inhabited α]
def swr (l:List α)(a b:Nat):Nat→List α
  | 0=>l
  | n+1=>swp (swr l a b n) (a+n) (b+n)
theorem swr_len {l:List α}{a b:Nat}:∀{n:Nat},(swr l a b n).length=l.length
  | 0=>rfl
  | n+1=>by rw [swr,swp_len,swr_len]
theorem swr_get {l:List α}{a b N:Nat}(hab:a+N≤b)(hb:b+N≤l.length):∀{n:Nat},n≤N→∀k,(swr l a b n).getD k default=if a≤k∧k<a+n then l.getD (k-a+b) default else if b≤k∧k<b+n then l.getD (k-b+a) default else l.getD k default
  | 0,_,k=>by rw [swr,if_neg (by omega),if_neg (by omega)]
  | n+1,hn,k=>by
    have ih:=swr_get hab hb (n:=n) (by omega)
    rw [swr,swp_get (by rw [swr_len];omega) (by rw [swr_len];omega),ih (a+n),ih (b+n),ih k]
    repeat' split
    all_goals first | rfl | (exfalso;omega) | (exact congrArg (fun z=>List.getD _ z default) (by omega))
def RotR (a m b:Nat)(l l':List α):Prop:=∀k,l'.getD k default=if a≤k∧k<b then (if k<a+(b-m) then l.getD (k+(m-a)) default else l.getD (k-(b-m)) default) else l.getD k default
def RotI (a m b i j:Nat)(l l':List α):Prop:=∀k,(if a≤k∧k<b then (if k<a+(b-m) then l.getD (k+(m-a)) default else l.getD (k-(b-m)) default) else l.getD k default) =
  if m-i≤k∧k<m+j then (if k<m-i+j then l'.getD (k+i) default else l'.getD (k-j) default) else l'.getD k default
theorem RotI.start {a m b:Nat}{l:List α}(h:a≤m∧m≤b):RotI a m b (m-a) (b-m) l l:=fun k=>by
  repeat' split
  all_goals first | rfl | (exfalso;omega) | (exact congrArg (fun z=>List.getD _ z default) (by omega))
theorem RotI.more {a m b i j:Nat}{l l':List α}(h:RotI a m b i j l l')(hi:i≤m)(hj:j<i)(hl:m+j≤l'.length):RotI a m b (i-j) j l (swr l' (m-i) m j):=fun k=>by
  have g:=swr_get (l:=l') (a:=m-i) (b:=m) (N:=j) (by omega) hl (Nat.le_refl _)
  rw [h k]
  simp only [g]
  repeat' split
  all_goals first | rfl | (exfalso;omega) | (exact congrArg (fun z=>List.getD _ z default) (by omega))
theorem RotI.done {a m b i:Nat}{l l':List α}(h:RotI a m b i i l l')(hi:i≤m)(hl:m+i≤l'.length):RotR a m b l (swr l' (m-i) m i):=fun k=>by
  have g:=swr_get (l:=l') (a:=m-i) (b:=m) (N:=i) (by omega) hl (Nat.le_refl _)
  rw [h k,g k]
  repeat' split
  all_goals first | rfl | (exfalso;omega) | (exact congrArg (fun z=>List.getD _ z default) (by omega))
theorem RotR.same {a m b:Nat}{l:List α}(h:(a=m∧m≤b)∨(m=b∧a≤m)):RotR a m b l l:=fun k=>by
  rcases h with ⟨rfl,h⟩ | ⟨rfl,h⟩
  · repeat' split
    all_goals first | rfl | (exfalso;omega) | (exact congrArg (fun z=>List.getD _ z default) (by omega))
  · repeat' split
    all_goals first | rfl | (exfalso;omega) | (exact congrArg (fun z=>List.getD _ z default) (by omega))
theorem PermR.mem {a b:Nat}{l l':List α}(h:PermR a b l l')(hb:b≤l.length){k:Nat}(hk:a≤k∧k<b):∃k',(a≤k'∧k'<b)∧l'.getD k default=l.getD k' default:=by
  have hlen:=h.len
  have e1:l'.take a=l.take a:=by
    apply List.ext_getElem?
    intro i
    by_cases hi:i<a
    · rw [List.getElem?_take_of_lt hi,List.getElem?_take_of_lt hi]
      have:=h.out i (Or.inl hi)
      rw [getD_of (by omega),getD_of (by omega)] at this
      rw [List.getElem?_eq_getElem (by omega),List.getElem?_eq_getElem (by omega),this]
    · rw [List.getElem?_eq_none (by simp;omega),List.getElem?_eq_none (by simp;omega)]
  have e2:l'.drop b=l.drop b:=by
    apply List.ext_getElem?
    intro i
    rw [List.getElem?_drop,List.getElem?_drop]
    by_cases hi:b+i<l.length
    · have:=h.out (b+i) (Or.inr (by omega))
      rw [getD_of (by omega),getD_of (by omega)] at this
      rw [List.getElem?_eq_getElem (by omega),List.getElem?_eq_getElem (by omega),this]
    · rw [List.getElem?_eq_none (by omega),List.getElem?_eq_none (by omega)]
  have sp:∀q:List α,q=q.take a++((q.drop a).take (b-a)++q.drop b):=fun q=>by
    have:=(List.take_append_drop a q).symm
    have h2:=(List.take_append_drop (b-a) (q.drop a)).symm
    rw [List.drop_drop,show a+(b-a)=b by omega] at h2
    rw [←h2];exact this
  have hp:=h.perm
  rw [sp l',sp l,e1,e2] at hp
  have hp2:=(List.perm_append_right_iff _).1 ((List.perm_append_left_iff _).1 hp)
  have hm:l'.getD k default∈(l'.drop a).take (b-a):=by
    rw [List.mem_iff_getElem?]
    refine ⟨k-a,?_⟩
    rw [List.getElem?_take_of_lt (by omega),List.getElem?_drop,show a+(k-a)=k by omega,getD_of (by omega),List.getElem?_eq_getElem (by omega)]
  have hm2:=hp2.mem_iff.1 hm
  obtain ⟨i,hi⟩:=List.mem_iff_getElem?.1 hm2
  have hil:i<b-a:=by
    have:=(List.getElem?_eq_some_iff.1 hi).1
    simp at this;omega
  rw [List.getElem?_take_of_lt hil,List.getElem?_drop] at hi
  refine ⟨a+i,by omega,?_⟩
  rw [getD_of (show a+i<l.length by omega)]
  rw [List.getElem?_eq_getElem (by omega)] at hi
  exact (Option.some.inj hi).symm
theorem PermR.wide {a b x y:Nat}{l l':List α}(h:PermR a b l l')(hx:x≤a)(hy:b≤y):PermR x y l l':=⟨h.perm,fun i hi=>h.out i (by omega)⟩
variable {cf:α→α→Int}
theorem SortR.keep {a b:Nat}{l l':List α}(h:SortR cf a b l)(e:∀k,a≤k∧k<b→l'.getD k default=l.getD k default):SortR cf a b l':=fun p q h1 h2 h3=>by
  rw [e p (by omega),e q (by omega)];exact h p q h1 h2 h3
structure SymS (cf:α→α→Int)(l:List α)(n lo hi s:Nat):Prop where
  rng:lo≤s∧s≤hi
  yes:lo<s→leC cf (l.getD (s-1) default) (l.getD (n-s) default)
  no:s<hi→cf (l.getD (n-1-s) default) (l.getD s default)<0
theorem SymS.box {a m b s:Nat}{l:List α}(hab:a<m∧m<b)(h:SymS cf l ((a+b) / 2+m) (if (a+b) / 2<m then (a+b) / 2+m-b else a) (if (a+b) / 2<m then (a+b) / 2 else m) s) :
    a≤s∧s≤m∧s≤(a+b) / 2∧m≤(a+b) / 2+m-s∧(a+b) / 2≤(a+b) / 2+m-s∧(a+b) / 2+m-s≤b:=by
  obtain ⟨rng,_,_⟩:=h
  have hd:2*((a+b) / 2)≤a+b∧a+b≤2*((a+b) / 2)+1:=by omega
  generalize (a+b) / 2=mid at *
  by_cases h:mid<m
  · rw [if_pos h,if_pos h] at rng;omega
  · rw [if_neg h,if_neg h] at rng;omega
def shU (l:List α)(a:Nat):Nat→List α
  | 0=>l
  | n+1=>swp (shU l a n) (a+n) (a+n+1)
def shD (l:List α)(m:Nat):Nat→List α
  | 0=>l
  | n+1=>swp (shD l m n) (m-n) (m-n-1)
inductive Pr (cf:α→α→Int)(l:List α)(w:Nat):Nat→Nat→Prop
  | nil {a:Nat}:Pr cf l w a a
  | snoc {a b:Nat}:Pr cf l w a b→SortR cf b (b+w) l→Pr cf l w a (b+w)
inductive Rn (cf:α→α→Int)(l:List α)(w n:Nat):Nat→Prop
  | last {a:Nat}:n≤a+w→SortR cf a n l→Rn cf l w n a
  | more {a:Nat}:a+w≤n→SortR cf a (a+w) l→Rn cf l w n (a+w)→Rn cf l w n a
theorem Pr.le {l:List α}{w a b:Nat}(h:Pr cf l w a b):a≤b:=by
  induction h with
  | nil=>exact Nat.le_refl _
  | snoc _ _ ih=>omega
theorem Pr.keep {l l':List α}{w a b:Nat}(h:Pr cf l w a b)(e:∀k,k<b→l'.getD k default=l.getD k default):Pr cf l' w a b:=by
  induction h with
  | nil=>exact .nil
  | snoc h1 h2 ih=>exact .snoc (ih fun k hk=>e k (by omega)) (h2.keep fun k hk=>e k (by omega))
theorem Rn.keep {l l':List α}{w n a:Nat}(h:Rn cf l w n a)(e:∀k,a≤k→l'.getD k default=l.getD k default):Rn cf l' w n a:=by
  induction h with
  | last h1 h2=>exact .last h1 (h2.keep fun k hk=>e k hk.1)
  | more h1 h2 h3 ih=>exact .more h1 (h2.keep fun k hk=>e k hk.1) (ih fun k hk=>e k (by omega))
theorem sort_one {l:List α}{n a:Nat}(h:n≤a+1):SortR cf a n l:=fun p q h1 h2 h3=>by omega
theorem Rn.two {l:List α}{w n a:Nat}(h:Rn cf l w n a)(hw:0<w)(hn:a+2*w≤n):SortR cf a (a+w) l∧SortR cf (a+w) (a+2*w) l∧Rn cf l w n (a+2*w):=by
  have e:a+w+w=a+2*w:=by omega
  cases h with
  | last h1 h2=>omega
  | more h1 h2 h3 =>
    cases h3 with
    | last k1 k2 =>
      have:n=a+2*w:=by omega
      subst this
      exact ⟨h2,k2,.last (by omega) (sort_one (by omega))⟩
    | more k1 k2 k3=>rw [e] at k2 k3;exact ⟨h2,k2,k3⟩
end
end Go.Proofs.Ytclghkegfpcdpaa.Vm
namespace Go.Proofs.Ytclghkegfpcdpaa.Vm
open Go
set_option maxRecDepth 100000
set_option linter.unusedSimpArgs false
set_option linter.unusedVariables false
attribute [-simp] List.getD_eq_getElem?_getD
section
variable {α:Type}[Inhabited α]{cf:α→α→Int}
omit [Inhabited α] in
theorem Ordr.lt (ho:Ordr cf){x y:α}(h:cf x y<0):leC cf x y:=by
  rcases ho.tot x y with h1 | h1
  · exact h1
  · exact absurd h h1
structure OutR (cf:α→α→Int)(a0 b0 a b:Nat)(l:List α):Prop where
  rng:a0≤a∧a≤b∧b≤b0
  le:∀p q,a0≤p→p<q→q<b0→(p<a∨b≤q)→leC cf (l.getD p default) (l.getD q default)
theorem OutR.start {a b:Nat}{l:List α}(h:a≤b):OutR cf a b a b l:=⟨by omega,fun p q h1 h2 h3 h4=>by omega⟩
theorem OutR.perm {a0 b0 a b:Nat}{l l':List α}(h:OutR cf a0 b0 a b l)(hp:PermR a b l l')(hb:b0≤l.length):OutR cf a0 b0 a b l':=by
  have hr:=h.rng
  refine ⟨hr,fun p q h1 h2 h3 h4 => ?_⟩
  by_cases e1:a≤p∧p<b
  · obtain ⟨p',hp',ep⟩:=hp.mem (by omega) e1
    rw [ep,hp.out q (by omega)]
    exact h.le p' q (by omega) (by omega) h3 (by omega)
  · rw [hp.out p (by omega)]
    by_cases e2:a≤q∧q<b
    · obtain ⟨q',hq',eq⟩:=hp.mem (by omega) e2
      rw [eq]
      exact h.le p q' h1 (by omega) (by omega) (by omega)
    · rw [hp.out q (by omega)]
      exact h.le p q h1 h2 h3 h4
def GdR (cf:α→α→Int)(a b:Nat)(l:List α):Prop:=0<a→∀k,a≤k→k<b→leC cf (l.getD (a-1) default) (l.getD k default)
theorem GdR.perm {a b x y:Nat}{l l':List α}(h:GdR cf a b l)(hp:PermR x y l l')(hx:a≤x)(hy:y≤b)(hb:b≤l.length):GdR cf a b l':=fun h0 k h1 h2=>by
  rw [hp.out (a-1) (by omega)]
  by_cases e:x≤k∧k<y
  · obtain ⟨k',hk',ek⟩:=hp.mem (by omega) e
    rw [ek];exact h h0 k' (by omega) (by omega)
  · rw [hp.out k (by omega)];exact h h0 k h1 h2
theorem OutR.guard {a0 b0 a b:Nat}{l:List α}(h:OutR cf a0 b0 a b l)(ha:a0<a):GdR cf a b l:=fun h0 k h1 h2=>h.le (a-1) k (by omega) (by omega) (by have:=h.rng;omega) (by omega)
structure PartR (cf:α→α→Int)(a b m:Nat)(l:List α):Prop where
  rng:a≤m∧m<b
  lo:∀k,a≤k→k<m→leC cf (l.getD k default) (l.getD m default)
  hi:∀k,m<k→k<b→leC cf (l.getD m default) (l.getD k default)
theorem PartR.permL {a b m:Nat}{l l':List α}(h:PartR cf a b m l)(hp:PermR a m l l')(hb:b≤l.length):PartR cf a b m l':=by
  have hr:=h.rng
  refine ⟨hr,fun k h1 h2 => ?_,fun k h1 h2 => ?_⟩
  · obtain ⟨k',hk',ek⟩:=hp.mem (by omega) ⟨h1,h2⟩
    rw [ek,hp.out m (by omega)];exact h.lo k' (by omega) (by omega)
  · rw [hp.out m (by omega),hp.out k (by omega)];exact h.hi k h1 h2
theorem PartR.permH {a b m:Nat}{l l':List α}(h:PartR cf a b m l)(hp:PermR (m+1) b l l')(hb:b≤l.length):PartR cf a b m l':=by
  have hr:=h.rng
  refine ⟨hr,fun k h1 h2 => ?_,fun k h1 h2 => ?_⟩
  · rw [hp.out m (by omega),hp.out k (by omega)];exact h.lo k h1 h2
  · obtain ⟨k',hk',ek⟩:=hp.mem (by omega) ⟨h1,h2⟩
    rw [ek,hp.out m (by omega)];exact h.hi k' (by omega) (by omega)
theorem OutR.left (ho:Ordr cf) {a0 b0 a b m:Nat} {l l':List α} (h:OutR cf a0 b0 a b l) (hm:PartR cf a b m l) (hp:PermR a m l l') (hs:SortR cf a m l') (hb:b0≤l.length):OutR cf a0 b0 (m+1) b l':=by
  have hr:=h.rng
  have hr2:=hm.rng
  have h':=h.perm (hp.wide (Nat.le_refl _) (by omega)) hb
  have hm':=hm.permL hp (by omega)
  refine ⟨by omega,fun p q h1 h2 h3 h4 => ?_⟩
  by_cases e:p<a∨b≤q
  · exact h'.le p q h1 h2 h3 e
  · by_cases e1:q<m
    · exact hs p q (by omega) h2 e1
    · by_cases e2:q=m
      · subst e2;exact hm'.lo p (by omega) h2
      · by_cases e3:p=m
        · subst e3;exact hm'.hi q h2 (by omega)
        · exact ho.tr _ _ _ (hm'.lo p (by omega) (by omega)) (hm'.hi q (by omega) (by omega))
theorem OutR.right (ho:Ordr cf) {a0 b0 a b m:Nat} {l l':List α} (h:OutR cf a0 b0 a b l) (hm:PartR cf a b m l) (hp:PermR (m+1) b l l') (hs:SortR cf (m+1) b l') (hb:b0≤l.length):OutR cf a0 b0 a m l':=by
  have hr:=h.rng
  have hr2:=hm.rng
  have h':=h.perm (hp.wide (by omega) (Nat.le_refl _)) hb
  have hm':=hm.permH hp (by omega)
  refine ⟨by omega,fun p q h1 h2 h3 h4 => ?_⟩
  by_cases e:p<a∨b≤q
  · exact h'.le p q h1 h2 h3 e
  · by_cases e1:m<p
    · exact hs p q (by omega) h2 (by omega)
    · by_cases e2:q=m
      · subst e2;exact hm'.lo p (by omega) h2
      · by_cases e3:p=m
        · subst e3;exact hm'.hi q h2 (by omega)
        · exact ho.tr _ _ _ (hm'.lo p (by omega) (by omega)) (hm'.hi q (by omega) (by omega))
theorem OutR.equal {a0 b0 a b m:Nat}{l:List α}(h:OutR cf a0 b0 a b l)(hm:a≤m∧m≤b)(he:∀p q,a≤p→p<m→p<q→q<b→leC cf (l.getD p default) (l.getD q default)):OutR cf a0 b0 m b l:=by
  have hr:=h.rng
  refine ⟨by omega,fun p q h1 h2 h3 h4 => ?_⟩
  by_cases e:p<a∨b≤q
  · exact h.le p q h1 h2 h3 e
  · exact he p q (by omega) (by omega) h2 (by omega)
structure PtI (cf:α→α→Int)(a b i j:Nat)(l:List α):Prop where
  rng:a+1≤i∧i≤j+1∧j<b
  lo:∀k,a+1≤k→k<i→cf (l.getD k default) (l.getD a default)<0
  hi:∀k,j<k→k<b→leC cf (l.getD a default) (l.getD k default)
theorem PtI.start {a b:Nat}{l:List α}(h:a+1≤b):PtI cf a b (a+1) (b-1) l:=⟨by omega,fun k h1 h2=>by omega,fun k h1 h2=>by omega⟩
theorem PtI.up {a b i j:Nat}{l:List α}(h:PtI cf a b i j l)(hi:i≤j)(hc:cf (l.getD i default) (l.getD a default)<0):PtI cf a b (i+1) j l:=by
  have hr:=h.rng
  refine ⟨by omega,fun k h1 h2 => ?_,h.hi⟩
  by_cases e:k=i
  · subst e;exact hc
  · exact h.lo k h1 (by omega)
theorem PtI.down {a b i j:Nat}{l:List α}(h:PtI cf a b i j l)(hi:i≤j)(hc:¬cf (l.getD j default) (l.getD a default)<0):PtI cf a b i (j-1) l:=by
  have hr:=h.rng
  refine ⟨by omega,h.lo,fun k h1 h2 => ?_⟩
  by_cases e:k=j
  · subst e;exact hc
  · exact h.hi k (by omega) h2
theorem PtI.done (ho:Ordr cf){a b i j:Nat}{l:List α}(h:PtI cf a b i j l)(hi:¬i≤j)(hl:b≤l.length):PartR cf a b j (swp l j a):=by
  have hr:=h.rng
  have g:∀k,(swp l j a).getD k default=if k=a then l.getD j default else if k=j then l.getD a default else l.getD k default:=fun k=>swp_get (by omega) (by omega)
  have gj:(swp l j a).getD j default=l.getD a default:=by
    rw [g]
    by_cases e:j=a
    · rw [if_pos e,e]
    · rw [if_neg e,if_pos rfl]
  refine ⟨by omega,fun k k1 k2 => ?_,fun k k1 k2 => ?_⟩
  · rw [gj,g]
    by_cases e:k=a
    · rw [if_pos e];exact ho.lt (h.lo j (by omega) (by omega))
    · rw [if_neg e,if_neg (by omega)];exact ho.lt (h.lo k (by omega) (by omega))
  · rw [gj,g,if_neg (by omega),if_neg (by omega)];exact h.hi k (by omega) k2
structure PeI (cf:α→α→Int)(a b i j:Nat)(l:List α):Prop where
  rng:a+1≤i∧i≤j+1∧j<b
  lo:∀k,a+1≤k→k<i→leC cf (l.getD k default) (l.getD a default)
  mn:∀k,a≤k→k<b→leC cf (l.getD a default) (l.getD k default)
theorem PeI.start {a b:Nat}{l:List α}(h:a+1≤b)(mn:∀k,a≤k→k<b→leC cf (l.getD a default) (l.getD k default)):PeI cf a b (a+1) (b-1) l:=⟨by omega,fun k h1 h2=>by omega,mn⟩
theorem PeI.up {a b i j:Nat}{l:List α}(h:PeI cf a b i j l)(hi:i≤j)(hc:¬cf (l.getD a default) (l.getD i default)<0):PeI cf a b (i+1) j l:=by
  have hr:=h.rng
  refine ⟨by omega,fun k h1 h2 => ?_,h.mn⟩
  by_cases e:k=i
  · subst e;exact hc
  · exact h.lo k h1 (by omega)
theorem PeI.down {a b i j:Nat}{l:List α}(h:PeI cf a b i j l)(hi:i≤j):PeI cf a b i (j-1) l:=by
  have hr:=h.rng
  exact ⟨by omega,h.lo,h.mn⟩
theorem PeI.done (ho:Ordr cf){a b i j:Nat}{l:List α}(h:PeI cf a b i j l):∀p q,a≤p→p<i→p<q→q<b→leC cf (l.getD p default) (l.getD q default):=fun p q h1 h2 h3 h4=>by
  by_cases e:p=a
  · subst e;exact h.mn q (by omega) h4
  · exact ho.tr _ _ _ (h.lo p (by omega) h2) (h.mn q (by omega) h4)
def HpR (cf:α→α→Int)(f lo hi:Nat)(l:List α):Prop:=∀c,0<c→c<hi→lo≤(c-1) / 2→leC cf (l.getD (f+c) default) (l.getD (f+(c-1) / 2) default)
structure SfI (cf:α→α→Int)(f lo hi r:Nat)(l:List α):Prop where
  rng:lo≤r
  up:∀c,0<c→c<hi→lo≤(c-1) / 2→(c-1) / 2≠r→leC cf (l.getD (f+c) default) (l.getD (f+(c-1) / 2) default)
  thru:∀c,0<c→c<hi→(c-1) / 2=r→0<r→lo≤(r-1) / 2→leC cf (l.getD (f+c) default) (l.getD (f+(r-1) / 2) default)
theorem SfI.start {f lo hi:Nat}{l:List α}(h:HpR cf f (lo+1) hi l):SfI cf f lo hi lo l :=
  ⟨Nat.le_refl _,fun c h1 h2 h3 h4=>h c h1 h2 (by omega),fun c h1 h2 h3 h4 h5=>by omega⟩
structure ChR (cf:α→α→Int)(f hi r c:Nat)(l:List α):Prop where
  rng:c<hi∧0<c∧(c-1) / 2=r
  mx:∀d,0<d→d<hi→(d-1) / 2=r→leC cf (l.getD (f+d) default) (l.getD (f+c) default)
theorem ChR.one (ho:Ordr cf){f hi r:Nat}{l:List α}(h:2*r+1<hi)(hc:¬(2*r+1+1<hi∧cf (l.getD (f+(2*r+1)) default) (l.getD (f+(2*r+1+1)) default)<0)):ChR cf f hi r (2*r+1) l:=by
  refine ⟨by omega,fun d h1 h2 h3 => ?_⟩
  have:d=2*r+1∨d=2*r+2:=by omega
  rcases this with e | e
  · rw [e];exact ho.rf _
  · subst e
    intro hx
    exact hc ⟨h2,hx⟩
theorem ChR.two (ho:Ordr cf){f hi r:Nat}{l:List α}(h:2*r+1+1<hi)(hc:cf (l.getD (f+(2*r+1)) default) (l.getD (f+(2*r+1+1)) default)<0):ChR cf f hi r (2*r+1+1) l:=by
  refine ⟨by omega,fun d h1 h2 h3 => ?_⟩
  have:d=2*r+1∨d=2*r+1+1:=by omega
  rcases this with e | e
  · rw [e];exact ho.lt hc
  · rw [e];exact ho.rf _
theorem SfI.step (ho:Ordr cf) {f lo hi r c:Nat} {l:List α} (h:SfI cf f lo hi r l) (hc:ChR cf f hi r c l) (hl:f+hi≤l.length) (hn:cf (l.getD (f+r) default) (l.getD (f+c) default)<0):SfI cf f lo hi c (swp l (f+r) (f+c)):=by
  have hr:=h.rng
  have hcr:=hc.rng
  have hrc:r<c:=by omega
  have g:∀k,(swp l (f+r) (f+c)).getD (f+k) default=if k=c then l.getD (f+r) default else if k=r then l.getD (f+c) default else l.getD (f+k) default:=fun k=>by
    rw [swp_get (by omega) (by omega)]
    by_cases e1:k=c
    · rw [if_pos (by omega),if_pos e1]
    · rw [if_neg (by omega),if_neg e1]
      by_cases e2:k=r
      · rw [if_pos (by omega),if_pos e2]
      · rw [if_neg (by omega),if_neg e2]
  refine ⟨by omega,fun d h1 h2 h3 h4 => ?_,fun d h1 h2 h3 h4 h5 => ?_⟩
  · rw [g,g ((d-1) / 2),if_neg h4]
    by_cases e:(d-1) / 2=r
    · rw [if_pos e]
      by_cases e1:d=c
      · rw [if_pos e1];exact ho.lt hn
      · rw [if_neg e1,if_neg (by omega)];exact hc.mx d h1 h2 e
    · rw [if_neg e,if_neg (show ¬d=c from fun e'=>e (by rw [e'];exact hcr.2.2))]
      by_cases e1:d=r
      · rw [if_pos e1]
        have:=h.thru c hcr.2.1 hcr.1 hcr.2.2 (by omega) (by rw [←e1];exact h3)
        rw [e1];exact this
      · rw [if_neg e1];exact h.up d h1 h2 h3 e
  · rw [g,g ((c-1) / 2),if_neg (by omega),if_neg (by omega),if_neg (by omega),if_pos hcr.2.2]
    have:=h.up d h1 h2 (by omega) (by omega)
    rw [h3] at this;exact this
theorem HpR.none {f n:Nat}{l:List α}:HpR cf f ((n-1) / 2+1) n l:=fun c h1 h2 h3=>by omega
theorem GdR.least (ho:Ordr cf){a b v:Nat}{l:List α}(h:GdR cf a b l)(ha:0<a)(hv:¬cf (l.getD (a-1) default) (l.getD v default)<0):∀k,a≤k→k<b→leC cf (l.getD v default) (l.getD k default):=fun k h1 h2=>ho.tr _ _ _ hv (h ha k h1 h2)
theorem SortR.one {a i:Nat}{l:List α}(h:i≤a+1):SortR cf a i l:=fun p q h1 h2 h3=>by omega
theorem SortR.next (ho:Ordr cf){a i:Nat}{l:List α}(h:SortR cf a i l)(hi:a<i)(hc:¬cf (l.getD i default) (l.getD (i-1) default)<0):SortR cf a (i+1) l:=fun p q h1 h2 h3=>by
  by_cases e:q=i
  · subst e
    by_cases e2:p=q-1
    · subst e2;exact hc
    · exact ho.tr _ _ _ (h p (q-1) h1 (by omega) (by omega)) hc
  · exact h p q h1 h2 (by omega)
theorem InsR.last {a i:Nat}{l l':List α}(h:SortR cf a (i-1) l'):InsR cf a (i-1) (i-1) l':=InsR.start h
end
end Go.Proofs.Ytclghkegfpcdpaa.Vm
namespace Go.Proofs.Ytclghkegfpcdpaa.Vm
open Go
set_option maxRecDepth 100000
set_option linter.unusedSimpArgs false
set_option linter.unusedVariables false
attribute [-simp] List.getD_eq_getElem?_getD
abbrev EO:=Int
def cfI (x y:Int):Int:=x-y
def gO (l:List EO)(i:Nat):EO:=l.getD i default
def eO (x:EO):V:=.int .i64 x
def rowO (l:List EO):Blk:=.row (ints l) true
theorem stor_eO {x:EO}:stor (eO x)=true:=Eq.trans rfl rfl
attribute [simp] stor_eO
structure SoS (b:Nat)(H0:Hp)(l0 l:List EO)(H:Hp):Prop where
  row:H[b]? = some (rowO l)
  len:H0.length≤H.length
  oth:∀b',b'<H0.length→b'≠b→H[b']? = H0[b']?
  perm:l.Perm l0
  blt:b<H0.length
section
variable {lim:Nat}{H H0:Hp}{K:V→Hp→Prop}{b:Nat}{l l0:List EO}
theorem SoS.n (h:SoS b H0 l0 l H):l.length=l0.length:=h.perm.length_eq
theorem SoS.start (hb:H[b]? = some (rowO l)):SoS b H l l H:=⟨hb,Nat.le_refl _,fun _ _ _=>rfl,.refl _,(List.getElem?_eq_some_iff.1 hb).1⟩
theorem SoS.lt (h:SoS b H0 l0 l H):b<H.length:=(List.getElem?_eq_some_iff.1 h.row).1
theorem SoS.grow {H':Hp}(h:SoS b H0 l0 l H)(x:HX H H'):SoS b H0 l0 l H' :=
  ⟨x.get h.row,Nat.le_trans h.len x.len,fun b' h1 h2=>(x.same (Nat.lt_of_lt_of_le h1 h.len)).trans (h.oth b' h1 h2),h.perm,h.blt⟩
theorem SoS.set {l':List EO}(h:SoS b H0 l0 l H)(hp:l'.Perm l0):SoS b H0 l0 l' (H.set b (rowO l')) :=
  ⟨by simp [h.lt],by simpa using h.len,fun b' h1 h2=>by rw [List.getElem?_set_ne (fun e=>h2 e.symm)];exact h.oth b' h1 h2,hp,h.blt⟩
theorem SoS.mem (h:SoS b H0 l0 l H){i:Nat}(hi:i<l.length):gO l i∈l0:=by
  rw [gO,←h.perm.mem_iff,getD_of hi];exact List.getElem_mem hi
end
end Go.Proofs.Ytclghkegfpcdpaa.Vm
namespace Go.Proofs.Ytclghkegfpcdpaa.Vm
open Go
set_option maxRecDepth 100000
set_option maxHeartbeats 1000000
set_option linter.unusedSimpArgs false
set_option linter.unusedVariables false
attribute [-simp] List.getD_eq_getElem?_getD
section
variable {lim:Nat}{H H0:Hp}{K:V→Hp→Prop}{b:Nat}{l l0:List EO}
end
end Go.Proofs.Ytclghkegfpcdpaa.Vm
namespace Go.Proofs.Ytclghkegfpcdpaa.Vm
open Go
set_option maxRecDepth 100000
set_option maxHeartbeats 1000000
set_option linter.unusedSimpArgs false
set_option linter.unusedVariables false
attribute [-simp] List.getD_eq_getElem?_getD
section
variable {T:Tbl}{lim:Nat}
end
section
variable {lim:Nat}{H H0:Hp}{K:V→Hp→Prop}{b:Nat}{l l0:List EO}
end
end Go.Proofs.Ytclghkegfpcdpaa.Vm
namespace Go.Proofs.Ytclghkegfpcdpaa.Vm
open Go
set_option maxRecDepth 100000
set_option maxHeartbeats 1000000
set_option linter.unusedSimpArgs false
set_option linter.unusedVariables false
attribute [-simp] List.getD_eq_getElem?_getD
section
variable {lim:Nat}{H H0:Hp}{K:V→Hp→Prop}{b:Nat}{l l0:List EO}
def powChk (r:Option (V×Hp))(x:Nat):Bool:=match r with
  | some (.int .u64 m,[])=>decide (0≤m∧(x:Int)<m∧m≤2*(x:Int))||decide (x=0)
  | _=>false
def lenChk (r:Option (V×Hp)):Bool:=match r with
  | some (.int .i64 m,[])=>decide (0≤m∧m≤100)
  | _=>false
end
end Go.Proofs.Ytclghkegfpcdpaa.Vm
namespace Go.Proofs.Ytclghkegfpcdpaa.Vm
open Go
set_option maxRecDepth 100000
set_option maxHeartbeats 1000000
set_option linter.unusedSimpArgs false
set_option linter.unusedVariables false
attribute [-simp] List.getD_eq_getElem?_getD
section
variable {lim:Nat}{H H0:Hp}{K:V→Hp→Prop}{b:Nat}{l l0:List EO}
end
end Go.Proofs.Ytclghkegfpcdpaa.Vm
namespace Go.Proofs.Ytclghkegfpcdpaa.Vm
open Go
set_option maxRecDepth 100000
set_option linter.unusedSimpArgs false
set_option linter.unusedVariables false
attribute [-simp] List.getD_eq_getElem?_getD
structure Pnt where
  v:V
  i:Bool
  a:Int
  d:Int
  k:Int
  deriving Inhabited
def Pnt.cells (e:Pnt):List V:=[e.v,.bool e.i,.int .i64 e.a,.int .i64 e.d]
def pntC:Cod Pnt 4:=⟨Pnt.cells,fun _=>rfl⟩
abbrev EQ:=Pnt
def gE (l:List EQ)(i:Nat):EQ:=l.getD i default
def eV (x:EQ):V:=.agg x.cells
def rowB (l:List EQ):Blk:=.row (pntC.all l) true
theorem stor_eV {x:EQ}:stor (eV x)=true:=Eq.trans rfl rfl
attribute [simp] stor_eV
structure SqS (b:Nat)(H0:Hp)(l0 l:List EQ)(H:Hp):Prop where
  row:H[b]? = some (rowB l)
  len:H0.length≤H.length
  oth:∀b',b'<H0.length→b'≠b→H[b']? = H0[b']?
  perm:l.Perm l0
  blt:b<H0.length
def CmpQ (b g:Nat)(fs cs:List V)(H0:Hp)(l0:List EQ)(cf:EQ→EQ→Int):Prop :=
  ∀(H:Hp) (lim:Nat) (x y:EQ) (K:V→Hp→Prop),x∈l0→y∈l0→H0.length≤H.length→(∀b',b'<H0.length→b'≠b→H[b']? = H0[b']?)→(∀H',HX H H'→K (.int .i64 (cf x y)) H')→VCall tbl lim g (fs++eV x :: eV y :: cs) H K
section
variable {lim:Nat}{H H0:Hp}{K:V→Hp→Prop}{b g:Nat}{l l0:List EQ}{cf:EQ→EQ→Int}{fs cs:List V}
theorem SqS.n (h:SqS b H0 l0 l H):l.length=l0.length:=h.perm.length_eq
theorem SqS.start (hb:H[b]? = some (rowB l)):SqS b H l l H:=⟨hb,Nat.le_refl _,fun _ _ _=>rfl,.refl _,(List.getElem?_eq_some_iff.1 hb).1⟩
theorem SqS.lt (h:SqS b H0 l0 l H):b<H.length:=(List.getElem?_eq_some_iff.1 h.row).1
theorem SqS.grow {H':Hp}(h:SqS b H0 l0 l H)(x:HX H H'):SqS b H0 l0 l H' :=
  ⟨x.get h.row,Nat.le_trans h.len x.len,fun b' h1 h2=>(x.same (Nat.lt_of_lt_of_le h1 h.len)).trans (h.oth b' h1 h2),h.perm,h.blt⟩
theorem SqS.set {l':List EQ}(h:SqS b H0 l0 l H)(hp:l'.Perm l0):SqS b H0 l0 l' (H.set b (rowB l')) :=
  ⟨by simp [h.lt],by simpa using h.len,fun b' h1 h2=>by rw [List.getElem?_set_ne (fun e=>h2 e.symm)];exact h.oth b' h1 h2,hp,h.blt⟩
theorem SqS.mem (h:SqS b H0 l0 l H){i:Nat}(hi:i<l.length):gE l i∈l0:=by
  rw [gE,←h.perm.mem_iff,getD_of hi];exact List.getElem_mem hi
theorem CmpQ.at (hc:CmpQ b g fs cs H0 l0 cf)(hs:SqS b H0 l0 l H){i j:Nat}(hi:i<l.length)(hj:j<l.length){lim:Nat}{K:V→Hp→Prop}(hK:∀H',HX H H'→SqS b H0 l0 l H'→K (.int .i64 (cf (gE l i) (gE l j))) H') :
    VCall tbl lim g (fs++eV (gE l i) :: eV (gE l j) :: cs) H K :=
  hc H lim _ _ K (hs.mem hi) (hs.mem hj) hs.len hs.oth fun H' x=>hK H' x (hs.grow x)
end
end Go.Proofs.Ytclghkegfpcdpaa.Vm
namespace Go.Proofs.Ytclghkegfpcdpaa.Vm
open Go
set_option maxRecDepth 100000
set_option maxHeartbeats 1000000
set_option linter.unusedSimpArgs false
set_option linter.unusedVariables false
attribute [-simp] List.getD_eq_getElem?_getD
section
variable {lim:Nat}{H H0:Hp}{K:V→Hp→Prop}{b g:Nat}{l l0:List EQ}{cf:EQ→EQ→Int}{fs cs:List V}
end
end Go.Proofs.Ytclghkegfpcdpaa.Vm
namespace Go.Proofs.Ytclghkegfpcdpaa.Vm
open Go
set_option maxRecDepth 100000
set_option maxHeartbeats 1000000
set_option linter.unusedSimpArgs false
set_option linter.unusedVariables false
attribute [-simp] List.getD_eq_getElem?_getD
section
variable {T:Tbl}{lim:Nat}
end
section
variable {lim:Nat}{H H0:Hp}{K:V→Hp→Prop}{b g:Nat}{l l0:List EQ}{cf:EQ→EQ→Int}{fs cs:List V}
end
end Go.Proofs.Ytclghkegfpcdpaa.Vm
namespace Go.Proofs.Ytclghkegfpcdpaa.Vm
open Go
set_option maxRecDepth 100000
set_option maxHeartbeats 1000000
set_option linter.unusedSimpArgs false
set_option linter.unusedVariables false
attribute [-simp] List.getD_eq_getElem?_getD
section
variable {lim:Nat}{H H0:Hp}{K:V→Hp→Prop}{b g:Nat}{l l0:List EQ}{cf:EQ→EQ→Int}{fs cs:List V}
end
end Go.Proofs.Ytclghkegfpcdpaa.Vm
namespace Go.Proofs.Ytclghkegfpcdpaa.Vm
open Go
set_option maxRecDepth 100000
set_option maxHeartbeats 1000000
set_option linter.unusedSimpArgs false
set_option linter.unusedVariables false
attribute [-simp] List.getD_eq_getElem?_getD
section
variable {lim:Nat}{H H0:Hp}{K:V→Hp→Prop}{b g:Nat}{l l0:List EQ}{cf:EQ→EQ→Int}{fs cs:List V}
end
end Go.Proofs.Ytclghkegfpcdpaa.Vm
namespace Go.Proofs.Ytclghkegfpcdpaa.Vm
open Go
set_option maxRecDepth 100000
set_option maxHeartbeats 1000000
set_option linter.unusedSimpArgs false
set_option linter.unusedVariables false
attribute [-simp] List.getD_eq_getElem?_getD
section
variable {c:Cp}{s:Nat}
def wkL (c:Cp)(s i:Nat):List Int:=(List.range i).map fun j=>((itN (nuP c) j s:Nat):Int)
def wkS (c:Cp)(s i:Nat):Int:=((List.range i).map fun j=>anN c.P (itN (nuP c) j s)).sum
def natL (l:List Nat):List Int:=l.map fun k:Nat=>(k:Int)
end
def OthM (m:Nat)(H H':Hp):Prop:=H.length≤H'.length∧∀b,b<H.length→b≠m→H'[b]? = H[b]?
structure PtsS (n0:Nat)(H0:Hp)(lv:V)(M:List (Int×Bool))(u:V)(pts:List Pnt)(cl:List (List Int))(H:Hp):Prop where
  hx:HX H0 H
  hn:H0.length=n0
  b0:H[n0]? = some (.row [lv] true)
  b1:H[n0+1]? = some (.map (mE kI .bool M))
  b2:H[n0+2]? = some (.row [.mp (n0+1)] true)
  b3:H[n0+3]? = some (.row [u] true)
  ou:OwnT (n0+4) pntC H u pts
  len:cl.length=pts.length
  oc:∀i,i<pts.length→OwnV (n0+4) H (pts.getD i default).v (cl.getD i [])
  ap:∀i,i<pts.length→∀b o z y o' z' y',u=.sl b o z y→(pts.getD i default).v=.sl b o' z' y'→False
section
variable {n0 lim:Nat}{H H0 Hc H':Hp}{K:V→Hp→Prop}{lv u v:V}{M:List (Int×Bool)}{pts:List Pnt}{cl:List (List Int)}{c:Cp}{s:Nat}
theorem PtsS.big (h:PtsS n0 H0 lv M u pts cl Hc):n0+4≤Hc.length:=(List.getElem?_eq_some_iff.1 h.b3).1
theorem PtsS.move {M':List (Int×Bool)}(h:PtsS n0 H0 lv M u pts cl Hc)(ho:OthM (n0+1) Hc H')(hm:H'[n0+1]? = some (.map (mE kI .bool M'))):PtsS n0 H0 lv M' u pts cl H' where
  hx:=HX.of (by have:=h.hx.len;have:=ho.1;omega) fun b hb=>by
    have:=h.hx.len
    have:=h.hn
    rw [ho.2 b (by omega) (by omega),h.hx.same hb]
  hn:=h.hn
  b0:=by have:=h.big;rw [ho.2 _ (by omega) (by omega)];exact h.b0
  b1:=hm
  b2:=by have:=h.big;rw [ho.2 _ (by omega) (by omega)];exact h.b2
  b3:=by have:=h.big;rw [ho.2 _ (by omega) (by omega)];exact h.b3
  ou:=h.ou.keepB fun b o m z e=>by have:=h.ou.belowB _ _ _ _ e;exact ho.2 b (by omega) (by omega)
  len:=h.len
  oc:=fun i hi=>(h.oc i hi).keepB fun b o m z e=>by have:=(h.oc i hi).belowB _ _ _ _ e;exact ho.2 b (by omega) (by omega)
  ap:=h.ap
structure RndI (Hc:Hp)(n0 bp:Nat)(lv:V)(M:List (Int×Bool))(inner:Bool)(frv:List V)(c:Cp)(s i:Nat)(H':Hp):Prop where
  oth:OthM (n0+1) Hc H'
  ex:∃cv M',H'[n0+1]? = some (.map (mE kI .bool M'))∧H'[bp]? = some (.row [cv,.bool inner,.int .i64 (wkS c s i),.int .i64 0] true)∧OwnV (bp+4) H' cv (wkL c s i)∧∀k,(look k M').getD false=true↔(look k M).getD false=true∨k∈wkL c s i
  r1:H'[bp+1]? = some (.row [lv] true)
  r2:H'[bp+2]? = some (.row [.int .i64 (s:Int)] true)
  r3:H'[bp+3]? = some (.loop 4000085 [14] frv)
theorem OthM.trans {m:Nat}{A B C:Hp}(h:OthM m A B)(g:OthM m B C):OthM m A C:=⟨Nat.le_trans h.1 g.1,fun b hb hne=>by rw [g.2 b (by have:=h.1;omega) hne,h.2 b hb hne]⟩
end
end Go.Proofs.Ytclghkegfpcdpaa.Vm
namespace Go.Proofs.Ytclghkegfpcdpaa.Vm
open Go
set_option maxRecDepth 100000
set_option maxHeartbeats 1000000
set_option linter.unusedSimpArgs false
set_option linter.unusedVariables false
attribute [-simp] List.getD_eq_getElem?_getD
noncomputable def csP (c:Cp)(s:Nat):List Int:=natL (memE (PtR c) (nsN c.P) s)
noncomputable def sumP (c:Cp)(s:Nat):Int:=((memE (PtR c) (nsN c.P) s).map (anN c.P)).sum
noncomputable def pntP (c:Cp)(s:Nat)(inner:Bool)(v:V):Pnt:=⟨v,inner,sumP c s,(if inner then 360 else 180)-sumP c s,(csP c s).getD 0 0⟩
section
variable {n0 lim:Nat}{H H0 Hc H':Hp}{K:V→Hp→Prop}{lv u v:V}{M:List (Int×Bool)}{pts:List Pnt}{cl:List (List Int)}{c:Cp}{s:Nat}
theorem getD_last {α:Type}{l:List α}{x d:α}{i:Nat}(h:i=l.length):(l++[x]).getD i d=x:=by
  subst h;simp [List.getD_eq_getElem?_getD]
end
end Go.Proofs.Ytclghkegfpcdpaa.Vm
namespace Go.Proofs.Ytclghkegfpcdpaa.Vm
open Go
set_option maxRecDepth 100000
set_option maxHeartbeats 1000000
set_option linter.unusedSimpArgs false
set_option linter.unusedVariables false
attribute [-simp] List.getD_eq_getElem?_getD
section
variable {c:Cp}{k s:Nat}
open Classical in
noncomputable def repsA (c:Cp)(a b:Nat):List Nat:=((List.range a).filter fun k=>decide (StaN (nsN c.P) (nxN c.P) (lsN c) k))++((List.range b).filter fun k=>decide (LeE (PtR c) k∧InnN (nsN c.P) (nxN c.P) (lsN c) k))
end
structure PtsC (c:Cp)(R:List Nat)(pts:List Pnt)(cl:List (List Int)):Prop where
  len:pts.length=R.length
  lc:cl.length=R.length
  at':∀i,i<R.length→cl.getD i []=csP c (R.getD i 0)∧∃v,pts.getD i default=pntP c (R.getD i 0) (innB c (R.getD i 0)) v
theorem PtsC.snoc {c:Cp}{R:List Nat}{pts:List Pnt}{cl:List (List Int)}{r:Nat}{v:V}{b:Bool}(h:PtsC c R pts cl)(hb:b=innB c r):PtsC c (R++[r]) (pts++[pntP c r b v]) (cl++[csP c r]) where
  len:=by simp [h.len]
  lc:=by simp [h.lc]
  at' := fun i hi=>by
    rw [List.length_append,List.length_singleton] at hi
    by_cases hlt:i<R.length
    · rw [getD_lt hlt,getD_lt (l:=pts) (by rw [h.len];exact hlt),getD_lt (l:=cl) (by rw [h.lc];exact hlt)];exact h.at' i hlt
    · have:i=R.length:=by omega
      subst this
      rw [getD_last rfl,getD_last h.len.symm,getD_last h.lc.symm]
      exact ⟨rfl,v,by rw [hb]⟩
structure PtlV (n:Nat)(H:Hp)(v:V)(q:List Ptt):Prop where
  ex:∃pts,OwnT n pntC H v pts∧pts.length=q.length∧∀i,i<q.length→(pts.getD i default).i=(q.getD i default).inn∧(pts.getD i default).a=(q.getD i default).ang∧(pts.getD i default).d=(q.getD i default).df∧OwnV n H (pts.getD i default).v (natL (q.getD i default).cs)
def cfP (x y:Pnt):Int:=x.k-y.k
section
variable {n0 lim:Nat}{H H0 Hc H':Hp}{K:V→Hp→Prop}{lv u v:V}{M:List (Int×Bool)}{pts:List Pnt}{cl:List (List Int)}{c:Cp}{s:Nat}
end
end Go.Proofs.Ytclghkegfpcdpaa.Vm
namespace Go.Proofs.Ytclghkegfpcdpaa.Vm
open Go
set_option maxRecDepth 100000
set_option maxHeartbeats 1000000
set_option linter.unusedSimpArgs false
set_option linter.unusedVariables false
attribute [-simp] List.getD_eq_getElem?_getD
section
variable {c:Cp}{k s:Nat}
def sgP (c:Cp):Nat→Nat:=fun s=>s
noncomputable def sg (c:Cp)(s:Nat):Nat:=sgN (nsN c.P) (nxN c.P) (lsN c) s
def FrsP (c:Cp)(k:Nat):Prop:=LeE (Orb (nsN c.P) (sgN (nsN c.P) (nxN c.P) (lsN c))) k∧alf (lsN c) k=k
open Classical in
noncomputable def frsA (c:Cp)(b:Nat):List Nat:=(List.range b).filter fun k=>decide (FrsP c k)
noncomputable def lpP (c:Cp)(f:Nat):List Nat:=lpN (nsN c.P) (sgN (nsN c.P) (nxN c.P) (lsN c)) f
noncomputable def lpL (c:Cp)(f j:Nat):List Int:=(List.range j).map fun t=>((itN (sgN (nsN c.P) (nxN c.P) (lsN c)) t f:Nat):Int)
end
def vC:Cod V 1:=⟨fun x=>[x],fun _=>rfl⟩
structure LpsS (n0:Nat)(H0:Hp)(M:List (Int×Bool))(u:V)(us:List V)(ls:List (List Int))(cv:V)(cur:List Int)(H:Hp):Prop where
  hx:HX H0 H
  hn:H0.length=n0
  b1:H[n0]? = some (.map (mE kI .bool M))
  ou:OwnT (n0+1) vC H u us
  len:us.length=ls.length
  oc:∀i,i<us.length→OwnV (n0+1) H (us.getD i dv) (ls.getD i [])
  ow:OwnV (n0+1) H cv cur
  ap:∀i,i<us.length→∀b o z y o' z' y',u=.sl b o z y→us.getD i dv=.sl b o' z' y'→False
  aw:∀b o z y o' z' y',u=.sl b o z y→cv=.sl b o' z' y'→False
  ac:∀i,i<us.length→∀b o z y o' z' y',cv=.sl b o z y→us.getD i dv=.sl b o' z' y'→False
section
variable {n0 lim:Nat}{H H0 H':Hp}{K:V→Hp→Prop}{lv u cv v:V}{M M':List (Int×Bool)}{us:List V}{ls:List (List Int)}{cur:List Int}{c:Cp}{s:Nat}
theorem LpsS.big (h:LpsS n0 H0 M u us ls cv cur H):n0+1≤H.length:=(List.getElem?_eq_some_iff.1 h.b1).1
theorem LpsS.move (h:LpsS n0 H0 M u us ls cv cur H)(ho:OthM n0 H H')(hm:H'[n0]? = some (.map (mE kI .bool M'))):LpsS n0 H0 M' u us ls cv cur H' where
  hx:=HX.of (by have:=h.hx.len;have:=ho.1;omega) fun b hb=>by
    have:=h.hx.len
    have:=h.hn
    rw [ho.2 b (by omega) (by omega),h.hx.same hb]
  hn:=h.hn
  b1:=hm
  ou:=h.ou.keepB fun b o m z e=>by have:=h.ou.belowB _ _ _ _ e;exact ho.2 b (by omega) (by omega)
  len:=h.len
  oc:=fun i hi=>(h.oc i hi).keepB fun b o m z e=>by have:=(h.oc i hi).belowB _ _ _ _ e;exact ho.2 b (by omega) (by omega)
  ow:=h.ow.keepB fun b o m z e=>by have:=h.ow.belowB _ _ _ _ e;exact ho.2 b (by omega) (by omega)
  ap:=h.ap
  aw:=h.aw
  ac:=h.ac
theorem LpsS.grow (h:LpsS n0 H0 M u us ls cv cur H)(hx:HX H H'):LpsS n0 H0 M u us ls cv cur H':=h.move ⟨hx.len,fun b hb _=>hx.same hb⟩ (hx.get h.b1)
theorem LpsS.put (h:LpsS n0 H0 M u us ls cv cur H){k:Int}:LpsS n0 H0 (putA k true M) u us ls cv cur (H.set n0 (.map (mE kI .bool (putA k true M)))) :=
  h.move ⟨by simp,fun b hb hne=>List.getElem?_set_ne (fun e=>hne e.symm)⟩ (List.getElem?_set_self h.big)
structure LlsV (n:Nat)(H:Hp)(v:V)(q:List (List Int)):Prop where
  ex:∃us,OwnT n vC H v us∧us.length=q.length∧∀i,i<q.length→OwnV n H (us.getD i dv) (q.getD i [])
end
end Go.Proofs.Ytclghkegfpcdpaa.Vm
namespace Go.Proofs.Ytclghkegfpcdpaa.Vm
open Go
set_option maxRecDepth 100000
set_option maxHeartbeats 1000000
set_option linter.unusedSimpArgs false
set_option linter.unusedVariables false
attribute [-simp] List.getD_eq_getElem?_getD
section
variable {c:Cp}
def dfL (c:Cp)(i:Nat):Int:=0
noncomputable def msUp (c:Cp)(i:Nat):Int:=(((ptsP c).map (·.df)).take i).sum
def lnUp (c:Cp)(lo:List Nat)(j:Nat):Int:=((lo.take j).map (lnN c.P)).sum
def PrR (c:Cp)(i:Nat):Nat→Nat→Prop:=prtE (pcN c.P) (prL c.P (c.S.take i))
end
section
variable {lim:Nat}{H H':Hp}{K:V→Hp→Prop}{pv sv:V}{ps:List (V×V)}{P:List Pc}{S:List Sm}{e:Int}{ws:List V}{c:Cp}
end
end Go.Proofs.Ytclghkegfpcdpaa.Vm
namespace Go.Proofs.Ytclghkegfpcdpaa.Vm
open Go
set_option maxRecDepth 100000
set_option maxHeartbeats 1000000
set_option linter.unusedSimpArgs false
set_option linter.unusedVariables false
attribute [-simp] List.getD_eq_getElem?_getD
structure OPcsV (n:Nat)(H:Hp)(v:V)(ps:List (V×V))(pcs:List Pc):Prop where
  own:OwnT n pvC H v ps
  len:ps.length=pcs.length
  at':∀i,i<pcs.length→OwnV n H (ps.getD i default).1 (pcs.getD i default).s∧OwnV n H (ps.getD i default).2 (pcs.getD i default).a
  ap:∀i,i<pcs.length→∀b o z y o' z' y',v=.sl b o z y→((ps.getD i default).1=.sl b o' z' y'∨(ps.getD i default).2=.sl b o' z' y')→False
inductive OCapV (n:Nat)(H:Hp):List V→Cp→Prop
  | mk {pv sv:V} {ps:List (V×V)} {P:List Pc} {S:List Sm} {e:Int}:OPcsV n H pv ps P→OwnT n smC H sv S→(∀b o z y o' z' y',pv=.sl b o z y→sv=.sl b o' z' y'→False)→(∀i,i<P.length→∀b o z y o' z' y',sv=.sl b o z y→((ps.getD i default).1=.sl b o' z' y'∨(ps.getD i default).2=.sl b o' z' y')→False)→OCapV n H [pv,sv,.int .i64 e] ⟨P,S,e⟩
section
variable {n lim:Nat}{H H' H1:Hp}{K:V→Hp→Prop}{v pv sv a b:V}{ps:List (V×V)}{pcs P:List Pc}{S:List Sm}{e:Int}{ws:List V}{c d:Cp}
theorem OPcsV.pcsV (h:OPcsV n H v ps pcs):PcsV H v ps pcs:=⟨h.own.lst,h.len,fun i hi=>⟨(h.at' i hi).1.sl,(h.at' i hi).2.sl⟩⟩
theorem OCapV.cap (h:OCapV n H ws c):CapV H ws c:=by
  cases h with
  | mk h1 h2 _ _=>exact .mk h1.pcsV h2.lst
theorem OPcsV.mono (hx:HX H H')(h:OPcsV n H v ps pcs):OPcsV n H' v ps pcs:=⟨h.own.mono hx,h.len,fun i hi=>⟨(h.at' i hi).1.mono hx,(h.at' i hi).2.mono hx⟩,h.ap⟩
theorem OPcsV.le {m:Nat}(hnm:n≤m)(h:OPcsV m H v ps pcs):OPcsV n H v ps pcs:=⟨h.own.le hnm,h.len,fun i hi=>⟨(h.at' i hi).1.le hnm,(h.at' i hi).2.le hnm⟩,h.ap⟩
theorem OCapV.mono (hx:HX H H')(h:OCapV n H ws c):OCapV n H' ws c:=by
  cases h with
  | mk h1 h2 h3 h4=>exact .mk (h1.mono hx) (h2.mono hx) h3 h4
theorem OCapV.le {m:Nat}(hnm:n≤m)(h:OCapV m H ws c):OCapV n H ws c:=by
  cases h with
  | mk h1 h2 h3 h4=>exact .mk (h1.le hnm) (h2.le hnm) h3 h4
theorem OPcsV.nil:OPcsV n H .snil [] []:=⟨.nil,rfl,fun i hi=>by simp at hi,fun i hi=>by simp at hi⟩
theorem OPcsV.keepB (h:OPcsV n H v ps pcs)(h1:∀b o m z,v=.sl b o m z→H'[b]? = H[b]?)(h2:∀i,i<pcs.length→∀b o m z,((ps.getD i default).1=.sl b o m z∨(ps.getD i default).2=.sl b o m z)→H'[b]? = H[b]?):OPcsV n H' v ps pcs :=
  ⟨h.own.keepB h1,h.len,fun i hi=>⟨(h.at' i hi).1.keepB fun b o m z e=>h2 i hi b o m z (Or.inl e),(h.at' i hi).2.keepB fun b o m z e=>h2 i hi b o m z (Or.inr e)⟩,h.ap⟩
theorem OPcsV.append {p:Pc}(h:OPcsV n H v ps pcs)(hx:HX H H1)(ha:OwnV H.length H1 a p.s)(hb:OwnV H.length H1 b p.a)(hn:lim≤n∧n≤H.length)(hl:pcs.length<1000000) :
    ∃v' H2,vappend lim 2 48 (H1++[.row [a,b] true]) v (.sl H1.length 0 1 2)=some (v',H2)∧OPcsV n H2 v' (ps++[(a,b)]) (pcs++[p])∧(∀H0,HX H0 H1→H0.length≤n→HX H0 H2)∧H1.length≤H2.length∧(∀b',b'<H1.length→(∀o z y,v≠.sl b' o z y)→H2[b']? = H1[b']?)∧∀b o z y,v'=.sl b o z y→H1.length≤b:=by
  have h1:=h.mono hx
  have hlen:=hx.len
  obtain ⟨v',H2,a1,a2,a3,a4,a5,a6⟩:=h1.own.appendF2 (lim:=lim) (bytes:=48) (x:=(a,b)) (cs:=[a,b]) rfl ⟨hn.1,by omega⟩ (by omega) (by rw [h.len];exact hl)
  have old:∀b' o z y,v=.sl b' o z y→b'<H.length:=fun b' o z y e=>(h.own.belowB _ _ _ _ e).2
  refine ⟨v',H2,a1,⟨a2,by simp [h.len],fun i hi => ?_,fun i hi b' o z y o' z' y' e e' => ?_⟩,a3,a4,a5,a6⟩
  · rw [List.length_append,List.length_singleton] at hi
    by_cases hlt:i<pcs.length
    · rw [getD_lt (l:=ps) (by rw [h.len];exact hlt),getD_lt hlt]
      have:=h1.at' i hlt
      exact ⟨this.1.keepB fun b' o m z e=>a5 b' (this.1.belowB _ _ _ _ e).2 fun o' z' y' e'=>h1.ap i hlt _ _ _ _ _ _ _ e' (Or.inl e),this.2.keepB fun b' o m z e=>a5 b' (this.2.belowB _ _ _ _ e).2 fun o' z' y' e'=>h1.ap i hlt _ _ _ _ _ _ _ e' (Or.inr e)⟩
    · have:i=pcs.length:=by omega
      subst this
      rw [getD_last h.len.symm,getD_last rfl]
      exact ⟨(ha.keepB fun b' o m z e=>a5 b' (ha.belowB _ _ _ _ e).2 fun o' z' y' e'=>by have:=old _ _ _ _ e';have:=(ha.belowB _ _ _ _ e).1;omega).le (by omega),(hb.keepB fun b' o m z e=>a5 b' (hb.belowB _ _ _ _ e).2 fun o' z' y' e'=>by have:=old _ _ _ _ e';have:=(hb.belowB _ _ _ _ e).1;omega).le (by omega)⟩
  · rw [List.length_append,List.length_singleton] at hi
    have h6:=a6 _ _ _ _ e
    by_cases hlt:i<pcs.length
    · rw [getD_lt (l:=ps) (by rw [h.len];exact hlt)] at e'
      have:=h1.at' i hlt
      rcases e' with e' | e'
      · have:=(this.1.belowB _ _ _ _ e').2;omega
      · have:=(this.2.belowB _ _ _ _ e').2;omega
    · have:i=pcs.length:=by omega
      subst this
      rw [getD_last h.len.symm] at e'
      rcases e' with e' | e'
      · have:=(ha.belowB _ _ _ _ e').2;omega
      · have:=(hb.belowB _ _ _ _ e').2;omega
def longB (c:Cp):Bool:=decide (30<c.P.length∨60<c.S.length∨∃q,q<c.P.length∧(30<(c.P.getD q default).s.length∨30<(c.P.getD q default).a.length))
structure ShortC (c:Cp):Prop where
  np:c.P.length≤30
  ns:c.S.length≤60
  pc:∀q,q<c.P.length→(c.P.getD q default).s.length≤30∧(c.P.getD q default).a.length≤30
def sameB (c d:Cp):Bool:=decide (c.e=d.e∧c.P.length=d.P.length∧c.S.length=d.S.length∧(∀q,q<c.P.length→(c.P.getD q default).s=(d.P.getD q default).s∧(c.P.getD q default).a=(d.P.getD q default).a)∧∀q,q<c.S.length→(c.S.getD q default).A=(d.S.getD q default).A∧(c.S.getD q default).I=(d.S.getD q default).I∧(c.S.getD q default).B=(d.S.getD q default).B∧(c.S.getD q default).J=(d.S.getD q default).J)
end
end Go.Proofs.Ytclghkegfpcdpaa.Vm
namespace Go.Proofs.Ytclghkegfpcdpaa.Vm
open Go
set_option maxRecDepth 100000
set_option maxHeartbeats 1000000
set_option linter.unusedSimpArgs false
set_option linter.unusedVariables false
attribute [-simp] List.getD_eq_getElem?_getD
structure CapA (H:Hp)(ws:List V)(c:Cp):Prop where
  cap:CapV H ws c
def boolL (l:List Bool):List V:=l.map V.bool
section
variable {n lim:Nat}{H H' H1:Hp}{K:V→Hp→Prop}{ws:List V}{c:Cp}{b x:Nat}{el:List Bool}{il:List Int}{own:Bool}
def upTo (q:List (List Nat))(i k:Nat):List Nat:=(q.take i).flatten++(q.getD i []).take k
noncomputable def ptQ (c:Cp):List (List Nat):=(ptsP c).map (·.cs)
def outN (c:Cp)(l:List Nat)(k:Nat):Nat:=((l.take k).filter (freeN (lsN c))).length
end
end Go.Proofs.Ytclghkegfpcdpaa.Vm
namespace Go.Proofs.Ytclghkegfpcdpaa.Vm
open Go
set_option maxRecDepth 100000
set_option maxHeartbeats 1000000
set_option linter.unusedSimpArgs false
set_option linter.unusedVariables false
attribute [-simp] List.getD_eq_getElem?_getD
def zCap:Cp:=⟨[],[],0⟩
def sewC (c:Cp)(s:Sm):Cp:=⟨c.P,c.S++[s],c.e⟩
def unsC (c:Cp)(i:Nat):Cp:=⟨c.P,c.S.take i++c.S.drop (i+1),c.e⟩
def unsE (c:Cp)(i:Int):Int:=if capE c≠0 then capE c else if 0≤i∧i<c.S.length then 0 else 5
section
variable {n lim:Nat}{H H' H1:Hp}{K:V→Hp→Prop}{v pv sv a b:V}{ps:List (V×V)}{P:List Pc}{S:List Sm}{e:Int}{ws:List V}{c d:Cp}
end
end Go.Proofs.Ytclghkegfpcdpaa.Vm
namespace Go.Proofs.Ytclghkegfpcdpaa.Vm
open Go
set_option maxRecDepth 100000
set_option maxHeartbeats 1000000
set_option linter.unusedSimpArgs false
set_option linter.unusedVariables false
attribute [-simp] List.getD_eq_getElem?_getD
section
variable {n lim:Nat}{H H' H1:Hp}{K:V→Hp→Prop}{v pv sv a b u:V}{ps:List (V×V)}{P:List Pc}{S:List Sm}{e:Int}{ws:List V}{c d:Cp}
theorem OCapV.parts (h:OCapV n H ws c):∃pv sv ps,ws=[pv,sv,.int .i64 c.e]∧OPcsV n H pv ps c.P∧OwnT n smC H sv c.S∧(∀b o z y o' z' y',pv=.sl b o z y→sv=.sl b o' z' y'→False)∧∀i,i<c.P.length→∀b o z y o' z' y',sv=.sl b o z y→((ps.getD i default).1=.sl b o' z' y'∨(ps.getD i default).2=.sl b o' z' y')→False:=by
  cases h with
  | mk h1 h2 h3 h4=>exact ⟨_,_,_,rfl,h1,h2,h3,h4⟩
end
end Go.Proofs.Ytclghkegfpcdpaa.Vm
namespace Go.Proofs.Ytclghkegfpcdpaa.Vm
open Go
set_option maxRecDepth 100000
set_option maxHeartbeats 1000000
set_option linter.unusedSimpArgs false
set_option linter.unusedVariables false
attribute [-simp] List.getD_eq_getElem?_getD
section
variable {n lim:Nat}{H H' H1:Hp}{K:V→Hp→Prop}{v pv sv a b u:V}{ps:List (V×V)}{P:List Pc}{S:List Sm}{e:Int}{ws:List V}{c d:Cp}
noncomputable def measL (c:Cp):List V:=if capE c=0 then [.int .i64 (partP c),.int .i64 (eulP c),.int .i64 (missP c),.int .i64 (handP c),.int .i64 0] else [.int .i64 0,.int .i64 0,.int .i64 0,.int .i64 0,.int .i64 (capE c)]
structure WrS (m:Nat)(H0:Hp)(pv:V)(ps:List (V×V))(P:List Pc)(H:Hp):Prop where
  hx:HX H0 H
  hm:H0.length≤m
  own:OwnT m pvC H pv ps
  len:ps.length=P.length
  ol:∀i,i<P.length→OwnL m H (ps.getD i default).1 (P.getD i default).s.length
  ap:∀i,i<P.length→∀b o z y o' z' y',pv=.sl b o z y→(ps.getD i default).1=.sl b o' z' y'→False
theorem WrS.write {m:Nat}{H0:Hp}(h:WrS m H0 pv ps P H){i k:Nat}(hi:i<P.length)(hk:k<(P.getD i default).s.length)(hlim:lim≤m):∃H',(∀L,vstore lim L H (ept 1 (ps.getD i default).1 k) (.int .i64 (-1)) 1=some (L,H'))∧WrS m H0 pv ps P H':=by
  obtain ⟨l,hl,ho⟩:=h.ol i hi
  refine ⟨setH H (ps.getD i default).1 (ints (l.set k (-1))),fun L=>ho.store ⟨hlim,by omega⟩,setH_X h.hx ho h.hm,h.hm,h.own.keepB fun b o z y e => ?_,h.len,fun j hj=>(h.ol j hj).set ho (by simp),h.ap⟩
  cases hq:(ps.getD i default).1 with
  | sl b' o' z' y' =>
    simp only [setH]
    rw [List.getElem?_set_ne]
    rintro rfl
    exact h.ap i hi _ _ _ _ _ _ _ e hq
  | _=>rfl
theorem WrS.addr {m:Nat}{H0:Hp}(h:WrS m H0 pv ps P H){i k:Nat}(hi:i<P.length)(hk:k<(P.getD i default).s.length):viaddrS 1 (ps.getD i default).1 (.int .i64 (k:Int))=some (ept 1 (ps.getD i default).1 k):=by
  obtain ⟨l,hl,ho⟩:=h.ol i hi
  have:=ho.sl.addr (i:=(k:Int)) (by omega)
  simpa using this
end
end Go.Proofs.Ytclghkegfpcdpaa.Vm
namespace Go.Proofs.Ytclghkegfpcdpaa.Vm
set_option linter.unusedVariables false
set_option linter.unusedSimpArgs false
attribute [-simp] List.getD_eq_getElem?_getD
theorem getD_setN {l:List Nat}{i t x:Nat}(h:i<l.length):(l.set i x).getD t 0=if t=i then x else l.getD t 0:=by
  simp only [List.getD_eq_getElem?_getD]
  by_cases e:t=i
  · subst e;simp [h]
  · rw [if_neg e,List.getElem?_set_ne (fun h=>e h.symm)]
def lowS (l:List Nat)(a b:Nat):List Nat:=(l.set a (min (l.getD a 0) (l.getD b 0))).set b (min (l.getD a 0) (l.getD b 0))
theorem lowS_len {l:List Nat}{a b:Nat}:(lowS l a b).length=l.length:=by simp [lowS]
theorem lowS_get {l:List Nat}{a b t:Nat}(ha:a<l.length)(hb:b<l.length):(lowS l a b).getD t 0=if t=b∨t=a then min (l.getD a 0) (l.getD b 0) else l.getD t 0:=by
  rw [lowS,getD_setN (by simpa using hb),getD_setN ha]
  by_cases e1:t=b<;>by_cases e2:t=a<;>simp [e1,e2]
theorem lowS_le {l:List Nat}{a b t:Nat}(ha:a<l.length)(hb:b<l.length):(lowS l a b).getD t 0≤l.getD t 0:=by
  rw [lowS_get ha hb]
  split
  · rename_i h
    rcases h with rfl | rfl
    · exact Nat.min_le_right _ _
    · exact Nat.min_le_left _ _
  · exact Nat.le_refl _
structure LowM (E:Nat→Nat→Prop)(N:Nat)(l:List Nat):Prop where
  len:l.length=N
  at':∀i,i<N→l.getD i 0≤i∧E i (l.getD i 0)
section
variable {E:Nat→Nat→Prop}{N:Nat}{l:List Nat}
theorem LowM.start (h:Eqv E):LowM E N (List.range N) where
  len:=by simp
  at':=fun i hi=>by
    have:(List.range N).getD i 0=i:=by simp [List.getD_eq_getElem?_getD,hi]
    rw [this];exact ⟨Nat.le_refl _,h.rf i⟩
theorem LowM.step (hE:Eqv E)(h:LowM E N l){a b:Nat}(ha:a<N)(hb:b<N)(he:E a b):LowM E N (lowS l a b) where
  len:=by rw [lowS_len,h.len]
  at' := fun i hi=>by
    have ha':=h.at' a ha
    have hb':=h.at' b hb
    refine ⟨Nat.le_trans (lowS_le (by rw [h.len];exact ha) (by rw [h.len];exact hb)) (h.at' i hi).1,?_⟩
    rw [lowS_get (by rw [h.len];exact ha) (by rw [h.len];exact hb)]
    have hm:E a (min (l.getD a 0) (l.getD b 0)):=by
      rcases Nat.le_total (l.getD a 0) (l.getD b 0) with g | g
      · rw [Nat.min_eq_left g];exact ha'.2
      · rw [Nat.min_eq_right g];exact hE.tr he hb'.2
    split
    · rename_i g
      rcases g with rfl | rfl
      · exact hE.tr (hE.sy he) hm
      · exact hm
    · exact (h.at' i hi).2
theorem LowM.lt (h:LowM E N l){i:Nat}(hi:i<N):l.getD i 0<N:=Nat.lt_of_le_of_lt (h.at' i hi).1 hi
theorem LowM.least (hE:Eqv E)(h:LowM E N l){i:Nat}(hi:i<N)(hl:LeE E i):l.getD i 0=i:=by
  obtain ⟨h1,h2⟩:=h.at' i hi
  rcases Nat.lt_or_ge (l.getD i 0) i with g | g
  · exact absurd h2 (hl _ g)
  · omega
theorem LowM.done (hE:Eqv E)(h:LowM E N l)(hfix:∀i j,i<N→j<N→E i j→l.getD i 0=l.getD j 0){i:Nat}(hi:i<N):l.getD i 0=lowE E i:=by
  obtain ⟨h1,h2,h3⟩:=lowE_spec hE i
  rw [hfix i (lowE E i) hi (by omega) h2,h.least hE (by omega) h3]
end
section
variable {c:Cp}{l:List Nat}
theorem prt_least {pc:Nat→Nat}{F:Nat→Nat→Prop}(hF:Eqv F):∀{L:List (Nat×Nat)},(∀s,s∈L→F (pc s.1) (pc s.2))→∀{x y:Nat},prtE pc L x y→F x y
  | [],_,x,y,h=>by rw [show x=y from h];exact hF.rf _
  | s :: L,hs,x,y,h=>by
    have ih:∀{x y:Nat},prtE pc L x y→F x y:=fun g=>prt_least hF (fun s hm=>hs s (List.mem_cons_of_mem _ hm)) g
    have h0:=hs s List.mem_cons_self
    rcases h with g | ⟨g1,g2⟩ | ⟨g1,g2⟩
    · exact ih g
    · exact hF.tr (ih g1) (hF.tr h0 (ih g2))
    · exact hF.tr (ih g1) (hF.tr (hF.sy h0) (ih g2))
theorem SmOk.alf_mem {N:Nat}{L:List (Nat×Nat)}(h:SmOk N L):∀s,s∈L→s.1<N∧s.2<N∧alf L s.1=s.2∧s.1≠s.2:=by
  induction h with
  | nil=>intro s hs;cases hs
  | cons hh h1 h2 h3 h4 ih =>
    intro s hs
    rename_i t L0
    have hco:=fun c=>alf_cons (s:=t) (L:=L0) (c:=c) (SmOk.cons hh h1 h2 h3 h4)
    rcases List.mem_cons.1 hs with e | hs
    · subst e
      refine ⟨h1,h2,?_,h3⟩
      rw [hco,if_pos rfl]
    · obtain ⟨a1,a2,a3,a4⟩:=ih s hs
      refine ⟨a1,a2,?_,a4⟩
      obtain ⟨b1,b2,_⟩:=h4 s hs
      rw [hco,if_neg b1,if_neg b2,a3]
def PrtR (c:Cp):Nat→Nat→Prop:=prtE (pcN c.P) (lsN c)
open Classical in
noncomputable def cntL (c:Cp)(l:List Nat)(v:Nat):List Nat:=(List.range c.P.length).filter fun x=>decide (l.getD x 0=v)
def RndP (c:Cp)(r:Nat)(l:List Nat):Prop:=∀v,v<c.P.length→LeE (PrtR c) v→(∀x,x<c.P.length→PrtR c x v→l.getD x 0=v)∨r+1≤(cntL c l v).length
theorem cnt_more {p q:Nat→Bool} {n y:Nat} (h:∀x,x<n→p x=true→q x=true) (hy:y<n) (h1:p y=false) (h2:q y=true):((List.range n).filter p).length+1≤((List.range n).filter q).length:=by
  induction n with
  | zero=>omega
  | succ n ih =>
    rw [List.range_succ,List.filter_append,List.filter_append,List.length_append,List.length_append]
    by_cases e:y=n
    · subst e
      have le : ((List.range y).filter p).length≤((List.range y).filter q).length:=by
        have:∀m,m≤y→((List.range m).filter p).length≤((List.range m).filter q).length:=by
          intro m
          induction m with
          | zero=>intro _;simp
          | succ m ihm =>
            intro hm
            rw [List.range_succ,List.filter_append,List.filter_append,List.length_append,List.length_append]
            have:=ihm (by omega)
            have:([m].filter p).length≤([m].filter q).length:=by
              cases hp:p m with
              | false=>simp [List.filter,hp]
              | true=>simp [List.filter,hp,h m (by omega) hp]
            omega
        exact this y (Nat.le_refl _)
      simp [List.filter,h1,h2];exact le
    · have:=ih (fun x hx=>h x (by omega)) (by omega)
      have:([n].filter p).length≤([n].filter q).length:=by
        cases hp:p n with
        | false=>simp [List.filter,hp]
        | true=>simp [List.filter,hp,h n (by omega) hp]
      omega
theorem RndP.start:RndP c 0 (List.range c.P.length):=by
  intro v hv hl
  right
  have:v∈cntL c (List.range c.P.length) v:=by
    simp [cntL,hv,List.getD_eq_getElem?_getD]
  have:=List.length_pos_of_mem this
  omega
theorem RndP.next (hok:CapOk c) {r:Nat} {l0 l1:List Nat} (h0:LowM (PrtR c) c.P.length l0) (h1:LowM (PrtR c) c.P.length l1) (hle:∀x,l1.getD x 0≤l0.getD x 0)
    (hs:∀a,a<nsN c.P→alf (lsN c) a≠a→l1.getD (pcN c.P a) 0≤l0.getD (pcN c.P (alf (lsN c) a)) 0) (h:RndP c r l0):RndP c (r+1) l1:=by
  have hE:Eqv (PrtR c):=prtE_eqv
  have hsm:=hok.sm_ok
  intro v hv hl
  have keep:∀x,x<c.P.length→l0.getD x 0=v→l1.getD x 0=v:=by
    intro x hx e
    have g1:=hle x
    have g2:=(h1.at' x hx).2
    have g3:=(h0.at' x hx).2
    rw [e] at g3 g1
    rcases Nat.lt_or_ge (l1.getD x 0) v with g | g
    · exact absurd (hE.tr (hE.sy g3) g2) (hl _ g)
    · omega
  rcases h v hv hl with g | g
  · exact Or.inl fun x hx he=>keep x hx (g x hx he)
  · by_cases hall:∀x,x<c.P.length→PrtR c x v→l0.getD x 0=v
    · exact Or.inl fun x hx he=>keep x hx (hall x hx he)
    · right
      have hex:∃a,a<nsN c.P∧alf (lsN c) a≠a∧l0.getD (pcN c.P a) 0≠v∧l0.getD (pcN c.P (alf (lsN c) a)) 0=v:=by
        apply Classical.byContradiction
        intro hno
        apply hall
        intro x hx he
        have hF:Eqv fun x y=>(l0.getD x 0=v↔l0.getD y 0=v):=⟨fun _=>Iff.rfl,fun h=>h.symm,fun h g=>h.trans g⟩
        have:=prt_least (pc:=pcN c.P) hF (L:=lsN c) (fun s hm=>by
          obtain ⟨a1,a2,a3,a4⟩:=hsm.alf_mem s hm
          have b3:alf (lsN c) s.2=s.1:=by rw [←a3,hsm.inv a1]
          constructor
          · intro e
            apply Classical.byContradiction
            intro hn
            exact hno ⟨s.2,a2,by rw [b3];exact a4,hn,by rw [b3];exact e⟩
          · intro e
            apply Classical.byContradiction
            intro hn
            exact hno ⟨s.1,a1,by rw [a3];exact fun e=>a4 e.symm,hn,by rw [a3];exact e⟩) he
        exact this.2 (h0.least hE hv hl)
      obtain ⟨a,a1,a2,a3,a4⟩:=hex
      have hpa:pcN c.P a<c.P.length:=pc_lt a1
      have hpb:pcN c.P (alf (lsN c) a)<c.P.length:=pc_lt (hsm.pr.lt a a1)
      have hnew:l1.getD (pcN c.P a) 0=v:=by
        have g1:=hs a a1 a2
        rw [a4] at g1
        have g2:=(h1.at' _ hpa).2
        have g3:=(h0.at' _ hpb).2
        rw [a4] at g3
        have g4:PrtR c (pcN c.P a) (pcN c.P (alf (lsN c) a)):=prtE_sewn
        rcases Nat.lt_or_ge (l1.getD (pcN c.P a) 0) v with q | q
        · exact absurd (hE.tr (hE.sy (hE.tr g4 g3)) g2) (hl _ q)
        · omega
      have:=cnt_more (p:=fun x=>decide (l0.getD x 0=v)) (q:=fun x=>decide (l1.getD x 0=v)) (n:=c.P.length) (y:=pcN c.P a) (fun x hx he=>by simpa using keep x hx (by simpa using he)) hpa (by simpa using a3) (by simpa using hnew)
      unfold cntL at g ⊢
      omega
theorem RndP.end (h0:LowM (PrtR c) c.P.length l)(h:RndP c c.P.length l){x:Nat}(hx:x<c.P.length):l.getD x 0=lowE (PrtR c) x:=by
  have hE:Eqv (PrtR c):=prtE_eqv
  obtain ⟨h1,h2,h3⟩:=lowE_spec hE x
  rcases h (lowE (PrtR c) x) (by omega) h3 with g | g
  · exact g x hx h2
  · have:(cntL c l (lowE (PrtR c) x)).length≤c.P.length:=by
      unfold cntL
      exact Nat.le_trans (List.length_filter_le _ _) (by simp)
    omega
def ownL (l:List Nat)(n:Nat):Nat:=((List.range n).filter fun i=>decide (l.getD i 0=i)).length
end
end Go.Proofs.Ytclghkegfpcdpaa.Vm
namespace Go.Proofs.Ytclghkegfpcdpaa.Vm
open Go
set_option maxRecDepth 100000
set_option maxHeartbeats 1000000
set_option linter.unusedSimpArgs false
set_option linter.unusedVariables false
attribute [-simp] List.getD_eq_getElem?_getD
structure Owns (n:Nat)(H0 H:Hp)(vs:List V)(ls:List (List Int)):Prop where
  hx:HX H0 H
  len:vs.length=ls.length
  at':∀i,i<ls.length→OwnV n H (vs.getD i dv) (ls.getD i [])
  ap:∀i j,i<ls.length→j<ls.length→i≠j→∀b o z y o' z' y',vs.getD i dv=.sl b o z y→vs.getD j dv=.sl b o' z' y'→False
theorem getD_setX {α:Type}{l:List α}{i t:Nat}{x d:α}(h:i<l.length):(l.set i x).getD t d=if t=i then x else l.getD t d:=by
  simp only [List.getD_eq_getElem?_getD]
  by_cases e:t=i
  · subst e;simp [h]
  · rw [if_neg e,List.getElem?_set_ne (fun h=>e h.symm)]
section
variable {n lim:Nat}{H H0 H':Hp}{vs:List V}{ls:List (List Int)}
theorem Owns.push (h:Owns n H0 H vs ls) {i:Nat} (hi:i<ls.length) {x:Int} (hn:lim≤n∧H0.length≤n∧n≤H.length) (hl:(ls.getD i []).length<1000000) :
    ∃v' H',vappend lim 1 8 (H++[.row [.int .i64 x] true]) (vs.getD i dv) (.sl H.length 0 1 1)=some (v',H')∧Owns n H0 H' (vs.set i v') (ls.set i (ls.getD i []++[x]))∧H.length≤H'.length:=by
  obtain ⟨v',H',a1,a2,a3,a4,a5,a6⟩:=(h.at' i hi).appendF (lim:=lim) (x:=x) ⟨hn.1,hn.2.2⟩ hl
  have hlen:=h.len
  have other:∀j,j<ls.length→j≠i→∀b o m z,vs.getD j dv=.sl b o m z→b<H.length∧∀o z y,vs.getD i dv≠.sl b o z y:=fun j hj hne b o m z e =>
    ⟨((h.at' j hj).belowB _ _ _ _ e).2,fun o' z' y' e'=>h.ap i j hi hj (fun q=>hne q.symm) _ _ _ _ _ _ _ e' e⟩
  refine ⟨v',H',a1,⟨a3 _ h.hx hn.2.1,by simp [hlen],fun j hj => ?_,fun j k hj hk hjk b o z y o' z' y' e e' => ?_⟩,a4⟩
  · rw [List.length_set] at hj
    rw [getD_setX (by omega),getD_setX (by omega)]
    by_cases e:j=i
    · rw [if_pos e,if_pos e];exact a2
    · rw [if_neg e,if_neg e]
      exact (h.at' j hj).keepB fun b o m z q=>a5 b (other j hj e b o m z q).1 (other j hj e b o m z q).2
  · rw [List.length_set] at hj hk
    rw [getD_setX (by omega)] at e e'
    by_cases ej:j=i
    · rw [if_pos ej] at e
      rw [if_neg (by omega)] at e'
      have:=a6 _ _ _ _ e
      have:=((h.at' k hk).belowB _ _ _ _ e').2
      omega
    · rw [if_neg ej] at e
      by_cases ek:k=i
      · rw [if_pos ek] at e'
        have:=a6 _ _ _ _ e'
        have:=((h.at' j hj).belowB _ _ _ _ e).2
        omega
      · rw [if_neg ek] at e'
        exact h.ap j k hj hk hjk _ _ _ _ _ _ _ e e'
theorem Owns.put (h:Owns n H0 H vs ls) {i:Nat} (hi:i<ls.length) {l':List Int} (hl:l'.length=(ls.getD i []).length) (hn:H0.length≤n):Owns n H0 (setH H (vs.getD i dv) (ints l')) vs (ls.set i l') where
  hx:=setH_X h.hx (h.at' i hi) hn
  len:=by simp [h.len]
  at' := fun j hj=>by
    rw [List.length_set] at hj
    rw [getD_setX hi]
    by_cases e:j=i
    · subst e;rw [if_pos rfl];exact (h.at' j hi).put hl
    · rw [if_neg e]
      refine (h.at' j hj).keepB fun b o m z q => ?_
      have hap:=h.ap i j hi hj (fun q=>e q.symm)
      cases hv:vs.getD i dv with
      | sl b' o' m' z' =>
        simp only [setH]
        rw [List.getElem?_set_ne]
        rintro rfl
        exact hap _ _ _ _ _ _ _ hv q
      | _=>rfl
  ap:=fun j k hj hk=>by
    rw [List.length_set] at hj hk
    exact h.ap j k hj hk
theorem Owns.grow (h:Owns n H0 H vs ls)(hx:HX H H'):Owns n H0 H' vs ls:=⟨h.hx.trans hx,h.len,fun i hi=>(h.at' i hi).mono hx,h.ap⟩
end
def upM (g:Nat→Int)(m:Nat):List Int:=(List.range m).map g
theorem upM_len {g:Nat→Int}{m:Nat}:(upM g m).length=m:=by simp [upM]
theorem upM_get {g:Nat→Int}{m i:Nat}(h:i<m):(upM g m).getD i 0=g i:=getD_map_range h
def ptL (L:List (Nat×Nat))(i:Nat):Int:=if alf L i=i then -1 else (alf L i:Nat)
structure NetV (H:Hp)(vs:List V)(c:Cp):Prop where
  ex:∃a b p x q,vs=[a,b,p,x,q]∧SlV H a (upM (lnN c.P) (nsN c.P))∧SlV H b (upM (anN c.P) (nsN c.P))∧SlV H p (upM (fun i=>(pcN c.P i:Nat)) (nsN c.P))∧SlV H x (upM (fun i=>(nxN c.P i:Nat)) (nsN c.P))∧SlV H q (upM (ptL (lsN c)) (nsN c.P))
section
variable {n lim:Nat}{H H0 H':Hp}{K:V→Hp→Prop}{v:V}{ws vs:List V}{c:Cp}
theorem NetV.mono (hx:HX H H')(h:NetV H vs c):NetV H' vs c:=by
  obtain ⟨a,b,p,x,q,e,h1,h2,h3,h4,h5⟩:=h.ex
  exact ⟨a,b,p,x,q,e,h1.mono hx,h2.mono hx,h3.mono hx,h4.mono hx,h5.mono hx⟩
def netL (P:List Pc)(L:List (Nat×Nat))(m:Nat)(f:List Int):List (List Int):=[upM (lnN P) m,upM (anN P) m,upM (fun i=>(pcN P i:Nat)) m,upM (fun i=>(nxN P i:Nat)) m,upM (ptL L) m,f]
end
end Go.Proofs.Ytclghkegfpcdpaa.Vm
namespace Go.Proofs.Ytclghkegfpcdpaa.Vm
open Go
set_option maxRecDepth 100000
set_option maxHeartbeats 1000000
set_option linter.unusedSimpArgs false
set_option linter.unusedVariables false
attribute [-simp] List.getD_eq_getElem?_getD Bool.exists_bool
section
variable {n lim:Nat}{H H0 H':Hp}{K:V→Hp→Prop}{v:V}{ws vs:List V}{c:Cp}{s:Nat}
theorem SlV.up {g:Nat→Int}{m:Nat}(h:SlV H v (upM g m)){i:Nat}(hi:i<m):viaddrS 1 v (.int .i64 (i:Int))=some (ept 1 v i)∧∀L,vload none L H (ept 1 v i)=some (.int .i64 (g i)):=by
  have a:=h.addr (i:=(i:Int)) (by rw [upM_len];omega)
  rw [Int.toNat_natCast] at a
  refine ⟨a,fun L => ?_⟩
  rw [h.load (by rw [upM_len];exact hi),upM_get hi]
def PassM (c:Cp)(l0:List Nat)(a:Nat)(ag:Bool)(l:List Nat):Prop:=(ag=true∧l.sum<l0.sum)∨(ag=false∧l=l0∧∀i,i<a→alf (lsN c) i≠i→l.getD i 0=l.getD (nuP c i) 0)
def FixM (c:Cp)(ag:Bool)(l:List Nat):Prop:=ag=true∨∀i,i<nsN c.P→alf (lsN c) i≠i→l.getD i 0=l.getD (nuP c i) 0
def sumB (ag:Bool)(l:List Nat):Nat:=l.sum+if ag then 1 else 0
end
end Go.Proofs.Ytclghkegfpcdpaa.Vm
namespace Go.Proofs.Ytclghkegfpcdpaa.Vm
open Go
set_option maxRecDepth 100000
set_option maxHeartbeats 1000000
set_option linter.unusedSimpArgs false
set_option linter.unusedVariables false
attribute [-simp] List.getD_eq_getElem?_getD Bool.exists_bool
section
variable {c:Cp}{f i:Nat}
def edgB (c:Cp)(d:Nat):Bool:=decide (alf (lsN c) d≠d)&&decide (alf (lsN c) (bfN c.P d)≠bfN c.P d)
noncomputable def innA (c:Cp)(f i:Nat):Bool:=(memE (PtR c) i f).all (edgB c)
noncomputable def sumA (c:Cp)(f i:Nat):Int:=((memE (PtR c) i f).map (anN c.P)).sum
open Classical in
noncomputable def ptsA (c:Cp)(b:Nat):List Ptt:=((List.range b).filter fun k=>decide (LeE (PtR c) k)).map (ptOf c)
end
structure PpS (n:Nat)(H0:Hp)(u:V)(pts:List Pnt)(q:List Ptt)(cv:V)(cur:List Int)(H:Hp):Prop where
  hx:HX H0 H
  ou:OwnT n pntC H u pts
  len:pts.length=q.length
  eq:∀i,i<q.length→(pts.getD i default).i=(q.getD i default).inn∧(pts.getD i default).a=(q.getD i default).ang∧(pts.getD i default).d=(q.getD i default).df
  oc:∀i,i<q.length→OwnV n H (pts.getD i default).v (natL (q.getD i default).cs)
  ow:OwnV n H cv cur
  ap:∀i,i<q.length→∀b o z y o' z' y',u=.sl b o z y→(pts.getD i default).v=.sl b o' z' y'→False
  aw:∀b o z y o' z' y',u=.sl b o z y→cv=.sl b o' z' y'→False
  ac:∀i,i<q.length→∀b o z y o' z' y',cv=.sl b o z y→(pts.getD i default).v=.sl b o' z' y'→False
section
variable {n lim:Nat}{H H0 H':Hp}{K:V→Hp→Prop}{u cv v:V}{pts:List Pnt}{q:List Ptt}{cur:List Int}{ws vs:List V}{c:Cp}
end
end Go.Proofs.Ytclghkegfpcdpaa.Vm
namespace Go.Proofs.Ytclghkegfpcdpaa.Vm
open Go
set_option maxRecDepth 100000
set_option maxHeartbeats 1000000
set_option linter.unusedSimpArgs false
set_option linter.unusedVariables false
attribute [-simp] List.getD_eq_getElem?_getD Bool.exists_bool
structure PassP (c:Cp)(l0:List Nat)(a:Nat)(l:List Nat):Prop where
  low:LowM (PrtR c) c.P.length l
  le:∀x,l.getD x 0≤l0.getD x 0
  sm:∀i,i<a→alf (lsN c) i≠i→l.getD (pcN c.P i) 0≤l0.getD (pcN c.P (alf (lsN c) i)) 0
section
variable {n lim:Nat}{H H0 H':Hp}{K:V→Hp→Prop}{v:V}{ws vs:List V}{c:Cp}{a:Nat}{l l0:List Nat}
theorem PassP.skip (h:PassP c l0 a l)(hf:alf (lsN c) a=a):PassP c l0 (a+1) l where
  low:=h.low
  le:=h.le
  sm:=fun i hi hne=>by
    by_cases e:i=a
    · subst e;exact absurd hf hne
    · exact h.sm i (by omega) hne
theorem PassP.step (hok:CapOk c)(h:PassP c l0 a l)(ha:a<nsN c.P):PassP c l0 (a+1) (lowS l (pcN c.P a) (pcN c.P (alf (lsN c) a))):=by
  have hal:=hok.sm_ok.pr.lt a ha
  have h1:pcN c.P a<l.length:=by rw [h.low.len];exact pc_lt ha
  have h2:pcN c.P (alf (lsN c) a)<l.length:=by rw [h.low.len];exact pc_lt hal
  refine ⟨h.low.step prtE_eqv (pc_lt ha) (pc_lt hal) prtE_sewn,fun x=>Nat.le_trans (lowS_le h1 h2) (h.le x),fun i hi hne => ?_⟩
  by_cases e:i=a
  · subst e
    rw [lowS_get h1 h2,if_pos (Or.inr rfl)]
    exact Nat.le_trans (Nat.min_le_right _ _) (h.le _)
  · exact Nat.le_trans (lowS_le h1 h2) (h.sm i (by omega) hne)
end
end Go.Proofs.Ytclghkegfpcdpaa.Vm
namespace Go.Proofs.Ytclghkegfpcdpaa.Vm
open Go
set_option maxRecDepth 100000
set_option maxHeartbeats 1000000
set_option linter.unusedSimpArgs false
set_option linter.unusedVariables false
attribute [-simp] List.getD_eq_getElem?_getD Bool.exists_bool
structure LqS (n0:Nat)(H0:Hp)(M:List Bool)(u:V)(us:List V)(ls:List (List Int))(cv:V)(cur:List Int)(H:Hp):Prop where
  hx:HX H0 H
  hn:H0.length=n0
  b1:H[n0]? = some (.row (boolL M) true)
  ou:OwnT (n0+1) vC H u us
  len:us.length=ls.length
  oc:∀i,i<us.length→OwnV (n0+1) H (us.getD i dv) (ls.getD i [])
  ow:OwnV (n0+1) H cv cur
  ap:∀i,i<us.length→∀b o z y o' z' y',u=.sl b o z y→us.getD i dv=.sl b o' z' y'→False
  aw:∀b o z y o' z' y',u=.sl b o z y→cv=.sl b o' z' y'→False
  ac:∀i,i<us.length→∀b o z y o' z' y',cv=.sl b o z y→us.getD i dv=.sl b o' z' y'→False
section
variable {n0 lim:Nat}{H H0 H':Hp}{K:V→Hp→Prop}{lv u cv v:V}{M M':List Bool}{us:List V}{ls:List (List Int)}{cur:List Int}{c:Cp}{s:Nat}
theorem LqS.big (h:LqS n0 H0 M u us ls cv cur H):n0+1≤H.length:=(List.getElem?_eq_some_iff.1 h.b1).1
theorem LqS.move (h:LqS n0 H0 M u us ls cv cur H)(ho:OthM n0 H H')(hm:H'[n0]? = some (.row (boolL M') true)):LqS n0 H0 M' u us ls cv cur H' where
  hx:=HX.of (by have:=h.hx.len;have:=ho.1;omega) fun b hb=>by
    have:=h.hx.len
    have:=h.hn
    rw [ho.2 b (by omega) (by omega),h.hx.same hb]
  hn:=h.hn
  b1:=hm
  ou:=h.ou.keepB fun b o m z e=>by have:=h.ou.belowB _ _ _ _ e;exact ho.2 b (by omega) (by omega)
  len:=h.len
  oc:=fun i hi=>(h.oc i hi).keepB fun b o m z e=>by have:=(h.oc i hi).belowB _ _ _ _ e;exact ho.2 b (by omega) (by omega)
  ow:=h.ow.keepB fun b o m z e=>by have:=h.ow.belowB _ _ _ _ e;exact ho.2 b (by omega) (by omega)
  ap:=h.ap
  aw:=h.aw
  ac:=h.ac
theorem LqS.grow (h:LqS n0 H0 M u us ls cv cur H)(hx:HX H H'):LqS n0 H0 M u us ls cv cur H':=h.move ⟨hx.len,fun b hb _=>hx.same hb⟩ (hx.get h.b1)
theorem LqS.put (h:LqS n0 H0 M u us ls cv cur H){k:Nat}:LqS n0 H0 (M.set k true) u us ls cv cur (H.set n0 (.row (boolL (M.set k true)) true)) :=
  h.move ⟨by simp,fun b hb hne=>List.getElem?_set_ne (fun e=>hne e.symm)⟩ (List.getElem?_set_self h.big)
end
end Go.Proofs.Ytclghkegfpcdpaa.Vm
namespace Go.Proofs.Ytclghkegfpcdpaa.Vm
open Go
set_option maxRecDepth 100000
set_option maxHeartbeats 1000000
set_option linter.unusedSimpArgs false
set_option linter.unusedVariables false
attribute [-simp] List.getD_eq_getElem?_getD Bool.exists_bool
section
variable {n lim:Nat}{H H0 H':Hp}{K:V→Hp→Prop}{v w:V}{ws vs:List V}{c:Cp}
theorem ShortC.vb (hsh:ShortC c):c.P.length≤1000000∧c.S.length≤1000000∧∀q,q<c.P.length→(c.P.getD q default).s.length≤100000 :=
  ⟨by have:=hsh.np;omega,by have:=hsh.ns;omega,fun q hq=>by have:=(hsh.pc q hq).1;omega⟩
theorem PtlV.le {m:Nat}{q:List Ptt}(h:PtlV m H v q)(hnm:n≤m):PtlV n H v q:=by
  obtain ⟨pts,o1,o2,o3⟩:=h.ex
  exact ⟨⟨pts,o1.le hnm,o2,fun i hi=>⟨(o3 i hi).1,(o3 i hi).2.1,(o3 i hi).2.2.1,(o3 i hi).2.2.2.le hnm⟩⟩⟩
theorem PtlV.mono {q:List Ptt}(hx:HX H H')(h:PtlV n H v q):PtlV n H' v q:=by
  obtain ⟨pts,o1,o2,o3⟩:=h.ex
  exact ⟨⟨pts,o1.mono hx,o2,fun i hi=>⟨(o3 i hi).1,(o3 i hi).2.1,(o3 i hi).2.2.1,(o3 i hi).2.2.2.mono hx⟩⟩⟩
theorem PtlV.nil:PtlV n H .snil []:=⟨⟨[],.nil,rfl,fun i hi=>by simp at hi⟩⟩
theorem LlsV.le {m:Nat}{q:List (List Int)}(h:LlsV m H v q)(hnm:n≤m):LlsV n H v q:=by
  obtain ⟨us,o1,o2,o3⟩:=h.ex
  exact ⟨⟨us,o1.le hnm,o2,fun i hi=>(o3 i hi).le hnm⟩⟩
theorem LlsV.mono {q:List (List Int)}(hx:HX H H')(h:LlsV n H v q):LlsV n H' v q:=by
  obtain ⟨us,o1,o2,o3⟩:=h.ex
  exact ⟨⟨us,o1.mono hx,o2,fun i hi=>(o3 i hi).mono hx⟩⟩
theorem LlsV.nil:LlsV n H .snil []:=⟨⟨[],.nil,rfl,fun i hi=>by simp at hi⟩⟩
end
end Go.Proofs.Ytclghkegfpcdpaa.Vm
namespace Go.Proofs.Ytclghkegfpcdpaa.Vm
open Go
set_option maxRecDepth 100000
set_option maxHeartbeats 1000000
set_option linter.unusedSimpArgs false
set_option linter.unusedVariables false
attribute [-simp] List.getD_eq_getElem?_getD Bool.exists_bool
section
variable {n m lim:Nat}{H H0 H':Hp}{K:V→Hp→Prop}{v w:V}{ws vs:List V}{c:Cp}
end
end Go.Proofs.Ytclghkegfpcdpaa.Vm
namespace Go.Proofs.Ytclghkegfpcdpaa.Vm
open Go
set_option maxRecDepth 100000
set_option maxHeartbeats 1000000
set_option linter.unusedSimpArgs false
set_option linter.unusedVariables false
attribute [-simp] List.getD_eq_getElem?_getD Bool.exists_bool
def hdOk (l:List Int)(i:Nat):Bool:=decide (1≤l.getD i 0∧l.getD i 0≤200)
def ruleB (r f e b k n:Int):Prop:=r≤f∨r≤e∨r≤b∨r≤k∨k≤n∨b+k<r∨2*f<r
instance {r f e b k n:Int}:Decidable (ruleB r f e b k n):=by unfold ruleB;infer_instance
def headE (r f e b k n:Int):Int:=if (List.range 6).all (hdOk [r,f,e,b,k,n])=true then (if ruleB r f e b k n then 14 else 0) else 1
abbrev headV (r f e b k n:Int):List V:=[.int .i64 r,.int .i64 f,.int .i64 e,.int .i64 b,.int .i64 k,.int .i64 n]
section
variable {m lim:Nat}{H H0 H':Hp}{K:V→Hp→Prop}{v w:V}{ws vs:List V}{c:Cp}{r f e b k n:Int}{s:List Int}
theorem hd_bad {i:Nat}(hi:i<6)(h:hdOk [r,f,e,b,k,n] i=false):headE r f e b k n=1:=by
  unfold headE
  rw [if_neg]
  intro g
  have:=List.all_eq_true.1 g i (List.mem_range.2 hi)
  rw [h] at this;cases this
theorem hd_all (h:∀i,i<6→hdOk [r,f,e,b,k,n] i=true):(1≤r∧r≤200)∧(1≤f∧f≤200)∧(1≤e∧e≤200)∧(1≤b∧b≤200)∧(1≤k∧k≤200)∧(1≤n∧n≤200):=by
  have g:=fun i hi=>of_decide_eq_true (h i hi)
  exact ⟨g 0 (by omega),g 1 (by omega),g 2 (by omega),g 3 (by omega),g 4 (by omega),g 5 (by omega)⟩
theorem hd_rule (h:∀i,i<6→hdOk [r,f,e,b,k,n] i=true):headE r f e b k n=if ruleB r f e b k n then 14 else 0:=by
  unfold headE
  rw [if_pos (List.all_eq_true.2 fun i hi=>h i (List.mem_range.1 hi))]
theorem six {i:Nat}{p:Nat→Prop}(hi:i<6)(h:p 0∧p 1∧p 2∧p 3∧p 4∧p 5):p i:=by
  have:i=0∨i=1∨i=2∨i=3∨i=4∨i=5:=by omega
  rcases this with rfl | rfl | rfl | rfl | rfl | rfl
  · exact h.1
  · exact h.2.1
  · exact h.2.2.1
  · exact h.2.2.2.1
  · exact h.2.2.2.2.1
  · exact h.2.2.2.2.2
theorem rdf {i:Nat}(hi:i<6):rd none (headV r f e b k n) i=some (.int .i64 ([r,f,e,b,k,n].getD i 0)):=six (p:=fun i=>rd none (headV r f e b k n) i=some (.int .i64 ([r,f,e,b,k,n].getD i 0))) hi ⟨rfl,rfl,rfl,rfl,rfl,rfl⟩
theorem rd6:rd (some 6) (headV r f e b k n) 0=some (.agg (headV r f e b k n)):=Eq.trans rfl rfl
theorem rd6_0:rd none (headV r f e b k n) 0=some (.int .i64 r):=Eq.trans rfl rfl
theorem rd6_1:rd none (headV r f e b k n) 1=some (.int .i64 f):=Eq.trans rfl rfl
theorem rd6_2:rd none (headV r f e b k n) 2=some (.int .i64 e):=Eq.trans rfl rfl
theorem rd6_3:rd none (headV r f e b k n) 3=some (.int .i64 b):=Eq.trans rfl rfl
theorem rd6_4:rd none (headV r f e b k n) 4=some (.int .i64 k):=Eq.trans rfl rfl
theorem rd6_5:rd none (headV r f e b k n) 5=some (.int .i64 n):=Eq.trans rfl rfl
theorem surf_ValidateHead (hK:K (.int .i64 (headE r f e b k n)) H):VCall tbl lim 46 [.agg (headV r f e b k n)] H K:=by
  refine VCall_fn tbl_at46 rfl ?_
  have hz:ints (zs 6)=[.int .i64 0,.int .i64 0,.int .i64 0,.int .i64 0,.int .i64 0,.int .i64 0]:=Eq.trans rfl rfl
  have hix:∀i:Nat,i<6→vidxA 6 1 none (.agg (headV r f e b k n)) (.int .i64 (i:Int))=some (.int .i64 ([r,f,e,b,k,n].getD i 0)):=fun i hi=>six (p:=fun i=>vidxA 6 1 none (.agg (headV r f e b k n)) (.int .i64 (i:Int))=some (.int .i64 ([r,f,e,b,k,n].getD i 0))) hi ⟨rfl,rfl,rfl,rfl,rfl,rfl⟩
  simp [vf46,rd6_0,rd6_1,rd6_2,rd6_3,rd6_4,rd6_5,hz,splice]
  refine wLoop_up 6 (fun i fr L H'=>(fr 1=.lp 0 0∧fr 17=.agg (headV r f e b k n)∧fr 18=.int .i64 i)∧L=[headV r f e b k n]∧H'=H∧∀j,j<i→hdOk [r,f,e,b,k,n] j=true) ⟨by simp,rfl,rfl,fun j h=>absurd h (by omega)⟩ ?_
  rintro i hi fr L H1 ⟨⟨f1,f17,f18⟩,rfl,rfl,hall⟩
  simp [f1,f17,f18]
  refine cond_dec (fun ht => ?_) fun hfl => ?_
  · have ht:i<6:=by omega
    have hx:=hix i ht
    simp [f1,f17,f18,hx]
    have ek:hdOk [r,f,e,b,k,n] i=decide (1≤[r,f,e,b,k,n].getD i 0∧[r,f,e,b,k,n].getD i 0≤200):=rfl
    have hbad:=hd_bad (r:=r) (f:=f) (e:=e) (b:=b) (k:=k) (n:=n) ht
    generalize [r,f,e,b,k,n].getD i 0=x at *
    refine surf_isSide ?_
    rw [←ek]
    cases hb:hdOk [r,f,e,b,k,n] i with
    | false =>
      rw [hbad hb] at hK
      simp
      exact hK
    | true =>
      simp (disch:=omega) [f1,f17,f18,wrap_i64]
      exact ⟨ht,fun j hj=>by
        by_cases e':j=i
        · rw [e'];exact hb
        · exact hall j (by omega)⟩
  · have:i=6:=by omega
    subst this
    rw [hd_rule hall] at hK
    obtain ⟨g1,g2,g3,g4,g5,g6⟩:=hd_all hall
    simp (disch:=omega) [f1,rd6_0,rd6_1,rd6_2,rd6_3,rd6_4,rd6_5,wrap_i64]
    refine cond_bool (fun h1 => ?_) fun h1 => ?_
    · have hr:ruleB r f e b k n:=by
        simp only [Bool.or_eq_true,decide_eq_true_eq] at h1
        unfold ruleB;omega
      rw [if_pos hr] at hK
      simp
      exact hK
    · simp only [Bool.or_eq_false_iff,decide_eq_false_iff_not] at h1
      simp (disch:=omega) [f1,rd6_0,rd6_1,rd6_2,rd6_3,rd6_4,rd6_5,wrap_i64]
      refine cond_bool (fun h2 => ?_) fun h2 => ?_
      · have hr:ruleB r f e b k n:=by
          simp only [Bool.or_eq_true,decide_eq_true_eq] at h2
          unfold ruleB;omega
        rw [if_pos hr] at hK
        simp
        exact hK
      · simp only [Bool.or_eq_false_iff,decide_eq_false_iff_not] at h2
        have hr:¬ruleB r f e b k n:=by unfold ruleB;omega
        rw [if_neg hr] at hK
        simp
        exact hK
theorem r02_ValidateHead (hK:K (.int .i64 (headE r f e b k n)) H):VCall tbl lim 47 [.agg (headV r f e b k n)] H K:=by
  refine VCall_fn tbl_at47 rfl ?_
  have hz:ints (zs 6)=[.int .i64 0,.int .i64 0,.int .i64 0,.int .i64 0,.int .i64 0,.int .i64 0]:=Eq.trans rfl rfl
  simp [vf47,rd6_0,rd6_1,rd6_2,rd6_3,rd6_4,rd6_5,hz,splice]
  refine wLoop_up 6 (fun i fr L H'=>(fr 1=.lp 0 0∧fr 3=.lp 1 0∧fr 4=.int .i64 i)∧L=[headV r f e b k n,headV r f e b k n]∧H'=H∧∀j,j<i→hdOk [r,f,e,b,k,n] j=true) ⟨by simp,rfl,rfl,fun j h=>absurd h (by omega)⟩ ?_
  rintro i hi fr L H1 ⟨⟨f1,f3,f4⟩,rfl,rfl,hall⟩
  simp [f1,f3,f4]
  refine cond_dec (fun ht => ?_) fun hfl => ?_
  · have ht:i<6:=by omega
    have hx:=rdf (r:=r) (f:=f) (e:=e) (b:=b) (k:=k) (n:=n) ht
    have ek:hdOk [r,f,e,b,k,n] i=decide (1≤[r,f,e,b,k,n].getD i 0∧[r,f,e,b,k,n].getD i 0≤200):=rfl
    have hbad:=hd_bad (r:=r) (f:=f) (e:=e) (b:=b) (k:=k) (n:=n) ht
    generalize [r,f,e,b,k,n].getD i 0=x at *
    simp (disch:=omega) [f1,f3,f4,hx]
    refine r02_within ?_
    rw [←ek]
    cases hb:hdOk [r,f,e,b,k,n] i with
    | false =>
      rw [hbad hb] at hK
      simp
      exact hK
    | true =>
      simp (disch:=omega) [f1,f3,f4,wrap_i64]
      exact ⟨ht,fun j hj=>by
        by_cases e':j=i
        · rw [e'];exact hb
        · exact hall j (by omega)⟩
  · have:i=6:=by omega
    subst this
    rw [hd_rule hall] at hK
    obtain ⟨g1,g2,g3,g4,g5,g6⟩:=hd_all hall
    have step:∀{x:Int},(ruleB r f e b k n→x=14)→(¬ruleB r f e b k n→x=0)→K (.int .i64 x) H1:=fun {x} h1 h2=>by
      by_cases hr:ruleB r f e b k n
      · rw [if_pos hr] at hK;rw [h1 hr];exact hK
      · rw [if_neg hr] at hK;rw [h2 hr];exact hK
    have w1:IntKind.wrap .i64 (b+k)=b+k:=wrap_i64 (by omega) (by omega)
    have w2:IntKind.wrap .i64 (2*f)=2*f:=wrap_i64 (by omega) (by omega)
    by_cases c1:r≤f
    · simp [f1,rd6_0,rd6_1,rd6_2,rd6_3,rd6_4,rd6_5,c1]
      exact step (fun _=>rfl) fun h=>absurd (Or.inl c1) h
    by_cases c2:r≤e
    · simp [f1,rd6_0,rd6_1,rd6_2,rd6_3,rd6_4,rd6_5,c1,c2]
      exact step (fun _=>rfl) fun h=>absurd (by unfold ruleB;omega) h
    by_cases c3:r≤b
    · simp [f1,rd6_0,rd6_1,rd6_2,rd6_3,rd6_4,rd6_5,c1,c2,c3]
      exact step (fun _=>rfl) fun h=>absurd (by unfold ruleB;omega) h
    by_cases c4:r≤k
    · simp [f1,rd6_0,rd6_1,rd6_2,rd6_3,rd6_4,rd6_5,c1,c2,c3,c4]
      exact step (fun _=>rfl) fun h=>absurd (by unfold ruleB;omega) h
    by_cases c5:k≤n
    · simp [f1,rd6_0,rd6_1,rd6_2,rd6_3,rd6_4,rd6_5,c1,c2,c3,c4,c5]
      exact step (fun _=>rfl) fun h=>absurd (by unfold ruleB;omega) h
    by_cases c6:b+k<r
    · simp [f1,rd6_0,rd6_1,rd6_2,rd6_3,rd6_4,rd6_5,c1,c2,c3,c4,c5,w1,c6]
      exact step (fun _=>rfl) fun h=>absurd (by unfold ruleB;omega) h
    by_cases c7:2*f<r
    · simp [f1,rd6_0,rd6_1,rd6_2,rd6_3,rd6_4,rd6_5,c1,c2,c3,c4,c5,w1,c6,w2,c7]
      exact step (fun _=>rfl) fun h=>absurd (by unfold ruleB;omega) h
    · simp [f1,rd6_0,rd6_1,rd6_2,rd6_3,rd6_4,rd6_5,c1,c2,c3,c4,c5,w1,c6,w2,c7]
      exact step (fun h=>absurd h (by unfold ruleB;omega)) fun _=>rfl
def okS (s:List Int)(i:Nat):Bool:=decide (1≤s.getD i 0∧s.getD i 0≤200)&&(decide (i=0)||decide (s.getD (i-1) 0<s.getD i 0))
def bstS (s:List Int)(r:Int):Nat→Int
  | 0=>0
  | i+1=>if s.getD i 0≤r then s.getD i 0 else bstS s r i
def blkP (s:List Int)(r h:Int):Int×Int×Int :=
  if h≠0 then (0,0,h) else if (List.range s.length).all (okS s)=true then (if bstS s r s.length=0 then (0,0,5) else (bstS s r s.length,r-bstS s r s.length,0)) else (0,0,1)
theorem bstS_bd {r:Int}:∀{i:Nat},(∀j,j<i→okS s j=true)→0≤bstS s r i∧bstS s r i≤200
  | 0,_=>by simp [bstS]
  | i+1,h=>by
    have ih:=bstS_bd (r:=r) (i:=i) fun j hj=>h j (by omega)
    have h0:=h i (by omega)
    simp only [okS,Bool.and_eq_true,decide_eq_true_eq] at h0
    simp only [bstS]
    split<;>omega
theorem blk_bad {i:Nat}(hi:i<s.length)(h:okS s i=false):blkP s r 0=(0,0,1):=by
  unfold blkP
  rw [if_neg (by simp),if_neg]
  intro g
  have:=List.all_eq_true.1 g i (List.mem_range.2 hi)
  rw [h] at this;cases this
theorem blk_good (h:∀i,i<s.length→okS s i=true):blkP s r 0=if bstS s r s.length=0 then (0,0,5) else (bstS s r s.length,r-bstS s r s.length,0):=by
  unfold blkP
  rw [if_neg (by simp),if_pos (List.all_eq_true.2 fun i hi=>h i (List.mem_range.1 hi))]
def befS (s:List Int)(i:Nat):Int:=if i=0 then 0 else s.getD (i-1) 0
theorem head_zero (h:headE r f e b k n=0):1≤r∧r≤200:=by
  by_cases g:(List.range 6).all (hdOk [r,f,e,b,k,n])=true
  · exact (hd_all fun i hi=>List.all_eq_true.1 g i (List.mem_range.2 hi)).1
  · unfold headE at h
    rw [if_neg g] at h;cases h
theorem surf_Block (hs:SlV H v s)(hl:s.length≤1000)(hK:K (.tup [.int .i64 (blkP s r (headE r f e b k n)).1,.int .i64 (blkP s r (headE r f e b k n)).2.1,.int .i64 (blkP s r (headE r f e b k n)).2.2]) H):VCall tbl lim 44 [.agg (headV r f e b k n),v] H K:=by
  refine VCall_fn tbl_at44 rfl ?_
  simp [vf44,rd6]
  refine surf_ValidateHead ?_
  have hr0:=head_zero (r:=r) (f:=f) (e:=e) (b:=b) (k:=k) (n:=n)
  generalize headE r f e b k n=he at *
  by_cases h0:he=0
  case neg =>
    have e0:blkP s r he=(0,0,he):=if_pos h0
    rw [e0] at hK
    simp [h0]
    exact hK
  subst h0
  have hr:=hr0 rfl
  simp [hs.len]
  refine wLoop_up s.length (fun i fr L H'=>(fr 2=.lp 0 0∧fr 8=.int .i64 (bstS s r i)∧fr 9=.int .i64 (befS s i)∧fr 17=v∧fr 18=.int .i64 s.length∧fr 19=.int .i64 i)∧L=[headV r f e b k n]∧H'=H∧∀j,j<i→okS s j=true) ⟨by simp [bstS,befS],rfl,rfl,fun j h=>absurd h (by omega)⟩ ?_
  rintro i hi fr L H1 ⟨⟨f2,f8,f9,f17,f18,f19⟩,rfl,rfl,hall⟩
  simp [f2,f8,f9,f17,f18,f19]
  have hbd:=bstS_bd (r:=r) hall
  refine cond_dec (fun ht => ?_) fun hfl => ?_
  · have ht:i<s.length:=by omega
    have a1:=hs.addr (i:=(i:Int)) (by omega)
    simp only [Int.toNat_natCast] at a1
    have l1:=fun L=>hs.load (i:=i) ht (L:=L)
    have eo:okS s i=(decide (1≤s.getD i 0∧s.getD i 0≤200)&&decide (befS s i<s.getD i 0)):=by
      unfold okS befS
      rw [Bool.eq_iff_iff]
      simp only [Bool.and_eq_true,Bool.or_eq_true,decide_eq_true_eq]
      by_cases e0:i=0
      · simp [e0];omega
      · simp [e0]
    have hbad:=blk_bad (r:=r) ht
    have hn1:befS s (i+1)=s.getD i 0:=by simp [befS]
    have hn2:bstS s r (i+1)=if s.getD i 0≤r then s.getD i 0 else bstS s r i:=rfl
    rw [hn1,hn2]
    generalize s.getD i 0=x at *
    simp [f2,f8,f9,f17,f18,f19,a1,l1]
    refine surf_isSide ?_
    by_cases hx:1≤x∧x≤200
    case neg =>
      have d1:decide (1≤x∧x≤200)=false:=decide_eq_false hx
      rw [d1] at eo
      rw [hbad eo] at hK
      simp [d1]
      exact hK
    have d1:decide (1≤x∧x≤200)=true:=decide_eq_true hx
    by_cases hy:befS s i<x
    case neg =>
      have d2:decide (befS s i<x)=false:=decide_eq_false hy
      rw [d1,d2] at eo
      rw [hbad eo] at hK
      have d3:(x≤befS s i)=True:=eq_true (by omega)
      simp [d1,d3,f9]
      exact hK
    have d2:decide (befS s i<x)=true:=decide_eq_true hy
    have d3:(x≤befS s i)=False:=eq_false (by omega)
    rw [d1,d2] at eo
    have hall2:∀j,j<i+1→okS s j=true:=fun j hj=>by
      by_cases e':j=i
      · rw [e'];exact eo
      · exact hall j (by omega)
    by_cases hz:x≤r
    · simp (disch:=omega) [f2,f8,f9,f17,f18,f19,d1,d3,rd6_0,hz,wrap_i64]
      exact ⟨ht,hall2⟩
    · simp (disch:=omega) [f2,f8,f9,f17,f18,f19,d1,d3,rd6_0,hz,wrap_i64]
      exact ⟨ht,hall2⟩
  · have:i=s.length:=by omega
    subst this
    rw [blk_good hall] at hK
    generalize bstS s r s.length=bb at *
    by_cases hz:bb=0
    · subst hz
      simp [f2,f8] at hK ⊢
      exact hK
    · rw [if_neg hz] at hK
      simp (disch:=omega) [f2,f8,hz,rd6_0,wrap_i64]
      exact hK
theorem r02_Block (hs:SlV H v s) (hl:s.length≤1000) (hK:K (.tup [.int .i64 (blkP s r (headE r f e b k n)).1,.int .i64 (blkP s r (headE r f e b k n)).2.1,.int .i64 (blkP s r (headE r f e b k n)).2.2]) H):VCall tbl lim 45 [.agg (headV r f e b k n),v] H K:=by
  refine VCall_fn tbl_at45 rfl ?_
  simp [vf45,rd6]
  refine r02_ValidateHead ?_
  have hr0:=head_zero (r:=r) (f:=f) (e:=e) (b:=b) (k:=k) (n:=n)
  generalize headE r f e b k n=he at *
  by_cases h0:he=0
  case neg =>
    have e0:blkP s r he=(0,0,he):=if_pos h0
    rw [e0] at hK
    simp [h0]
    exact hK
  subst h0
  have hr:=hr0 rfl
  simp
  refine wLoop_up s.length (fun i fr L H'=>(fr 1=v∧fr 2=.lp 0 0∧fr 8=.int .i64 (bstS s r i)∧fr 9=.int .i64 i)∧L=[headV r f e b k n]∧H'=H∧∀j,j<i→okS s j=true) ⟨by simp [bstS],rfl,rfl,fun j h=>absurd h (by omega)⟩ ?_
  rintro i hi fr L H1 ⟨⟨f1,f2,f8,f9⟩,rfl,rfl,hall⟩
  simp [f1,f2,f8,f9,hs.len]
  have hbd:=bstS_bd (r:=r) hall
  refine cond_dec (fun ht => ?_) fun hfl => ?_
  · have ht:i<s.length:=by omega
    have a1:=hs.addr (i:=(i:Int)) (by omega)
    simp only [Int.toNat_natCast] at a1
    have l1:=fun L=>hs.load (i:=i) ht (L:=L)
    have hbad:=blk_bad (r:=r) ht
    have hn2:bstS s r (i+1)=if s.getD i 0≤r then s.getD i 0 else bstS s r i:=rfl
    rw [hn2]
    simp [f1,f2,f8,f9,a1,l1]
    refine r02_within ?_
    have eo:okS s i=(decide (1≤s.getD i 0∧s.getD i 0≤200)&&(decide (i=0)||decide (s.getD (i-1) 0<s.getD i 0))):=rfl
    by_cases hx:1≤s.getD i 0∧s.getD i 0≤200
    case neg =>
      have d1:decide (1≤s.getD i 0∧s.getD i 0≤200)=false:=decide_eq_false hx
      rw [d1] at eo
      rw [hbad eo] at hK
      simp [d1]
      exact hK
    have d1:decide (1≤s.getD i 0∧s.getD i 0≤200)=true:=decide_eq_true hx
    by_cases hi0:i=0
    · have eo1:okS s i=true:=by rw [eo,d1,decide_eq_true hi0];rfl
      have hall2:∀j,j<i+1→okS s j=true:=fun j hj=>by
        by_cases e':j=i
        · rw [e'];exact eo1
        · exact hall j (by omega)
      clear eo hbad
      generalize s.getD i 0=x at *
      have dz:((0:Int)<(i:Int))=False:=eq_false (by omega)
      have dz2:(0<i)=False:=eq_false (by omega)
      by_cases hz:x≤r
      · simp (disch:=omega) [f1,f2,f8,f9,a1,l1,d1,dz,dz2,rd6_0,hz,wrap_i64]
        exact ⟨ht,hall2⟩
      · simp (disch:=omega) [f1,f2,f8,f9,a1,l1,d1,dz,dz2,rd6_0,hz,wrap_i64]
        exact ⟨ht,hall2⟩
    have a2:=hs.addr (i:=(i:Int)-1) (by omega)
    have et:((i:Int)-1).toNat=i-1:=by omega
    rw [et] at a2
    have l2:=fun L=>hs.load (i:=i-1) (by omega) (L:=L)
    have dz:((0:Int)<(i:Int))=True:=eq_true (by omega)
    have dz2:(0<i)=True:=eq_true (by omega)
    by_cases hy:s.getD (i-1) 0<s.getD i 0
    case neg =>
      have d2:decide (s.getD (i-1) 0<s.getD i 0)=false:=decide_eq_false hy
      rw [d1,d2,decide_eq_false hi0] at eo
      rw [hbad eo] at hK
      clear eo hbad
      have d3:(s.getD i 0≤s.getD (i-1) 0)=True:=eq_true (by omega)
      generalize s.getD i 0=x at *
      generalize s.getD (i-1) 0=y at *
      simp (disch:=omega) [f1,f2,f8,f9,a1,a2,l1,l2,d1,d3,dz,dz2,wrap_i64]
      exact hK
    have d2:decide (s.getD (i-1) 0<s.getD i 0)=true:=decide_eq_true hy
    have d3:(s.getD i 0≤s.getD (i-1) 0)=False:=eq_false (by omega)
    rw [d1,d2,Bool.or_true,Bool.and_true] at eo
    have hall2:∀j,j<i+1→okS s j=true:=fun j hj=>by
      by_cases e':j=i
      · rw [e'];exact eo
      · exact hall j (by omega)
    clear eo hbad d2
    generalize s.getD i 0=x at *
    generalize s.getD (i-1) 0=y at *
    by_cases hz:x≤r
    · simp (disch:=omega) [f1,f2,f8,f9,a1,a2,l1,l2,d1,d3,dz,dz2,rd6_0,hz,wrap_i64]
      exact ⟨ht,hall2⟩
    · simp (disch:=omega) [f1,f2,f8,f9,a1,a2,l1,l2,d1,d3,dz,dz2,rd6_0,hz,wrap_i64]
      exact ⟨ht,hall2⟩
  · have:i=s.length:=by omega
    subst this
    rw [blk_good hall] at hK
    generalize bstS s r s.length=bb at *
    by_cases hz:bb=0
    · subst hz
      simp [f1,f2,f8,f9] at hK ⊢
      exact hK
    · rw [if_neg hz] at hK
      simp (disch:=omega) [f1,f2,f8,f9,hz,rd6_0,wrap_i64]
      exact hK
theorem law_CapHeads (hs:SlV H v s)(hlim:lim≤H.length)(i0:I64 r)(i1:I64 f)(i2:I64 e)(i3:I64 b)(i4:I64 k)(i5:I64 n)(hK:∀H',K (.bool true) H'):VCall tbl lim 13 [.agg (headV r f e b k n),v] H K:=by
  refine VCall_fn tbl_at13 rfl ?_
  by_cases hl:300<s.length
  · have d:((300:Int)<(s.length:Int))=True:=eq_true (by omega)
    have d2:(300<s.length)=True:=eq_true hl
    simp [vf13,hs.len,d,d2]
    refine cp_known hlim fun H' _ => ?_
    simp
    exact hK _
  · have d:((300:Int)<(s.length:Int))=False:=eq_false (by omega)
    have d2:(300<s.length)=False:=eq_false hl
    simp [vf13,hs.len,hs.stor,d,d2,rd6]
    refine surf_Block hs (by omega) ?_
    simp [rd6,hs.stor]
    refine r02_Block hs (by omega) ?_
    simp [rd6]
    refine surf_ValidateHead ?_
    simp [rd6]
    refine r02_ValidateHead ?_
    simp
    refine cp_known (Nat.le_refl _) fun H' _ => ?_
    simp
    exact hK _
end
end Go.Proofs.Ytclghkegfpcdpaa.Vm
