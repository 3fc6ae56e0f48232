/- Classes of numbers and how many there are; the cycles of a permutation; two numbers exchanged before it. Pure. -/
import Derived.Test.YtgjlhdggllakbaaGreatDoorVmRec
import Derived.Test.YtgjlhdggllakbaaGreatDoorVmTab
import Derived.Test.YtgjlhdggllakbaaGreatDoorVmMove
import Derived.KernelRfl
import Derived.Test.YtgjlhdggllakbaaGreatDoorVmArg
import Derived.Lib.SplitLaws
import Derived.Lib.AtoiTie
import Derived.Lib.AtoiAllCases
import Derived.Lib.ItoaMem
import Derived.Lib.IndexBytes
import Derived.Lib.IndexMore
namespace Go.Proofs.YtgjlhdggllakbaaGreatDoor.Vm
set_option linter.unusedVariables false
set_option linter.unusedSimpArgs false
structure Eqv (E:Nat→Nat→Prop):Prop where
  rf:∀a,E a a
  sy:∀{a b},E a b→E b a
  tr:∀{a b c},E a b→E b c→E a c
section
variable {E F:Nat→Nat→Prop}{N:Nat}
def LeE (E:Nat→Nat→Prop)(c:Nat):Prop:=∀d,d<c→¬E c d
theorem Eqv.low (h:Eqv E):∀c,∃d,d≤c∧E c d∧LeE E d:=by
  intro c
  induction c using Nat.strongRecOn with
  | _ c ih =>
    by_cases hl:LeE E c
    · exact ⟨c,Nat.le_refl _,h.rf c,hl⟩
    · have:∃d,d<c∧E c d:=by
        apply Classical.byContradiction
        intro hn
        exact hl fun d hd he=>hn ⟨d,hd,he⟩
      obtain ⟨d,hd,he⟩:=this
      obtain ⟨e,h1,h2,h3⟩:=ih d hd
      exact ⟨e,by omega,h.tr he h2,h3⟩
theorem Eqv.least_eq (h:Eqv E){c d:Nat}(hc:LeE E c)(hd:LeE E d)(he:E c d):c=d:=by
  rcases Nat.lt_trichotomy c d with hlt | he' | hlt
  · exact absurd (h.sy he) (hd c hlt)
  · exact he'
  · exact absurd he (hc d hlt)
open Classical in
noncomputable def minsE (E:Nat→Nat→Prop)(N:Nat):List Nat:=(List.range N).filter fun c=>decide (LeE E c)
noncomputable def nCls (E:Nat→Nat→Prop)(N:Nat):Nat:=(minsE E N).length
theorem mem_mins {c:Nat}:c∈minsE E N↔c<N∧LeE E c:=by
  simp [minsE]
theorem mins_nodup:(minsE E N).Nodup:=List.Nodup.sublist List.filter_sublist List.nodup_range
theorem perm_nodup {α:Type}{l m:List α}(hl:l.Nodup)(hm:m.Nodup)(h:∀x,x∈l↔x∈m):l.Perm m:=(List.perm_ext_iff_of_nodup hl hm).2 h
structure Reps (E:Nat→Nat→Prop)(N:Nat)(R:List Nat):Prop where
  lt:∀r,r∈R→r<N
  dis:R.Pairwise fun a b=>¬E a b
  cov:∀c,c<N→∃r,r∈R∧E c r
open Classical in
noncomputable def lowE (E:Nat→Nat→Prop)(c:Nat):Nat:=if h:∃d,d≤c∧E c d∧LeE E d then Classical.choose h else c
theorem lowE_spec (h:Eqv E)(c:Nat):lowE E c≤c∧E c (lowE E c)∧LeE E (lowE E c):=by
  have hx:=h.low c
  unfold lowE
  rw [dif_pos hx]
  exact Classical.choose_spec hx
theorem lowE_eq (h:Eqv E){c d:Nat}(he:E c d):lowE E c=lowE E d:=by
  obtain ⟨_,a2,a3⟩:=lowE_spec h c
  obtain ⟨_,b2,b3⟩:=lowE_spec h d
  exact h.least_eq a3 b3 (h.tr (h.sy a2) (h.tr he b2))
theorem lowE_iff (h:Eqv E){c d:Nat}:lowE E c=lowE E d↔E c d:=by
  refine ⟨fun e => ?_,lowE_eq h⟩
  obtain ⟨_,a2,a3⟩:=lowE_spec h c
  obtain ⟨_,b2,b3⟩:=lowE_spec h d
  rw [e] at a2
  exact h.tr a2 (h.sy b2)
theorem lowE_min (h:Eqv E){c:Nat}(hc:LeE E c):lowE E c=c:=by
  obtain ⟨_,a2,a3⟩:=lowE_spec h c
  exact (h.least_eq hc a3 a2).symm
theorem Reps.perm (h:Eqv E){R:List Nat}(hr:Reps E N R):(R.map (lowE E)).Perm (minsE E N):=by
  refine perm_nodup ?_ mins_nodup fun x => ?_
  · rw [List.Nodup,List.pairwise_map]
    exact hr.dis.imp fun hne e=>hne ((lowE_iff h).1 e)
  · rw [mem_mins,List.mem_map]
    constructor
    · rintro ⟨r,h1,rfl⟩
      have:=lowE_spec h r
      have:=hr.lt r h1
      exact ⟨by omega,(lowE_spec h r).2.2⟩
    · rintro ⟨h1,h2⟩
      obtain ⟨r,h3,h4⟩:=hr.cov x h1
      exact ⟨r,h3,by rw [←lowE_eq h h4,lowE_min h h2]⟩
theorem Reps.len (h:Eqv E){R:List Nat}(hr:Reps E N R):R.length=nCls E N:=by
  have:=(hr.perm h).length_eq
  simpa [nCls] using this
theorem Reps.mins (h:Eqv E):Reps E N (minsE E N) where
  lt:=fun r hr=>(mem_mins.1 hr).1
  dis:=(mins_nodup (E:=E) (N:=N)).imp_of_mem fun {a b} ha hb hne he=>hne (h.least_eq (mem_mins.1 ha).2 (mem_mins.1 hb).2 he)
  cov:=fun c hc=>by
    obtain ⟨a1,a2,a3⟩:=lowE_spec h c
    exact ⟨lowE E c,mem_mins.2 ⟨by omega,a3⟩,a2⟩
def merE (E:Nat→Nat→Prop)(a b:Nat):Nat→Nat→Prop:=fun c d=>E c d∨(E c a∧E b d)∨(E c b∧E a d)
theorem merE_eqv (h:Eqv E)(a b:Nat):Eqv (merE E a b) where
  rf:=fun x=>Or.inl (h.rf x)
  sy:=by
    rintro x y (h1 | ⟨h1,h2⟩ | ⟨h1,h2⟩)
    · exact Or.inl (h.sy h1)
    · exact Or.inr (Or.inr ⟨h.sy h2,h.sy h1⟩)
    · exact Or.inr (Or.inl ⟨h.sy h2,h.sy h1⟩)
  tr:=by
    rintro x y z (h1 | ⟨h1,h2⟩ | ⟨h1,h2⟩) (h3 | ⟨h3,h4⟩ | ⟨h3,h4⟩)
    · exact Or.inl (h.tr h1 h3)
    · exact Or.inr (Or.inl ⟨h.tr h1 h3,h4⟩)
    · exact Or.inr (Or.inr ⟨h.tr h1 h3,h4⟩)
    · exact Or.inr (Or.inl ⟨h1,h.tr h2 h3⟩)
    · exact Or.inr (Or.inl ⟨h1,h4⟩)
    · exact Or.inl (h.tr h1 h4)
    · exact Or.inr (Or.inr ⟨h1,h.tr h2 h3⟩)
    · exact Or.inl (h.tr h1 h4)
    · exact Or.inr (Or.inr ⟨h1,h4⟩)
end
def itN (f:Nat→Nat):Nat→Nat→Nat
  | 0,c=>c
  | k+1,c=>f (itN f k c)
theorem itN_add (f:Nat→Nat)(j k c:Nat):itN f (j+k) c=itN f j (itN f k c):=by
  induction j with
  | zero=>simp [itN]
  | succ j ih=>rw [Nat.succ_add];simp [itN,ih]
structure PrN (N:Nat)(f:Nat→Nat):Prop where
  lt:∀c,c<N→f c<N
  inj:∀c d,c<N→d<N→f c=f d→c=d
section
variable {N:Nat}{f g:Nat→Nat}
theorem PrN.it (h:PrN N f){c:Nat}(hc:c<N):∀k,itN f k c<N
  | 0=>hc
  | k+1=>h.lt _ (h.it hc k)
theorem PrN.back (h:PrN N f){c:Nat}(hc:c<N):∀i k,itN f (i+k) c=itN f i c→itN f k c=c
  | 0,k,e=>by simpa [itN] using e
  | i+1,k,e=>by
    rw [Nat.succ_add] at e
    simp only [itN] at e
    exact h.back hc i k (h.inj _ _ (h.it hc _) (h.it hc _) e)
theorem few_below:∀(m:Nat) (l:List Nat),l.Nodup→(∀x∈l,x<m)→l.length≤m
  | 0,l,_,h=>by
    cases l with
    | nil=>simp
    | cons x l=>have:=h x (by simp);omega
  | m + 1,l,hn,h=>by
    by_cases hm:m∈l
    · have h1:=few_below m (l.erase m) (hn.erase m) (fun x hx=>by
        have h2:=h x (List.mem_of_mem_erase hx)
        have h3:x≠m:=fun e=>by
          subst e
          exact (List.Nodup.mem_erase_iff hn).1 hx |>.1 rfl
        omega)
      have:=List.length_erase_of_mem hm
      have:0<l.length:=List.length_pos_of_mem hm
      omega
    · have:=few_below m l hn (fun x hx=>by
        have h2:=h x hx
        have h3:x≠m:=fun e=>hm (e ▸ hx)
        omega)
      omega
theorem PrN.per (h:PrN N f){c:Nat}(hc:c<N):∃k,0<k∧k≤N∧itN f k c=c:=by
  apply Classical.byContradiction
  intro hn
  have hnd:((List.range (N+1)).map fun i=>itN f i c).Nodup:=by
    rw [List.Nodup,List.pairwise_map]
    refine List.pairwise_lt_range.imp_of_mem ?_
    intro i j hi hj hlt e
    have hj:=List.mem_range.1 hj
    refine hn ⟨j-i,by omega,by omega,?_⟩
    refine h.back hc i (j-i) ?_
    rw [show i+(j-i)=j by omega];exact e.symm
  have:=few_below N _ hnd (by
    intro x hx
    obtain ⟨i,_,rfl⟩:=List.mem_map.1 hx
    exact h.it hc i)
  simp at this
  omega
def Orb (N:Nat)(f:Nat→Nat):Nat→Nat→Prop:=fun c d=>c=d∨(c<N∧d<N∧∃k,itN f k c=d)
theorem it_per {c k:Nat}(h:itN f k c=c):∀m,itN f (m*k) c=c
  | 0=>by simp [itN]
  | m+1=>by rw [Nat.add_mul,Nat.one_mul,itN_add,h,it_per h m]
theorem PrN.eqv (h:PrN N f):Eqv (Orb N f) where
  rf:=fun _=>Or.inl rfl
  sy:=by
    rintro a b (rfl | ⟨ha,hb,k,hk⟩)
    · exact Or.inl rfl
    · obtain ⟨m,h1,_,h2⟩:=h.per ha
      refine Or.inr ⟨hb,ha,(k+1)*m-k,?_⟩
      rw [←hk,←itN_add]
      have:k≤(k+1)*m:=Nat.le_trans (by omega) (Nat.le_mul_of_pos_right (k+1) h1)
      rw [show (k+1)*m-k+k=(k+1)*m by omega]
      exact it_per h2 _
  tr:=by
    rintro a b c (rfl | ⟨ha,hb,k,hk⟩) (rfl | ⟨hb',hc,j,hj⟩)
    · exact Or.inl rfl
    · exact Or.inr ⟨hb',hc,j,hj⟩
    · exact Or.inr ⟨ha,hb,k,hk⟩
    · exact Or.inr ⟨ha,hc,j+k,by rw [itN_add,hk,hj]⟩
theorem PrN.one (h:PrN N f){c:Nat}(hc:c<N):Orb N f c (f c):=Or.inr ⟨hc,h.lt c hc,1,rfl⟩
theorem Orb.sub {E:Nat→Nat→Prop}(hE:Eqv E)(h:PrN N f)(hs:∀c,c<N→E c (f c)){c d:Nat}(ho:Orb N f c d):E c d:=by
  rcases ho with rfl | ⟨hc,hd,k,rfl⟩
  · exact hE.rf _
  · clear hd
    induction k with
    | zero=>exact hE.rf _
    | succ k ih=>exact hE.tr ih (hs _ (h.it hc k))
def swN (a b c:Nat):Nat:=if c=a then b else if c=b then a else c
theorem swN_lt {a b c : Nat} (ha : a < N) (hb : b < N) (hc : c < N) : swN a b c < N := by unfold swN;split;· exact hb
                                                                                          · split;· exact ha
                                                                                            · exact hc
theorem swN_sw {a b c:Nat}:swN a b (swN a b c)=c:=by
  unfold swN
  by_cases h1:c=a
  · subst h1;simp only [if_true];split<;>simp_all
  · by_cases h2:c=b
    · subst h2;simp [h1]
    · simp [h1,h2]
theorem swN_a {a b:Nat}:swN a b a=b:=by simp [swN]
theorem swN_b {a b:Nat}:swN a b b=a:=by unfold swN;split<;>simp_all
theorem swN_o {a b c:Nat}(h1:c≠a)(h2:c≠b):swN a b c=c:=by simp [swN,h1,h2]
theorem PrN.sw (h:PrN N f){a b:Nat}(ha:a<N)(hb:b<N):PrN N fun c=>f (swN a b c) where
  lt:=fun c hc=>h.lt _ (swN_lt ha hb hc)
  inj:=fun c d hc hd e=>by
    have:=h.inj _ _ (swN_lt ha hb hc) (swN_lt ha hb hd) e
    rw [←swN_sw (a:=a) (b:=b) (c:=c),this,swN_sw]
end
end Go.Proofs.YtgjlhdggllakbaaGreatDoor.Vm
namespace Go.Proofs.YtgjlhdggllakbaaGreatDoor.Vm
set_option linter.unusedVariables false
set_option linter.unusedSimpArgs false
def alf:List (Nat×Nat)→Nat→Nat
  | [],c=>c
  | s :: L,c=>alf L (swN s.1 s.2 c)
inductive SmOk (N:Nat):List (Nat×Nat)→Prop
  | nil:SmOk N []
  | cons {s:Nat×Nat} {L:List (Nat×Nat)}:SmOk N L→s.1<N→s.2<N→s.1≠s.2→(∀t∈L,t.1≠s.1∧t.1≠s.2∧t.2≠s.1∧t.2≠s.2)→SmOk N (s :: L)
section
variable {N P:Nat}{nx pc:Nat→Nat}{L:List (Nat×Nat)}
theorem alf_off:∀{L:List (Nat×Nat)} {c:Nat},(∀t∈L,t.1≠c∧t.2≠c)→alf L c=c
  | [],c,_=>rfl
  | s :: L,c,h=>by
    have h1:=h s (by simp)
    simp only [alf]
    rw [swN_o (fun e=>h1.1 e.symm) (fun e=>h1.2 e.symm)]
    exact alf_off fun t ht=>h t (List.mem_cons_of_mem _ ht)
theorem SmOk.pr (h:SmOk N L):PrN N (alf L):=by
  induction h with
  | nil=>exact ⟨fun c hc=>hc,fun c d _ _ e=>e⟩
  | cons h h1 h2 h3 h4 ih=>exact ih.sw h1 h2
theorem alf_cons {s:Nat×Nat}(h:SmOk N (s :: L)){c:Nat}:alf (s :: L) c=if c=s.1 then s.2 else if c=s.2 then s.1 else alf L c:=by
  cases h with
  | cons h h1 h2 h3 h4 =>
    have e1:alf L s.1=s.1:=alf_off fun t ht=>⟨(h4 t ht).1,(h4 t ht).2.2.1⟩
    have e2:alf L s.2=s.2:=alf_off fun t ht=>⟨(h4 t ht).2.1,(h4 t ht).2.2.2⟩
    simp only [alf]
    by_cases a1:c=s.1
    · subst a1;rw [swN_a,e2,if_pos rfl]
    · by_cases a2:c=s.2
      · subst a2;rw [swN_b,e1,if_neg a1,if_pos rfl]
      · rw [swN_o a1 a2,if_neg a1,if_neg a2]
theorem SmOk.inv (h:SmOk N L) {c:Nat} (hc:c<N):alf L (alf L c)=c:=by
  induction h generalizing c with
  | nil=>rfl
  | @cons s L h h1 h2 h3 h4 ih =>
    have hh:SmOk N (s :: L):=.cons h h1 h2 h3 h4
    have e1:alf L s.1=s.1:=alf_off fun t ht=>⟨(h4 t ht).1,(h4 t ht).2.2.1⟩
    have e2:alf L s.2=s.2:=alf_off fun t ht=>⟨(h4 t ht).2.1,(h4 t ht).2.2.2⟩
    rw [alf_cons hh (c:=c)]
    by_cases a1:c=s.1
    · subst a1;rw [if_pos rfl,alf_cons hh,if_neg (fun e=>h3 e.symm),if_pos rfl]
    · by_cases a2:c=s.2
      · subst a2;rw [if_neg a1,if_pos rfl,alf_cons hh,if_pos rfl]
      · rw [if_neg a1,if_neg a2,alf_cons hh]
        have b1:alf L c≠s.1:=fun e=>a1 (h.pr.inj _ _ hc h1 (by rw [e,e1]))
        have b2:alf L c≠s.2:=fun e=>a2 (h.pr.inj _ _ hc h2 (by rw [e,e2]))
        rw [if_neg b1,if_neg b2]
        exact ih hc
def freeN (L:List (Nat×Nat))(c:Nat):Bool:=decide (alf L c=c)
def freesN (L:List (Nat×Nat))(N:Nat):List Nat:=(List.range N).filter (freeN L)
def prtE (pc:Nat→Nat):List (Nat×Nat)→Nat→Nat→Prop
  | []=>fun a b=>a=b
  | s :: L=>merE (prtE pc L) (pc s.1) (pc s.2)
theorem prtE_eqv:∀{L:List (Nat×Nat)},Eqv (prtE pc L)
  | []=>⟨fun _=>rfl,fun h=>h.symm,fun h g=>h.trans g⟩
  | s :: L=>merE_eqv prtE_eqv _ _
theorem prtE_more {s:Nat×Nat}{a b:Nat}(h:prtE pc L a b):prtE pc (s :: L) a b:=Or.inl h
def nuN (nx:Nat→Nat)(L:List (Nat×Nat))(c:Nat):Nat:=nx (alf L c)
theorem nu_pr (hn:PrN N nx)(h:SmOk N L):PrN N (nuN nx L) where
  lt:=fun c hc=>hn.lt _ (h.pr.lt c hc)
  inj:=fun c d hc hd e=>h.pr.inj _ _ hc hd (hn.inj _ _ (h.pr.lt c hc) (h.pr.lt d hd) e)
end
end Go.Proofs.YtgjlhdggllakbaaGreatDoor.Vm
namespace Go.Proofs.YtgjlhdggllakbaaGreatDoor.Vm
set_option linter.unusedVariables false
set_option linter.unusedSimpArgs false
section
variable {N P:Nat}{nx pc:Nat→Nat}{L:List (Nat×Nat)}
structure WkN (nx:Nat→Nat)(L:List (Nat×Nat))(c k d:Nat):Prop where
  it:itN (nuN nx L) k c=d
  nf:∀i,i<k→alf L (itN (nuN nx L) i c)≠itN (nuN nx L) i c
theorem WkN.zero {c:Nat}:WkN nx L c 0 c:=⟨rfl,fun i hi=>by omega⟩
theorem WkN.one {c:Nat}(h:alf L c≠c):WkN nx L c 1 (nuN nx L c):=⟨rfl,fun i hi=>by
  have:i=0:=by omega
  subst this;exact h⟩
theorem WkN.trans {c d e j k:Nat}(h:WkN nx L c k d)(g:WkN nx L d j e):WkN nx L c (j+k) e where
  it:=by rw [itN_add,h.it,g.it]
  nf:=fun i hi=>by
    by_cases hk:i<k
    · exact h.nf i hk
    · have:=g.nf (i-k) (by omega)
      rw [←h.it,←itN_add,show i-k+k=i by omega] at this
      exact this
theorem WkN.cut {c d e j k:Nat}(h:WkN nx L d k c)(g:WkN nx L d j e)(hk:k≤j):WkN nx L c (j-k) e where
  it:=by rw [←h.it,←itN_add,show j-k+k=j by omega,g.it]
  nf:=fun i hi=>by
    have:=g.nf (i+k) (by omega)
    rw [itN_add,h.it] at this
    exact this
theorem WkN.meet (hp:PrN N (nuN nx L)){c d e j k:Nat}(hc:c<N)(he:e<N)(h:WkN nx L c k d)(g:WkN nx L e j d)(hk:k≤j):WkN nx L e (j-k) c where
  it:=by
    have h1:itN (nuN nx L) k (itN (nuN nx L) (j-k) e)=itN (nuN nx L) k c:=by rw [←itN_add,show k+(j-k)=j by omega,g.it,h.it]
    have inj:∀k a b,a<N→b<N→itN (nuN nx L) k a=itN (nuN nx L) k b→a=b:=by
      intro k
      induction k with
      | zero=>intro a b _ _ e;exact e
      | succ k ih=>intro a b ha hb e;exact ih a b ha hb (hp.inj _ _ (hp.it ha k) (hp.it hb k) e)
    exact inj k _ _ (hp.it he _) hc h1
  nf:=fun i hi=>g.nf i (by omega)
def ptE (N:Nat)(nx:Nat→Nat)(L:List (Nat×Nat)):Nat→Nat→Prop:=fun c d=>c=d∨(c<N∧d<N∧∃k,WkN nx L c k d∨WkN nx L d k c)
theorem ptE_eqv (hp:PrN N (nuN nx L)):Eqv (ptE N nx L) where
  rf:=fun _=>Or.inl rfl
  sy:=by
    rintro a b (rfl | ⟨ha,hb,k,h | h⟩)
    · exact Or.inl rfl
    · exact Or.inr ⟨hb,ha,k,Or.inr h⟩
    · exact Or.inr ⟨hb,ha,k,Or.inl h⟩
  tr := by
    rintro a b c (rfl | ⟨ha,hb,k,h⟩) (rfl | ⟨hb',hc,j,g⟩)
    · exact Or.inl rfl
    · exact Or.inr ⟨hb',hc,j,g⟩
    · exact Or.inr ⟨ha,hb,k,h⟩
    · refine Or.inr ⟨ha,hc,?_⟩
      rcases h with h | h<;>rcases g with g | g
      · exact ⟨_,Or.inl (h.trans g)⟩
      · rcases Nat.le_total k j with hk | hk
        · exact ⟨_,Or.inr (WkN.meet hp ha hc h g hk)⟩
        · exact ⟨_,Or.inl (WkN.meet hp hc ha g h hk)⟩
      · rcases Nat.le_total k j with hk | hk
        · exact ⟨_,Or.inl (h.cut g hk)⟩
        · exact ⟨_,Or.inr (g.cut h hk)⟩
      · exact ⟨_,Or.inr (g.trans h)⟩
def InnN (N:Nat)(nx:Nat→Nat)(L:List (Nat×Nat))(c:Nat):Prop:=∀d,ptE N nx L c d→alf L d≠d
theorem InnN.iff (hp:PrN N (nuN nx L)){c d:Nat}(h:ptE N nx L c d):InnN N nx L c↔InnN N nx L d :=
  ⟨fun g e he=>g e ((ptE_eqv hp).tr h he),fun g e he=>g e ((ptE_eqv hp).tr ((ptE_eqv hp).sy h) he)⟩
open Classical in
noncomputable def rnN (N:Nat)(nx:Nat→Nat)(L:List (Nat×Nat))(c:Nat):Nat:=if h:∃n,n<N∧(alf L (itN (nuN nx L) n c)=itN (nuN nx L) n c∨itN (nuN nx L) (n+1) c=c)∧∀i,i<n→alf L (itN (nuN nx L) i c)≠itN (nuN nx L) i c∧itN (nuN nx L) (i+1) c≠c then Classical.choose h else 0
noncomputable def ringN (N:Nat)(nx:Nat→Nat)(L:List (Nat×Nat))(c:Nat):List Nat:=(List.range (rnN N nx L c+1)).map fun i=>itN (nuN nx L) i c
def StaN (N:Nat)(nx:Nat→Nat)(L:List (Nat×Nat))(c:Nat):Prop:=∀x,x<N→nuN nx L x=c→alf L x=x
open Classical in
noncomputable def memE (E:Nat→Nat→Prop)(N c:Nat):List Nat:=(List.range N).filter fun d=>decide (E c d)
open Classical in
noncomputable def innMins (N:Nat)(nx:Nat→Nat)(L:List (Nat×Nat)):List Nat:=(minsE (ptE N nx L) N).filter fun c=>decide (InnN N nx L c)
open Classical in
noncomputable def stasN (N:Nat)(nx:Nat→Nat)(L:List (Nat×Nat)):List Nat:=(List.range N).filter fun c=>decide (StaN N nx L c)
noncomputable def sgN (N:Nat)(nx:Nat→Nat)(L:List (Nat×Nat))(s:Nat):Nat:=if alf L s=s then itN (nuN nx L) (rnN N nx L (nuN nx L s)) (nuN nx L s) else s
noncomputable def firstsN (N:Nat)(nx:Nat→Nat)(L:List (Nat×Nat)):List Nat:=(minsE (Orb N (sgN N nx L)) N).filter (freeN L)
open Classical in
noncomputable def perN (N:Nat)(f:Nat→Nat)(c:Nat):Nat:=if h:∃m,m≤N∧(0<m∧itN f m c=c)∧∀j,j<m→¬(0<j∧itN f j c=c) then Classical.choose h else 1
noncomputable def lpN (N:Nat)(f:Nat→Nat)(c:Nat):List Nat:=(List.range (perN N f c)).map fun i=>itN f i c
noncomputable def loopsN (N:Nat)(nx:Nat→Nat)(L:List (Nat×Nat)):List (List Nat):=(firstsN N nx L).map (lpN N (sgN N nx L))
end
end Go.Proofs.YtgjlhdggllakbaaGreatDoor.Vm
namespace Go.Proofs.YtgjlhdggllakbaaGreatDoor.Vm
set_option linter.unusedVariables false
set_option linter.unusedSimpArgs false
attribute [-simp] List.getD_eq_getElem?_getD
structure Sid where
  l:Int
  a:Int
  n:Int
  b:Int
  p:Int
  deriving Inhabited
structure Pc where
  s:List Int
  a:List Int
  deriving Inhabited
structure Sm where
  A:Int
  I:Int
  B:Int
  J:Int
  deriving Inhabited
def ksN (pcs:List Pc)(q:Nat):Nat:=(pcs.getD q default).s.length
def offN (pcs:List Pc):Nat→Nat
  | 0=>0
  | q+1=>offN pcs q+ksN pcs q
def sidE (o:Nat)(p:Pc)(i:Nat):Sid:=⟨p.s.getD i 0,p.a.getD i 0,((o+(i+1) % p.s.length:Nat):Int),((o+(i+p.s.length-1) % p.s.length:Nat):Int),-1⟩
def basT (pcs:List Pc):Nat→List Sid
  | 0=>[]
  | q+1=>basT pcs q++(List.range (ksN pcs q)).map (sidE (offN pcs q) (pcs.getD q default))
def pcT (pcs:List Pc):Nat→List Nat
  | 0=>[]
  | q+1=>pcT pcs q++(List.range (ksN pcs q)).map fun _=>q
section
variable {pcs:List Pc}
theorem basT_len:∀{q:Nat},(basT pcs q).length=offN pcs q
  | 0=>rfl
  | q+1=>by simp [basT,offN,basT_len (q:=q)]
theorem off_step {q:Nat}:offN pcs (q+1)=offN pcs q+ksN pcs q:=rfl
theorem off_mono:∀{p q:Nat},p≤q→offN pcs p≤offN pcs q
  | p, 0, h => by have:p=0:=by omega
                  subst this;exact Nat.le_refl _
  | p,q+1,h=>by
    rcases Nat.lt_or_ge p (q+1) with h1 | h1
    · have:=off_mono (p:=p) (q:=q) (by omega)
      rw [off_step];omega
    · have:p=q+1:=by omega
      subst this;exact Nat.le_refl _
theorem off_loc:∀{p i:Nat},i<offN pcs p→∃q j,q<p∧j<ksN pcs q∧i=offN pcs q+j
  | 0,i,h=>by simp [offN] at h
  | p + 1,i,h=>by
    rw [off_step] at h
    rcases Nat.lt_or_ge i (offN pcs p) with h1 | h1
    · obtain ⟨q,j,a,b,c⟩:=off_loc h1
      exact ⟨q,j,by omega,b,c⟩
    · exact ⟨p,i-offN pcs p,by omega,by omega,by omega⟩
theorem off_lt {p q j:Nat}(hq:q<p)(hj:j<ksN pcs q):offN pcs q+j<offN pcs p:=by
  have:=off_mono (pcs:=pcs) (p:=q+1) (q:=p) (by omega)
  rw [off_step] at this;omega
theorem off_inj {q j q' j':Nat}(hj:j<ksN pcs q)(hj':j'<ksN pcs q')(h:offN pcs q+j=offN pcs q'+j'):q=q'∧j=j':=by
  rcases Nat.lt_trichotomy q q' with h1 | h1 | h1
  · have:=off_lt h1 hj;omega
  · subst h1;exact ⟨rfl,by omega⟩
  · have:=off_lt h1 hj';omega
theorem getD_lt {α:Type}{d:α}{l m:List α}{i:Nat}(h:i<l.length):(l++m).getD i d=l.getD i d:=by
  rw [List.getD_eq_getElem?_getD,List.getD_eq_getElem?_getD,List.getElem?_append_left h]
theorem getD_ge {α:Type}{d:α}{l m:List α}{i j:Nat}(h:i=l.length+j):(l++m).getD i d=m.getD j d:=by
  subst h
  rw [List.getD_eq_getElem?_getD,List.getD_eq_getElem?_getD,List.getElem?_append_right (by omega)]
  congr 2;omega
theorem getD_mapR {α:Type}{d:α}{g:Nat→α}{n i:Nat}(h:i<n):((List.range n).map g).getD i d=g i:=by
  simp [List.getD_eq_getElem?_getD,h]
theorem bas_get:∀{p q j:Nat},q<p→j<ksN pcs q→(basT pcs p).getD (offN pcs q+j) default=sidE (offN pcs q) (pcs.getD q default) j
  | 0,q,j,h,_=>by omega
  | p + 1,q,j,h,hj=>by
    rcases Nat.lt_or_ge q p with h1 | h1
    · rw [basT,getD_lt (by rw [basT_len];exact off_lt h1 hj),bas_get h1 hj]
    · have:q=p:=by omega
      subst this
      rw [basT,getD_ge (j:=j) (by rw [basT_len]),getD_mapR hj]
def nsN (pcs:List Pc):Nat:=offN pcs pcs.length
def nxN (pcs:List Pc)(i:Nat):Nat:=((basT pcs pcs.length).getD i default).n.toNat
def bfN (pcs:List Pc)(i:Nat):Nat:=((basT pcs pcs.length).getD i default).b.toNat
def anN (pcs:List Pc)(i:Nat):Int:=((basT pcs pcs.length).getD i default).a
def lnN (pcs:List Pc)(i:Nat):Int:=((basT pcs pcs.length).getD i default).l
def pcN (pcs:List Pc)(i:Nat):Nat:=(pcT pcs pcs.length).getD i 0
variable {q j:Nat}
theorem nx_at (hq:q<pcs.length)(hj:j<ksN pcs q):nxN pcs (offN pcs q+j)=offN pcs q+(j+1) % ksN pcs q:=by
  rw [nxN,bas_get hq hj];exact Int.toNat_natCast _
theorem mod_next {j k:Nat}(h:j<k):(j+1) % k=if j+1=k then 0 else j+1:=by
  split
  · rename_i e;rw [e];exact Nat.mod_self k
  · exact Nat.mod_eq_of_lt (by omega)
theorem nx_pr:PrN (nsN pcs) (nxN pcs) where
  lt:=fun c hc=>by
    obtain ⟨q,j,h1,h2,rfl⟩:=off_loc hc
    rw [nx_at h1 h2]
    exact off_lt h1 (Nat.mod_lt _ (by omega))
  inj := fun c d hc hd e=>by
    obtain ⟨q,j,h1,h2,rfl⟩:=off_loc hc
    obtain ⟨q',j',h3,h4,rfl⟩:=off_loc hd
    rw [nx_at h1 h2,nx_at h3 h4] at e
    obtain ⟨e1,e2⟩:=off_inj (Nat.mod_lt _ (by omega)) (Nat.mod_lt _ (by omega)) e
    subst e1
    rw [mod_next h2,mod_next h4] at e2
    have:j=j':=by
      split at e2<;>split at e2<;>omega
    rw [this]
def sdOk (pcs:List Pc)(a i:Int):Bool:=decide (0≤a∧a<pcs.length)&&decide (0≤i∧i<ksN pcs a.toNat)
def prS (pcs:List Pc)(s:Sm):Nat×Nat:=(offN pcs s.A.toNat+s.I.toNat,offN pcs s.B.toNat+s.J.toNat)
def prL (pcs:List Pc)(l:List Sm):List (Nat×Nat):=(l.map (prS pcs)).reverse
def usesB (s:Sm)(a i:Int):Bool:=(decide (s.A=a)&&decide (s.I=i))||(decide (s.B=a)&&decide (s.J=i))
def seamE (pcs:List Pc)(ease:Int)(pre:List Sm)(s:Sm):Int :=
  if !(sdOk pcs s.A s.I&&sdOk pcs s.B s.J) then 5 else
  if (decide (s.A=s.B)&&decide (s.I=s.J))||pre.any (fun t=>usesB t s.A s.I||usesB t s.B s.J) then 7 else
  if ease<(pcs.getD s.A.toNat default).s.getD s.I.toNat 0-(pcs.getD s.B.toNat default).s.getD s.J.toNat 0∨ease < -((pcs.getD s.A.toNat default).s.getD s.I.toNat 0-(pcs.getD s.B.toNat default).s.getD s.J.toNat 0) then 8 else 0
def seamsE (pcs:List Pc)(ease:Int)(sm:List Sm):Nat→Nat→Int
  | 0,_=>0
  | k+1,i=>if seamE pcs ease (sm.take i) (sm.getD i default)=0 then seamsE pcs ease sm k (i+1) else seamE pcs ease (sm.take i) (sm.getD i default)
def allAt (p:Nat→Bool)(n:Nat):Bool:=(List.range n).all p
def pieceB (p:Pc):Bool:=decide (3≤p.s.length∧p.s.length≤6)&&(decide (p.a.length=p.s.length)&&((List.range p.s.length).all (fun i=>decide ((1≤p.s.getD i 0∧p.s.getD i 0≤200)∧(1≤p.a.getD i 0∧p.a.getD i 0≤359)))&&decide (p.a.sum=180*((p.s.length:Int)-2))))
structure Cp where
  P:List Pc
  S:List Sm
  e:Int
  deriving Inhabited
def capE (c:Cp):Int :=
  if c.P.length<1∨8<c.P.length then 4 else
  if c.e<0∨5<c.e then 1 else
  if !((List.range c.P.length).all fun q=>pieceB (c.P.getD q default)) then 1 else
  seamsE c.P c.e c.S c.S.length 0
structure CapOk (c:Cp):Prop where
  np:1≤c.P.length∧c.P.length≤8
  pc:∀q,q<c.P.length→pieceB (c.P.getD q default)=true
  e:0≤c.e∧c.e≤5
  sm:∀i,i<c.S.length→seamE c.P c.e (c.S.take i) (c.S.getD i default)=0
theorem seams_all {ease:Int} {sm:List Sm}:∀{k i:Nat},seamsE pcs ease sm k i=0↔∀t,i≤t→t<i+k→seamE pcs ease (sm.take t) (sm.getD t default)=0
  | 0,i=>by simp [seamsE];intro t h1 h2;omega
  | k + 1,i=>by
    simp only [seamsE]
    split
    · rename_i h
      rw [seams_all]
      constructor
      · intro g t h1 h2
        by_cases e:t=i
        · subst e;exact h
        · exact g t (by omega) (by omega)
      · intro g t h1 h2;exact g t (by omega) (by omega)
    · rename_i h
      constructor
      · intro g;exact absurd g h
      · intro g;exact absurd (g i (Nat.le_refl _) (by omega)) h
theorem capE_ok {c:Cp}:capE c=0↔CapOk c:=by
  unfold capE
  split
  · rename_i h;exact ⟨fun g=>by omega,fun g=>by have:=g.np;omega⟩
  rename_i h1
  split
  · rename_i h;exact ⟨fun g=>by omega,fun g=>by have:=g.e;omega⟩
  rename_i h2
  split
  · rename_i h
    refine ⟨fun g=>by omega,fun g => ?_⟩
    have:((List.range c.P.length).all fun q=>pieceB (c.P.getD q default))=true:=by
      rw [List.all_eq_true];intro q hq;exact g.pc q (List.mem_range.1 hq)
    rw [this] at h;cases h
  rename_i h3
  have h3:((List.range c.P.length).all fun q=>pieceB (c.P.getD q default))=true:=by simpa using h3
  rw [List.all_eq_true] at h3
  rw [seams_all]
  exact ⟨fun g=>⟨by omega,fun q hq=>h3 q (List.mem_range.2 hq),by omega,fun i hi=>g i (Nat.zero_le _) (by omega)⟩,fun g t _ h=>g.sm t (by omega)⟩
theorem piece_ok {p:Pc}(h:pieceB p=true):(3≤p.s.length∧p.s.length≤6)∧p.a.length=p.s.length∧(∀i,i<p.s.length→(1≤p.s.getD i 0∧p.s.getD i 0≤200)∧(1≤p.a.getD i 0∧p.a.getD i 0≤359))∧p.a.sum=180*((p.s.length:Int)-2):=by
  simp only [pieceB,Bool.and_eq_true,decide_eq_true_eq,List.all_eq_true,List.mem_range] at h
  exact h
theorem seam_ok {ease:Int}{pre:List Sm}{s:Sm}(h:seamE pcs ease pre s=0):(sdOk pcs s.A s.I=true∧sdOk pcs s.B s.J=true)∧¬(s.A=s.B∧s.I=s.J)∧(∀t∈pre,usesB t s.A s.I=false∧usesB t s.B s.J=false)∧((pcs.getD s.A.toNat default).s.getD s.I.toNat 0-(pcs.getD s.B.toNat default).s.getD s.J.toNat 0≤ease∧-((pcs.getD s.A.toNat default).s.getD s.I.toNat 0-(pcs.getD s.B.toNat default).s.getD s.J.toNat 0)≤ease):=by
  unfold seamE at h
  split at h
  · omega
  rename_i h1
  split at h
  · omega
  rename_i h2
  split at h
  · omega
  rename_i h3
  have h1:(sdOk pcs s.A s.I&&sdOk pcs s.B s.J)=true:=by simpa using h1
  rw [Bool.and_eq_true] at h1
  have h2:=Bool.eq_false_iff.2 h2
  rw [Bool.or_eq_false_iff,Bool.and_eq_false_iff] at h2
  refine ⟨h1,?_,?_,by omega⟩
  · rintro ⟨e1,e2⟩
    rcases h2.1 with g | g<;>simp [e1,e2] at g
  · intro t ht
    have g:(pre.any fun t=>usesB t s.A s.I||usesB t s.B s.J)=false:=h2.2
    rw [List.any_eq_false] at g
    have:=g t ht
    simpa using this
theorem sd_ok {a i:Int}(h:sdOk pcs a i=true):a.toNat<pcs.length∧i.toNat<ksN pcs a.toNat∧(a.toNat:Int)=a∧(i.toNat:Int)=i:=by
  simp only [sdOk,Bool.and_eq_true,decide_eq_true_eq] at h
  omega
theorem CapOk.ks {c:Cp}(h:CapOk c){q:Nat}(hq:q<c.P.length):3≤ksN c.P q∧ksN c.P q≤6:=(piece_ok (h.pc q hq)).1
theorem off_six {pcs:List Pc}:∀{p:Nat},(∀q,q<p→ksN pcs q≤6)→offN pcs p≤p*6
  | 0,_=>by simp [offN]
  | p+1,h=>by
    have h1:=off_six (p:=p) fun q hq=>h q (by omega)
    have h2:=h p (by omega)
    rw [off_step];omega
theorem CapOk.ns {c:Cp}(h:CapOk c):nsN c.P≤48:=by
  have h1:=off_six (pcs:=c.P) (p:=c.P.length) fun q hq=>(h.ks hq).2
  have h2:=h.np
  unfold nsN;omega
theorem seams_ok {c:Cp} (h:CapOk c):∀{n:Nat},n≤c.S.length→SmOk (nsN c.P) (prL c.P (c.S.take n))
  | 0,_=>by simpa [prL] using SmOk.nil
  | n + 1,hn=>by
    have ih:=seams_ok h (n:=n) (by omega)
    have ht:c.S.take (n+1)=c.S.take n++[c.S.getD n default]:=by
      rw [List.take_add_one,List.getElem?_eq_getElem (by omega),List.getD_eq_getElem?_getD,List.getElem?_eq_getElem (by omega)]
      rfl
    obtain ⟨⟨g1,g2⟩,g3,g4,g5⟩:=seam_ok (h.sm n (by omega))
    obtain ⟨a1,a2,a3,a4⟩:=sd_ok g1
    obtain ⟨b1,b2,b3,b4⟩:=sd_ok g2
    have e:prL c.P (c.S.take (n+1))=prS c.P (c.S.getD n default) :: prL c.P (c.S.take n):=by
      rw [ht,prL,List.map_append,List.reverse_append];rfl
    rw [e]
    refine .cons ih (off_lt a1 a2) (off_lt b1 b2) (fun e => ?_) fun t ht => ?_
    · obtain ⟨e1,e2⟩:=off_inj a2 b2 e
      exact g3 ⟨by omega,by omega⟩
    · obtain ⟨u,hu,rfl⟩:=List.mem_map.1 (List.mem_reverse.1 ht)
      obtain ⟨x1,x2⟩:=g4 u hu
      have hus:sdOk c.P u.A u.I=true∧sdOk c.P u.B u.J=true:=by
        obtain ⟨k,hk,hk2⟩:=List.getElem_of_mem hu
        have hkn:k<n:=by rw [List.length_take] at hk;omega
        have:=h.sm k (by omega)
        have e:c.S.getD k default=u:=by
          rw [←hk2,List.getElem_take,List.getD_eq_getElem?_getD,List.getElem?_eq_getElem (by omega)];rfl
        rw [e] at this
        exact (seam_ok this).1
      obtain ⟨c1,c2,c3,c4⟩:=sd_ok hus.1
      obtain ⟨d1,d2,d3,d4⟩:=sd_ok hus.2
      simp only [usesB,Bool.or_eq_false_iff,Bool.and_eq_false_iff,decide_eq_false_iff_not] at x1 x2
      refine ⟨fun e => ?_,fun e => ?_,fun e => ?_,fun e => ?_⟩
      · obtain ⟨e1,e2⟩:=off_inj c2 a2 e
        rcases x1.1 with g | g<;>exact g (by omega)
      · obtain ⟨e1,e2⟩:=off_inj c2 b2 e
        rcases x2.1 with g | g<;>exact g (by omega)
      · obtain ⟨e1,e2⟩:=off_inj d2 a2 e
        rcases x1.2 with g | g<;>exact g (by omega)
      · obtain ⟨e1,e2⟩:=off_inj d2 b2 e
        rcases x2.2 with g | g<;>exact g (by omega)
end
end Go.Proofs.YtgjlhdggllakbaaGreatDoor.Vm
namespace Go.Proofs.YtgjlhdggllakbaaGreatDoor.Vm
set_option linter.unusedVariables false
set_option linter.unusedSimpArgs false
attribute [-simp] List.getD_eq_getElem?_getD
structure Ptt where
  cs:List Nat
  inn:Bool
  ang:Int
  df:Int
  deriving Inhabited
def lsN (c:Cp):List (Nat×Nat):=prL c.P c.S
def PtR (c:Cp):Nat→Nat→Prop:=ptE (nsN c.P) (nxN c.P) (lsN c)
def nuP (c:Cp):Nat→Nat:=nuN (nxN c.P) (lsN c)
open Classical in
noncomputable def innB (c:Cp)(k:Nat):Bool:=decide (InnN (nsN c.P) (nxN c.P) (lsN c) k)
noncomputable def ptOf (c:Cp)(k:Nat):Ptt :=
  ⟨memE (PtR c) (nsN c.P) k,innB c k,((memE (PtR c) (nsN c.P) k).map (anN c.P)).sum,(if innB c k then 360 else 180)-((memE (PtR c) (nsN c.P) k).map (anN c.P)).sum⟩
noncomputable def ptsP (c:Cp):List Ptt:=(minsE (PtR c) (nsN c.P)).map (ptOf c)
noncomputable def missP (c:Cp):Int:=((ptsP c).map (·.df)).sum
noncomputable def eulP (c:Cp):Int:=((ptsP c).length:Int)-((nsN c.P:Int)-(c.S.length:Int))+(c.P.length:Int)
noncomputable def partP (c:Cp):Nat:=nCls (prtE (pcN c.P) (lsN c)) c.P.length
noncomputable def loopP (c:Cp):List (List Nat):=loopsN (nsN c.P) (nxN c.P) (lsN c)
noncomputable def cycP (c:Cp):Nat:=nCls (Orb (nsN c.P) (nuP c)) (nsN c.P)
noncomputable def handP (c:Cp):Int:=(2*(partP c:Int)-eulP c-((loopP c).length:Int)).tdiv 2
noncomputable def hairP (c:Cp):List Int:=(loopP c).map fun l=>(l.map (lnN c.P)).sum
section
variable {c:Cp}
theorem CapOk.sm_ok (h:CapOk c):SmOk (nsN c.P) (lsN c):=by
  have:=seams_ok h (Nat.le_refl c.S.length)
  rwa [List.take_length] at this
theorem CapOk.nu (h:CapOk c):PrN (nsN c.P) (nuP c):=nu_pr nx_pr h.sm_ok
theorem CapOk.ptE (h:CapOk c):Eqv (PtR c):=ptE_eqv h.nu
end
end Go.Proofs.YtgjlhdggllakbaaGreatDoor.Vm
namespace Go.Proofs.YtgjlhdggllakbaaGreatDoor.Vm
set_option linter.unusedVariables false
set_option linter.unusedSimpArgs false
attribute [-simp] List.getD_eq_getElem?_getD
section
variable {N:Nat}{nx pc:Nat→Nat}{L:List (Nat×Nat)}
structure FReps (N:Nat)(nx:Nat→Nat)(L:List (Nat×Nat))(R:List Nat):Prop where
  lt:∀r,r∈R→r<N∧alf L r=r
  dis:R.Pairwise fun a b=>¬Orb N (nuN nx L) a b
  cov:∀c,c<N→alf L c=c→∃r,r∈R∧Orb N (nuN nx L) c r
theorem prtE_in:∀{L:List (Nat×Nat)} {t:Nat×Nat},t∈L→prtE pc L (pc t.1) (pc t.2)
  | s :: L,t,h=>by
    rcases List.mem_cons.1 h with e | e
    · subst e;exact Or.inr (Or.inl ⟨prtE_eqv.rf _,prtE_eqv.rf _⟩)
    · exact prtE_more (prtE_in e)
theorem prtE_sub {F:Nat→Nat→Prop}(hF:Eqv F):∀{L:List (Nat×Nat)},(∀t,t∈L→F (pc t.1) (pc t.2))→∀{a b},prtE pc L a b→F a b
  | [],_,a,b,h=>by
    have:a=b:=h
    subst this;exact hF.rf _
  | s :: L,hs,a,b,h=>by
    have ih:=fun {a b}=>prtE_sub hF (L:=L) (fun t ht=>hs t (List.mem_cons_of_mem _ ht)) (a:=a) (b:=b)
    have h0:=hs s (by simp)
    rcases h with h | ⟨h1,h2⟩ | ⟨h1,h2⟩
    · exact ih h
    · exact hF.tr (ih h1) (hF.tr h0 (ih h2))
    · exact hF.tr (ih h1) (hF.tr (hF.sy h0) (ih h2))
end
structure SplR (N:Nat)(nx pc:Nat→Nat)(L:List (Nat×Nat))(N':Nat)(nx' pc':Nat→Nat)(L':List (Nat×Nat))(g:Nat→Nat)(d1 d2 ii jj:Nat):Prop where
  hn:PrN N nx
  hl:SmOk N L
  hn':PrN N' nx'
  hl':SmOk N' L'
  glt:∀x,x<N→g x<N'∧g x≠d1∧g x≠d2
  ginj:∀x y,x<N→y<N→g x=g y→x=y
  gcov:∀y,y<N'→y=d1∨y=d2∨∃x,x<N∧y=g x
  dlt:d1<N'∧d2<N'∧d1≠d2
  ij:ii<N∧jj<N∧ii≠jj
  nxg:∀x,x<N→(nx x=jj∧nx' (g x)=d1)∨(nx x=ii∧nx' (g x)=d2)∨(nx x≠ii∧nx x≠jj∧nx' (g x)=g (nx x))
  nx1:nx' d1=g ii
  nx2:nx' d2=g jj
  lg:L'=(d1,d2) :: L.map fun s=>(g s.1,g s.2)
section
variable {N N':Nat}{nx pc nx' pc' g:Nat→Nat}{L L':List (Nat×Nat)}{d1 d2 ii jj:Nat}
theorem alf_map (hgi:∀x y,x<N→y<N→g x=g y→x=y):∀{L:List (Nat×Nat)},SmOk N L→∀{c},c<N→alf (L.map fun s=>(g s.1,g s.2)) (g c)=g (alf L c)
  | [],_,c,_=>rfl
  | s :: L,h,c,hc=>by
    cases h with
    | cons h h1 h2 h3 h4 =>
      simp only [List.map_cons,alf]
      have:swN (g s.1) (g s.2) (g c)=g (swN s.1 s.2 c):=by
        by_cases e1:c=s.1
        · subst e1;rw [swN_a,swN_a]
        · by_cases e2:c=s.2
          · subst e2;rw [swN_b,swN_b]
          · rw [swN_o e1 e2,swN_o (fun e=>e1 (hgi _ _ hc h1 e)) (fun e=>e2 (hgi _ _ hc h2 e))]
      rw [this]
      exact alf_map hgi h (swN_lt h1 h2 hc)
variable (S:SplR N nx pc L N' nx' pc' L' g d1 d2 ii jj)
include S
theorem SplR.alfg {c:Nat}(hc:c<N):alf L' (g c)=g (alf L c):=by
  have h:=S.hl'
  rw [S.lg] at h ⊢
  rw [alf_cons h,if_neg (S.glt c hc).2.1,if_neg (S.glt c hc).2.2]
  exact alf_map S.ginj S.hl hc
theorem SplR.alf1:alf L' d1=d2:=by
  have h:=S.hl'
  rw [S.lg] at h ⊢
  rw [alf_cons h,if_pos rfl]
theorem SplR.alf2:alf L' d2=d1:=by
  have h:=S.hl'
  rw [S.lg] at h ⊢
  rw [alf_cons h,if_neg (fun e=>S.dlt.2.2 e.symm),if_pos rfl]
theorem SplR.nu:PrN N (nuN nx L):=nu_pr S.hn S.hl
theorem SplR.nu':PrN N' (nuN nx' L'):=nu_pr S.hn' S.hl'
theorem SplR.nug {c:Nat}(hc:c<N):(nuN nx L c=jj∧nuN nx' L' (g c)=d1)∨(nuN nx L c=ii∧nuN nx' L' (g c)=d2)∨(nuN nx L c≠ii∧nuN nx L c≠jj∧nuN nx' L' (g c)=g (nuN nx L c)):=by
  have:=S.nxg (alf L c) (S.hl.pr.lt c hc)
  simp only [nuN,S.alfg hc]
  exact this
theorem SplR.nu1:nuN nx' L' d1=g jj:=by rw [nuN,S.alf1,S.nx2]
theorem SplR.nu2:nuN nx' L' d2=g ii:=by rw [nuN,S.alf2,S.nx1]
theorem SplR.step {c:Nat}(hc:c<N):Orb N' (nuN nx' L') (g c) (g (nuN nx L c)):=by
  have h0:=S.nu'.one (S.glt c hc).1
  rcases S.nug hc with ⟨h1,h2⟩ | ⟨h1,h2⟩ | ⟨_,_,h2⟩
  · rw [h2] at h0
    have:=S.nu'.one S.dlt.1
    rw [S.nu1,←h1] at this
    exact S.nu'.eqv.tr h0 this
  · rw [h2] at h0
    have:=S.nu'.one S.dlt.2.1
    rw [S.nu2,←h1] at this
    exact S.nu'.eqv.tr h0 this
  · rw [h2] at h0;exact h0
theorem SplR.up {c d:Nat}(h:Orb N (nuN nx L) c d):Orb N' (nuN nx' L') (g c) (g d) :=
  Orb.sub (E:=fun a b=>Orb N' (nuN nx' L') (g a) (g b)) ⟨fun _=>S.nu'.eqv.rf _,fun h=>S.nu'.eqv.sy h,fun h k=>S.nu'.eqv.tr h k⟩ S.nu (fun c hc=>S.step hc) h
theorem SplR.back:∃p:Nat→Nat,(∀x,x<N→p (g x)=x)∧p d1=jj∧p d2=ii∧∀y,y<N'→p y<N:=by
  have key:∀y,∃x,(∀z,z<N→y=g z→x=z)∧(y=d1→x=jj)∧(y=d2→x=ii)∧(y<N'→x<N):=by
    intro y
    by_cases e1:y=d1
    · subst e1
      exact ⟨jj,fun z hz e=>absurd e.symm (S.glt z hz).2.1,fun _=>rfl,fun e=>absurd e S.dlt.2.2,fun _=>S.ij.2.1⟩
    · by_cases e2:y=d2
      · subst e2
        exact ⟨ii,fun z hz e=>absurd e.symm (S.glt z hz).2.2,fun e=>absurd e.symm S.dlt.2.2,fun _=>rfl,fun _=>S.ij.1⟩
      · by_cases hx:∃x,x<N∧y=g x
        · obtain ⟨x,h1,h2⟩:=hx
          exact ⟨x,fun z hz e=>S.ginj _ _ h1 hz (h2 ▸ e),fun e=>absurd e e1,fun e=>absurd e e2,fun _=>h1⟩
        · exact ⟨0,fun z hz e=>absurd ⟨z,hz,e⟩ hx,fun e=>absurd e e1,fun e=>absurd e e2,fun hy=>by
            rcases S.gcov y hy with h | h | h
            · exact absurd h e1
            · exact absurd h e2
            · exact absurd h hx⟩
  refine ⟨fun y=>Classical.choose (key y),fun x hx => ?_,?_,?_,fun y hy => ?_⟩
  · exact (Classical.choose_spec (key (g x))).1 x hx rfl
  · exact (Classical.choose_spec (key d1)).2.1 rfl
  · exact (Classical.choose_spec (key d2)).2.2.1 rfl
  · exact (Classical.choose_spec (key y)).2.2.2 hy
theorem SplR.down {c d:Nat}(hc:c<N)(hd:d<N)(h:Orb N' (nuN nx' L') (g c) (g d)):Orb N (nuN nx L) c d:=by
  obtain ⟨p,p1,p2,p3,p4⟩:=S.back
  have:=Orb.sub (E:=fun a b=>Orb N (nuN nx L) (p a) (p b)) ⟨fun _=>S.nu.eqv.rf _,fun h=>S.nu.eqv.sy h,fun h k=>S.nu.eqv.tr h k⟩ S.nu' (fun y hy=>by
    show Orb N (nuN nx L) (p y) (p (nuN nx' L' y))
    rcases S.gcov y hy with e | e | ⟨x,hx,e⟩
    · subst e;rw [S.nu1,p2,p1 _ S.ij.2.1];exact Or.inl rfl
    · subst e;rw [S.nu2,p3,p1 _ S.ij.1];exact Or.inl rfl
    · subst e
      rw [p1 x hx]
      have h0:=S.nu.one hx
      rcases S.nug hx with ⟨h1,h2⟩ | ⟨h1,h2⟩ | ⟨_,_,h2⟩
      · rw [h2,p2,←h1];exact h0
      · rw [h2,p3,←h1];exact h0
      · rw [h2,p1 _ (S.nu.lt x hx)];exact h0) h
  simp only [p1 c hc,p1 d hd] at this
  exact this
theorem SplR.parts {P q:Nat} {ρ:Nat→Nat} (hq:q<P) (hP:∀x,x<N→pc x<P) (hpg:∀x,x<N→pc' (g x)=pc x∨(pc x=q∧pc' (g x)=P)) (h1:pc' d1=q) (h2:pc' d2=P):nCls (prtE pc' L') (P+1)=nCls (prtE pc L) P:=by
  have hL:∀t,t∈L→t.1<N∧t.2<N:=by
    have:=S.hl
    clear S
    induction this with
    | nil=>intro t ht;cases ht
    | cons h a b c d ih =>
      intro t ht
      rcases List.mem_cons.1 ht with e | e
      · subst e;exact ⟨a,b⟩
      · exact ih t e
  have hline:prtE pc' L' q P:=by
    have:=prtE_in (pc:=pc') (L:=L') (t:=(d1,d2)) (by rw [S.lg];simp)
    rwa [h1,h2] at this
  have hgp:∀x,x<N→prtE pc' L' (pc' (g x)) (pc x):=by
    intro x hx
    rcases hpg x hx with e | ⟨e1,e2⟩
    · rw [e];exact prtE_eqv.rf _
    · rw [e1,e2];exact prtE_eqv.sy hline
  have up:∀{a b},prtE pc L a b→prtE pc' L' a b:=fun {a b} h=>prtE_sub prtE_eqv (fun t ht=>by
    have hin:prtE pc' L' (pc' (g t.1)) (pc' (g t.2)):=prtE_in (t:=(g t.1,g t.2)) (by rw [S.lg];exact List.mem_cons_of_mem _ (List.mem_map.2 ⟨t,ht,rfl⟩))
    exact prtE_eqv.tr (prtE_eqv.sy (hgp _ (hL t ht).1)) (prtE_eqv.tr hin (hgp _ (hL t ht).2))) h
  have down:∀{a b},prtE pc' L' a b→prtE pc L (if a=P then q else a) (if b=P then q else b):=fun {a b} h =>
    prtE_sub (F:=fun a b=>prtE pc L (if a=P then q else a) (if b=P then q else b)) ⟨fun _=>prtE_eqv.rf _,fun h=>prtE_eqv.sy h,fun h k=>prtE_eqv.tr h k⟩ (fun t ht=>by
      show prtE pc L (if pc' t.1=P then q else pc' t.1) (if pc' t.2=P then q else pc' t.2)
      have hg:∀x,x<N→(if pc' (g x)=P then q else pc' (g x))=pc x:=by
        intro x hx
        have:=hP x hx
        rcases hpg x hx with e | ⟨e1,e2⟩
        · rw [e,if_neg (by omega)]
        · rw [e2,if_pos rfl,e1]
      rw [S.lg] at ht
      rcases List.mem_cons.1 ht with e | e
      · subst e
        show prtE pc L (if pc' d1=P then q else pc' d1) (if pc' d2=P then q else pc' d2)
        rw [h1,h2,if_neg (by omega),if_pos rfl];exact prtE_eqv.rf _
      · obtain ⟨u,hu,rfl⟩:=List.mem_map.1 e
        show prtE pc L (if pc' (g u.1)=P then q else pc' (g u.1)) (if pc' (g u.2)=P then q else pc' (g u.2))
        rw [hg _ (hL u hu).1,hg _ (hL u hu).2]
        exact prtE_in hu) h
  have hm:=Reps.mins (N:=P) (prtE_eqv (pc:=pc) (L:=L))
  have hr:Reps (prtE pc' L') (P+1) (minsE (prtE pc L) P):=by
    refine ⟨fun r hr=>by have:=hm.lt r hr;omega,?_,?_⟩
    · refine hm.dis.imp_of_mem ?_
      intro a b ha hb hne he
      have h3:=down he
      have:=hm.lt a ha
      have:=hm.lt b hb
      rw [if_neg (by omega),if_neg (by omega)] at h3
      exact hne h3
    · intro y hy
      by_cases e:y=P
      · subst e
        obtain ⟨r,a,b⟩:=hm.cov q hq
        exact ⟨r,a,prtE_eqv.tr (prtE_eqv.sy hline) (up b)⟩
      · obtain ⟨r,a,b⟩:=hm.cov y (by omega)
        exact ⟨r,a,up b⟩
  rw [←hr.len prtE_eqv];rfl
end
end Go.Proofs.YtgjlhdggllakbaaGreatDoor.Vm
namespace Go.Proofs.YtgjlhdggllakbaaGreatDoor.Vm
open Go
set_option maxRecDepth 100000
set_option linter.unusedSimpArgs false
set_option linter.unusedVariables false
attribute [-simp] List.getD_eq_getElem?_getD
def Sid.cells (s:Sid):List V:=[.int .i64 s.l,.int .i64 s.a,.int .i64 s.n,.int .i64 s.b,.int .i64 s.p]
def sdC:Cod Sid 5:=⟨Sid.cells,fun _=>rfl⟩
def wlk (l:List Sid)(c:Nat):Nat→Nat
  | 0=>c
  | k+1=>(l.getD (l.getD (wlk l c k) default).p.toNat default).n.toNat
structure LayOk (l:List Sid):Prop where
  n:∀i,i<l.length→0≤(l.getD i default).n∧(l.getD i default).n<l.length
  p:∀i,i<l.length→(l.getD i default).p≠-1→0≤(l.getD i default).p∧(l.getD i default).p<l.length
  len:l.length≤100000
section
variable {lim:Nat}{H:Hp}{K:V→Hp→Prop}
end
end Go.Proofs.YtgjlhdggllakbaaGreatDoor.Vm
namespace Go.Proofs.YtgjlhdggllakbaaGreatDoor.Vm
open Go
set_option maxRecDepth 100000
set_option linter.unusedSimpArgs false
set_option linter.unusedVariables false
attribute [-simp] List.getD_eq_getElem?_getD
section
variable {lim:Nat}{H:Hp}{K:V→Hp→Prop}
end
end Go.Proofs.YtgjlhdggllakbaaGreatDoor.Vm
namespace Go.Proofs.YtgjlhdggllakbaaGreatDoor.Vm
open Go
set_option maxRecDepth 100000
theorem cp_known {lim:Nat}{H:Hp}{K:V→Hp→Prop}(hlim:lim≤H.length)(hK:∀H',HX H H'→K (.bool true) H'):VCall tbl lim 6 [] H K :=
  vcall_known (n:=300) (by kernel_rfl) hlim fun X=>hK _ ⟨X,rfl⟩
end Go.Proofs.YtgjlhdggllakbaaGreatDoor.Vm
namespace Go.Proofs.YtgjlhdggllakbaaGreatDoor.Vm
open Go
set_option maxRecDepth 100000
set_option linter.unusedSimpArgs false
attribute [-simp] List.getD_eq_getElem?_getD
def restN (xs:List Int):Nat→Int
  | 0=>0
  | k+1=>(xs.getD (23-k) 0+xs.getD (47-k) 0)+restN xs k
def Small (xs:List Int):Prop:=∀x∈xs,-1099511627776≤x∧x≤1099511627776
theorem Small.at {xs:List Int}(h:Small xs)(i:Nat) : -1099511627776≤xs.getD i 0∧xs.getD i 0≤1099511627776:=by
  by_cases hi:i<xs.length
  · rw [List.getD_eq_getElem?_getD,List.getElem?_eq_getElem hi];exact h _ (List.getElem_mem hi)
  · rw [List.getD_eq_getElem?_getD,List.getElem?_eq_none (by omega)];simp
def aboveS (xs:List Int)(n:Int):Int:=restN xs (24-(max n 1-1).toNat)
theorem SlV.at {H:Hp} {v:V} {l:List Int} (h:SlV H v l) {i:Nat} (hi:i<l.length):∃b o,viaddrS 1 v (.int .i64 i)=some (.ptr b o)∧∀L,vload none L H (.ptr b o)=some (.int .i64 (l.getD i 0)):=by
  cases h with
  | nil=>simp at hi
  | empty=>simp at hi
  | sl h1 h2 h3 =>
    rename_i b off cs own
    refine ⟨b,off+i,?_,fun L => ?_⟩
    · rw [viaddrS_in (by omega)];simp
    · rw [vload_ptr h1]
      have hlt:off+i<cs.length:=by omega
      simp only [rd,hlt,if_true]
      have e:(cs.drop off)[i]? = (ints l)[i]? := by
        rw [←h3,List.getElem?_take_of_lt hi]
      rw [List.getElem?_drop,ints_get?,List.getElem?_eq_getElem hi] at e
      simp [List.getD_eq_getElem?_getD,e,hi]
def anyNeg (l:List Int):Bool:=l.any (·<0)
def anyBig (l:List Int):Bool:=l.any (1000000<·)
def errOf (r w:List Int):Int :=
  if 24<r.length∨24<w.length then 4 else if anyNeg r∨anyNeg w then 1 else if anyBig r∨anyBig w then 4 else 0
inductive BunV (H:Hp)(r w:List Int):V→Prop
  | mk {rv wv:V}:SlV H rv r→SlV H wv w→BunV H r w (.agg [rv,wv])
theorem BunV.mono {H H':Hp}(hx:HX H H'){v:V}{r w:List Int}(h:BunV H r w v):BunV H' r w v:=by
  cases h with
  | mk h1 h2=>exact .mk (h1.mono hx) (h2.mono hx)
def pad (l:List Int):List Int:=l++List.replicate (24-l.length) 0
def sheafOf (r w:List Int):List Int:=pad r++pad w
def opened (r w:List Int):List Int:=if errOf r w=0 then sheafOf r w else zs 48
def inRest (xs:List Int):Nat→Int
  | 0=>0
  | k+1=>(24-k)*(xs.getD (23-k) 0+xs.getD (47-k) 0)+inRest xs k
def inchesS (xs:List Int):Int:=inRest xs 24
section
variable {lim:Nat}{H:Hp}{bv:V}{r w:List Int}{K:V→Hp→Prop}
theorem BunV.stor (h:BunV H r w bv):stor bv=true∧(cellsV bv).length=2:=by
  cases h with
  | mk h1 h2=>exact ⟨rfl,rfl⟩
theorem BunV.load (h:BunV H r w bv):rd (some 2) (cellsV bv) 0=some bv:=by
  cases h with
  | mk h1 h2=>exact rd_two
end
end Go.Proofs.YtgjlhdggllakbaaGreatDoor.Vm
namespace Go.Proofs.YtgjlhdggllakbaaGreatDoor.Vm
open Go
set_option maxRecDepth 100000
set_option linter.unusedSimpArgs false
attribute [-simp] List.getD_eq_getElem?_getD
structure RefOf (xs ys:List Int):Prop where
  len:ys.length=50
  right:∀i,i<24→ys.getD (i+1) 0=xs.getD i 0
  wrong:∀i,i<24→ys.getD (26+i) 0=xs.getD (24+i) 0
  zero:ys.getD 0 0=0∧ys.getD 25 0=0
theorem RefOf.at {xs ys:List Int}(h:RefOf xs ys){m:Nat}(h1:1≤m)(h2:m≤24):ys.getD m 0=xs.getD (m-1) 0∧ys.getD (25+m) 0=xs.getD (24+(m-1)) 0:=by
  obtain ⟨i,rfl⟩:∃i,m=i+1:=⟨m-1,by omega⟩
  refine ⟨h.right i (by omega),?_⟩
  rw [show 25+(i+1)=26+i by omega]
  exact h.wrong i (by omega)
section
variable {lim:Nat}{H:Hp}{bv:V}{r w:List Int}{K:V→Hp→Prop}
end
section
variable {lim:Nat}{H:Hp}{bv:V}{r w:List Int}{K:V→Hp→Prop}
end
theorem ref01_SameInts {lim:Nat} {H:Hp} {av bv:V} {a b:List Int} (ha:SlV H av a) (hb:SlV H bv b) (hlen:a.length≤4611686018427387904) {K:V→Hp→Prop} (hK:K (.bool (decide (a=b))) H):VCall tbl lim 23 [av,bv] H K:=by
  refine VCall_fn tbl_at23 rfl ?_
  simp [vf23,ha.len,hb.len]
  by_cases hl:a.length=b.length
  · have hl':(a.length:Int)=b.length:=by omega
    simp [hl']
    refine wLoop_inv (fun k s=>∃i:Nat,s.fr 0=av∧s.fr 1=bv∧s.fr 5=.int .i64 i∧s.L=[]∧s.H=H∧i≤a.length∧k=a.length-i∧a.take i=b.take i) ?_ (n:=a.length) ?_
    case refine_2=>exact ⟨0,by simp,by simp,by simp,rfl,rfl,by omega,by omega,by simp⟩
    rintro k ⟨fr,L,H'⟩ ⟨i,h0,h1,h5,rfl,rfl,hi,hk,heq⟩
    simp only at h0 h1 h5
    simp [h0,h1,h5,ha.len]
    refine cond_bool (fun ht => ?_) fun hf => ?_
    · have ht:i<a.length:=by simpa using ht
      obtain ⟨b1,o1,e1,e2⟩:=ha.at ht
      obtain ⟨b2,o2,e3,e4⟩:=hb.at (show i<b.length by omega)
      simp [h0,h1,h5,e1,e2,e3,e4]
      refine cond_bool (fun hn => ?_) fun hn => ?_
      · have hn:¬a.getD i 0=b.getD i 0:=by simpa using hn
        simp
        have:a≠b:=fun e=>hn (by rw [e])
        simpa [this] using hK
      · have hn:a.getD i 0=b.getD i 0:=by simpa using hn
        simp [h0,h1,h5]
        rw [wrap_i64 (by omega) (by omega)]
        refine ⟨a.length-(i+1),by omega,i+1,by omega,by omega,rfl,?_⟩
        rw [take_snoc ht,take_snoc (show i<b.length by omega),heq,hn]
    · have hf:¬i<a.length:=by simpa using hf
      have hil:i=a.length:=by omega
      subst hil
      rw [List.take_length,hl,List.take_length] at heq
      subst heq
      simp
      simpa using hK
  · have hl':¬(a.length:Int)=b.length:=by omega
    simp [hl']
    have:a≠b:=fun e=>hl (by rw [e])
    simpa [this] using hK
end Go.Proofs.YtgjlhdggllakbaaGreatDoor.Vm
namespace Go.Proofs.YtgjlhdggllakbaaGreatDoor.Vm
open Go
set_option maxRecDepth 100000
set_option linter.unusedSimpArgs false
set_option linter.unusedVariables false
attribute [-simp] List.getD_eq_getElem?_getD
inductive OwnB (n:Nat)(H:Hp)(r w:List Int):V→Prop
  | mk {rv wv:V}:OwnV n H rv r→OwnV n H wv w→OwnB n H r w (.agg [rv,wv])
theorem OwnB.mono {n:Nat}{H H':Hp}(hx:HX H H'){v:V}{r w:List Int}(h:OwnB n H r w v):OwnB n H' r w v:=by
  cases h with
  | mk h1 h2=>exact .mk (h1.mono hx) (h2.mono hx)
theorem OwnB.le {n m:Nat}(hnm:n≤m){H:Hp}{v:V}{r w:List Int}(h:OwnB m H r w v):OwnB n H r w v:=by
  cases h with
  | mk h1 h2=>exact .mk (h1.le hnm) (h2.le hnm)
theorem OwnB.zero {n:Nat}{H:Hp}:OwnB n H [] [] (.agg [.snil,.snil]):=.mk .nil .nil
theorem OwnB.stor {n:Nat}{H:Hp}{v:V}{r w:List Int}(h:OwnB n H r w v):stor v=true∧(cellsV v).length=2:=by
  cases h;exact ⟨rfl,rfl⟩
abbrev HF:=Nat→Nat→Int
def mk48 (f:HF):List Int:=(List.range 48).map fun k=>f (k / 24) (k % 24+1)
def mk50 (f:HF):List Int:=(List.range 50).map fun k=>if k % 25=0 then 0 else f (k / 25) (k % 25)
def fset (f:HF)(w n:Nat)(x:Int):HF:=fun w' n'=>if w'=w∧n'=n then x else f w' n'
@[simp] theorem mk48_len {f:HF}:(mk48 f).length=48:=by simp [mk48]
@[simp] theorem mk50_len {f:HF}:(mk50 f).length=50:=by simp [mk50]
def op (r w:List Int):HF:=fun way n=>if errOf r w=0 then (if way=0 then r else w).getD (n-1) 0 else 0
def lastN (f:Nat→Int):Nat→Nat
  | 0=>0
  | k+1=>if f (k+1)=0 then lastN f k else k+1
def listN (f:Nat→Int)(n:Nat):List Int:=(List.range n).map fun i=>f (i+1)
@[simp] theorem listN_length (f:Nat→Int) (n:Nat):(listN f n).length=n:=by simp [listN]
def sideF (f:HF)(way:Nat):List Int:=listN (f way) (lastN (f way) 24)
end Go.Proofs.YtgjlhdggllakbaaGreatDoor.Vm
namespace Go.Proofs.YtgjlhdggllakbaaGreatDoor.Vm
open Go
set_option maxRecDepth 100000
set_option linter.unusedSimpArgs false
set_option linter.unusedVariables false
attribute [-simp] List.getD_eq_getElem?_getD
def pvC:Cod (V×V) 2:=⟨fun p=>[p.1,p.2],fun _=>rfl⟩
def smC:Cod Sm 4:=⟨fun s=>[.int .i64 s.A,.int .i64 s.I,.int .i64 s.B,.int .i64 s.J],fun _=>rfl⟩
structure PcsV (H:Hp)(v:V)(ps:List (V×V))(pcs:List Pc):Prop where
  lst:LstV pvC H v ps
  len:ps.length=pcs.length
  at':∀i,i<pcs.length→SlV H (ps.getD i default).1 (pcs.getD i default).s∧SlV H (ps.getD i default).2 (pcs.getD i default).a
inductive CapV (H:Hp):List V→Cp→Prop
  | mk {pv sv:V} {ps:List (V×V)} {P:List Pc} {S:List Sm} {e:Int}:PcsV H pv ps P→LstV smC H sv S→CapV H [pv,sv,.int .i64 e] ⟨P,S,e⟩
section
variable {lim:Nat}{H H':Hp}{K:V→Hp→Prop}{v pv sv:V}{ps:List (V×V)}{pcs P:List Pc}{S:List Sm}{e:Int}{ws:List V}{c:Cp}
theorem PcsV.mono (hx:HX H H')(h:PcsV H v ps pcs):PcsV H' v ps pcs:=⟨h.lst.mono hx,h.len,fun i hi=>⟨(h.at' i hi).1.mono hx,(h.at' i hi).2.mono hx⟩⟩
theorem CapV.mono (hx:HX H H')(h:CapV H ws c):CapV H' ws c:=by
  cases h with
  | mk h1 h2=>exact .mk (h1.mono hx) (h2.mono hx)
theorem PcsV.vlen (h:PcsV H v ps pcs):vlenS v=some (.int .i64 pcs.length):=by rw [←h.len];exact h.lst.len
theorem PcsV.at (h:PcsV H v ps pcs){i:Nat}(hi:i<pcs.length):viaddrS 2 v (.int .i64 (i:Int))=some (ept 2 v i):=h.lst.at (by rw [h.len];exact hi)
theorem PcsV.addr (h:PcsV H v ps pcs){i:Int}(hi:0≤i∧i<pcs.length):viaddrS 2 v (.int .i64 i)=some (ept 2 v i.toNat):=h.lst.addr (by rw [h.len];exact hi)
theorem PcsV.ld2 (h:PcsV H v ps pcs){i:Nat}(hi:i<pcs.length):∀L,vload (some 2) L H (ept 2 v i)=some (.agg [(ps.getD i default).1,(ps.getD i default).2]):=fun L=>h.lst.load (by rw [h.len];exact hi)
theorem PcsV.fa (h:PcsV H v ps pcs){i:Nat}(hi:i<pcs.length):∀j,vfaddr j (ept 2 v i)=some (eptf 2 v i j):=fun j=>h.lst.faddr (by rw [h.len];exact hi)
theorem PcsV.ld0 (h:PcsV H v ps pcs){i:Nat}(hi:i<pcs.length):∀L,vload none L H (eptf 2 v i 0)=some (ps.getD i default).1:=fun L=>h.lst.rd1 (by rw [h.len];exact hi) (by omega)
theorem PcsV.ld1 (h:PcsV H v ps pcs){i:Nat}(hi:i<pcs.length):∀L,vload none L H (eptf 2 v i 1)=some (ps.getD i default).2:=fun L=>h.lst.rd1 (by rw [h.len];exact hi) (by omega)
theorem rd0:∀{x:V} {l:List V},rd none (x :: l) 0=some x:=by intro x l;simp [rd];rfl
theorem rd1':∀{x y:V} {l:List V},rd none (x :: y :: l) 1=some y:=by intro x y l;simp [rd];rfl
theorem rd2':∀{x y z:V} {l:List V},rd none (x :: y :: z :: l) 2=some z:=by intro x y z l;simp [rd];rfl
theorem rd3':∀{x y z u:V} {l:List V},rd none (x :: y :: z :: u :: l) 3=some u:=by intro x y z u l;simp [rd];rfl
theorem rdA2 {a b:V}:rd (some 2) [a,b] 0=some (.agg [a,b]):=Eq.trans rfl rfl
theorem rdA3 {a b c:V}:rd (some 3) [a,b,c] 0=some (.agg [a,b,c]):=Eq.trans rfl rfl
theorem spl2 {a b c d:V}:splice [a,b] 0 [c,d]=[c,d]:=by simp [splice]
theorem spl4 {a b c d a' b' c' d':V}:splice [a,b,c,d] 0 [a',b',c',d']=[a',b',c',d']:=by simp [splice]
theorem spl3 {a b c a' b' c':V}:splice [a,b,c] 0 [a',b',c']=[a',b',c']:=by simp [splice]
theorem surf_isSide {n:Int}(hK:K (.bool (decide (1≤n∧n≤200))) H):VCall tbl lim 46 [.int .i64 n] H K:=by
  refine VCall_fn tbl_at46 rfl ?_
  simp [vf46]
  by_cases h:1≤n
  · simpa [h] using hK
  · simpa [h] using hK
theorem surf_isAngle {n:Int}(hK:K (.bool (decide (1≤n∧n≤359))) H):VCall tbl lim 47 [.int .i64 n] H K:=by
  refine VCall_fn tbl_at47 rfl ?_
  simp [vf47]
  by_cases h:1≤n
  · simpa [h] using hK
  · simpa [h] using hK
theorem surf_allAngles {n:Int}(hn:0≤n∧n≤1000)(hK:K (.int .i64 (180*(n-2))) H):VCall tbl lim 48 [.int .i64 n] H K:=by
  refine VCall_fn tbl_at48 rfl ?_
  simp (disch:=omega) [vf48,wrap_i64]
  exact hK
theorem r02_within {n a b:Int}(hK:K (.bool (decide (a≤n∧n≤b))) H):VCall tbl lim 38 [.int .i64 n,.int .i64 a,.int .i64 b] H K:=by
  refine VCall_fn tbl_at38 rfl ?_
  simp [vf38]
  by_cases h:a≤n
  · simpa [h] using hK
  · simpa [h] using hK
def pcOkN (p:Pc)(i:Nat):Bool:=decide ((1≤p.s.getD i 0∧p.s.getD i 0≤200)∧(1≤p.a.getD i 0∧p.a.getD i 0≤359))
theorem pieceB_eq {p:Pc}:pieceB p=(decide (3≤p.s.length∧p.s.length≤6)&&(decide (p.a.length=p.s.length)&&((List.range p.s.length).all (pcOkN p)&&decide (p.a.sum=180*((p.s.length:Int)-2))))):=rfl
theorem pieceB_no {p:Pc}{i:Nat}(hi:i<p.s.length)(h:pcOkN p i=false):pieceB p=false:=by
  have:(List.range p.s.length).all (pcOkN p)=false:=by
    rw [Bool.eq_false_iff];intro g
    rw [List.all_eq_true] at g
    have:=g i (List.mem_range.2 hi)
    rw [h] at this;cases this
  rw [pieceB_eq,this];simp
theorem take_sum {l:List Int}{i:Nat}(hi:i<l.length):(l.take (i+1)).sum=(l.take i).sum+l.getD i 0:=by
  rw [take_snoc hi,List.sum_append];simp
theorem surf_isPiece {a b:V}{p:Pc}(ha:SlV H a p.s)(hb:SlV H b p.a)(hK:K (.bool (pieceB p)) H):VCall tbl lim 28 [.agg [a,b]] H K:=by
  refine VCall_fn tbl_at28 rfl ?_
  by_cases h1:3≤p.s.length∧p.s.length≤6
  case neg =>
    have hn:pieceB p=false:=by rw [pieceB_eq];simp [h1]
    rw [hn] at hK
    have e:(decide ((p.s.length:Int)<3)||decide (6<(p.s.length:Int)))=true:=by simp;omega
    simp [vf28,rd0,rd1',ha.len,hb.len,ha.stor,ha.one,hb.stor,hb.one,e]
    exact hK
  have e1:decide ((p.s.length:Int)<3)=false:=by simp;omega
  have e2:decide (6<(p.s.length:Int))=false:=by simp;omega
  by_cases h2:p.a.length=p.s.length
  case neg =>
    have hn:pieceB p=false:=by rw [pieceB_eq];simp [h2]
    rw [hn] at hK
    have e3:decide ((p.a.length:Int)=(p.s.length:Int))=false:=by simp;omega
    simp [vf28,rd0,rd1',ha.len,hb.len,ha.stor,ha.one,hb.stor,hb.one,e1,e2,e3]
    exact hK
  have e3:decide ((p.a.length:Int)=(p.s.length:Int))=true:=by simp;omega
  simp [vf28,rd0,rd1',ha.len,hb.len,ha.stor,ha.one,hb.stor,hb.one,e1,e2,e3]
  refine wLoop_up p.s.length (fun i fr L H'=>(fr 1=.lp 0 0∧fr 3=.int .i64 p.s.length∧fr 4=.int .i64 (p.a.take i).sum∧fr 22=.int .i64 p.s.length∧fr 23=.int .i64 i)∧L=[[a,b]]∧H'=H∧(0≤(p.a.take i).sum∧(p.a.take i).sum≤359*i)∧∀k,k<i→pcOkN p k=true) ⟨by simp,by simp,rfl,by simp,fun k hk=>by omega⟩ ?_
  rintro i hi fr L H1 ⟨⟨f1,f3,f4,f22,f23⟩,rfl,rfl,hsum,hall⟩
  simp [f1,f3,f4,f22,f23]
  refine cond_dec (fun ht => ?_) fun hfl => ?_
  · have ht:i<p.s.length:=by omega
    have aa:=ha.addr (i:=(i:Int)) (by omega)
    have ab:=hb.addr (i:=(i:Int)) (by omega)
    simp only [Int.toNat_natCast] at aa ab
    have la:=fun L=>ha.load (i:=i) ht (L:=L)
    have lb:=fun L=>hb.load (i:=i) (by omega) (L:=L)
    simp [f1,f3,f4,f22,f23,rd0,rd1',aa,la]
    refine surf_isSide ?_
    by_cases g1:1≤p.s.getD i 0∧p.s.getD i 0≤200
    case neg =>
      have:=pieceB_no ht (p:=p) (by simp [pcOkN,g1])
      rw [this] at hK
      simp [g1];exact hK
    simp [f1,f3,f4,f22,f23,rd0,rd1',g1,ab,lb]
    refine surf_isAngle ?_
    by_cases g2:1≤p.a.getD i 0∧p.a.getD i 0≤359
    case neg =>
      have:=pieceB_no ht (p:=p) (by simp [pcOkN,g2])
      rw [this] at hK
      simp [g2];exact hK
    have hs:=take_sum (l:=p.a) (i:=i) (by omega)
    simp (disch:=omega) [f1,f3,f4,f22,f23,rd0,rd1',g1,g2,ab,lb,wrap_i64]
    refine ⟨by omega,by rw [hs],by omega,fun k hk => ?_⟩
    by_cases e:k=i
    · subst e;simp [pcOkN,g1,g2]
    · exact hall k (by omega)
  · have:i=p.s.length:=by omega
    subst this
    have hall':(List.range p.s.length).all (pcOkN p)=true:=by
      rw [List.all_eq_true];intro k hk;exact hall k (List.mem_range.1 hk)
    have hsum':p.a.take p.s.length=p.a:=List.take_of_length_le (by omega)
    simp [f1,f3,f4,f22,f23]
    refine surf_allAngles (by omega) ?_
    rw [hsum'] at f4 ⊢
    have e:pieceB p=decide (p.a.sum=180*((p.s.length:Int)-2)):=by rw [pieceB_eq];simp [h1,h2,hall']
    rw [e] at hK
    simp [f4]
    exact hK
theorem r02_pieceOK {a b:V}{p:Pc}(ha:SlV H a p.s)(hb:SlV H b p.a)(hla:p.s.length≤100000)(hK:K (.bool (pieceB p)) H):VCall tbl lim 39 [.agg [a,b]] H K:=by
  refine VCall_fn tbl_at39 rfl ?_
  simp [vf39,rd0,rd1',ha.len,hb.len,ha.stor,ha.one,hb.stor,hb.one]
  refine r02_within ?_
  by_cases h1:3≤p.s.length∧p.s.length≤6
  case neg =>
    have hn:pieceB p=false:=by rw [pieceB_eq];simp [h1]
    rw [hn] at hK
    have e:decide ((3:Int)≤(p.s.length:Int)∧(p.s.length:Int)≤6)=false:=by simp only [decide_eq_false_iff_not];omega
    simp [e,rd0,rd1',ha.len,hb.len]
    exact hK
  have e1:decide ((3:Int)≤(p.s.length:Int)∧(p.s.length:Int)≤6)=true:=by simp only [decide_eq_true_eq];omega
  by_cases h2:p.a.length=p.s.length
  case neg =>
    have hn:pieceB p=false:=by rw [pieceB_eq];simp [h2]
    rw [hn] at hK
    have e3:decide ((p.a.length:Int)=(p.s.length:Int))=false:=by simp;omega
    simp [e1,e3,rd0,rd1',ha.len,hb.len]
    exact hK
  have e3:decide ((p.a.length:Int)=(p.s.length:Int))=true:=by simp;omega
  simp [e1,e3,rd0,rd1',ha.len,hb.len]
  refine wLoop_up p.s.length (fun i fr L H'=>(fr 1=.lp 0 0∧fr 3=.int .i64 p.s.length∧fr 4=.int .i64 (p.a.take i).sum∧fr 5=.int .i64 i)∧L=[[a,b]]∧H'=H∧(0≤(p.a.take i).sum∧(p.a.take i).sum≤359*i)∧∀k,k<i→pcOkN p k=true) ⟨by simp,by simp,rfl,by simp,fun k hk=>by omega⟩ ?_
  rintro i hi fr L H1 ⟨⟨f1,f3,f4,f5⟩,rfl,rfl,hsum,hall⟩
  simp [f1,f3,f4,f5]
  refine cond_dec (fun ht => ?_) fun hfl => ?_
  · have ht:i<p.s.length:=by omega
    have aa:=ha.addr (i:=(i:Int)) (by omega)
    have ab:=hb.addr (i:=(i:Int)) (by omega)
    simp only [Int.toNat_natCast] at aa ab
    have la:=fun L=>ha.load (i:=i) ht (L:=L)
    have lb:=fun L=>hb.load (i:=i) (by omega) (L:=L)
    simp [f1,f3,f4,f5,rd0,rd1',aa,la]
    refine r02_within ?_
    by_cases g1:1≤p.s.getD i 0∧p.s.getD i 0≤200
    case neg =>
      have:=pieceB_no ht (p:=p) (by simp [pcOkN,g1])
      rw [this] at hK
      simp [g1];exact hK
    simp [f1,f3,f4,f5,rd0,rd1',g1,ab,lb]
    refine r02_within ?_
    by_cases g2:1≤p.a.getD i 0∧p.a.getD i 0≤359
    case neg =>
      have:=pieceB_no ht (p:=p) (by simp [pcOkN,g2])
      rw [this] at hK
      simp [g2];exact hK
    have hs:=take_sum (l:=p.a) (i:=i) (by omega)
    simp (disch:=omega) [f1,f3,f4,f5,rd0,rd1',g1,g2,ab,lb,wrap_i64]
    refine ⟨by omega,by rw [hs],by omega,fun k hk => ?_⟩
    by_cases e:k=i
    · subst e;simp [pcOkN,g1,g2]
    · exact hall k (by omega)
  · have:i=p.s.length:=by omega
    subst this
    have hall':(List.range p.s.length).all (pcOkN p)=true:=by
      rw [List.all_eq_true];intro k hk;exact hall k (List.mem_range.1 hk)
    have hsum':p.a.take p.s.length=p.a:=List.take_of_length_le (by omega)
    have e:pieceB p=decide (p.a.sum=180*((p.s.length:Int)-2)):=by rw [pieceB_eq];simp [h1,h2,hall']
    rw [hsum'] at f4
    rw [e] at hK
    simp (disch:=omega) [f1,f3,f4,f5,wrap_i64]
    exact hK
end
end Go.Proofs.YtgjlhdggllakbaaGreatDoor.Vm
namespace Go.Proofs.YtgjlhdggllakbaaGreatDoor.Vm
open Go
set_option maxRecDepth 100000
set_option linter.unusedSimpArgs false
set_option linter.unusedVariables false
attribute [-simp] List.getD_eq_getElem?_getD
structure KeyE (α:Type)[DecidableEq α] where
  kv:α→V
  g:Bool
  ks:List CK
  agg:∀a,isAggV (kv a)=g
  eq:∀a b,eqCells ks (cellsV (kv a)) (cellsV (kv b))=some (decide (a=b))
  st:∀a,stor (kv a)=true
section
variable {α β:Type}[DecidableEq α]
def lkI (a:α):List (α×β)→Option (Nat×β)
  | []=>none
  | p :: r=>if a=p.1 then some (0,p.2) else (lkI a r).map fun q=>(q.1+1,q.2)
def look (a:α)(l:List (α×β)):Option β:=(lkI a l).map fun q=>q.2
def putA (a:α)(u:β)(l:List (α×β)):List (α×β):=match lkI a l with
  | some q=>l.set q.1 (a,u)
  | none=>l++[(a,u)]
theorem lkI_set {a:α} {u:β}:∀{l:List (α×β)} {i:Nat} {v:β},lkI a l=some (i,v)→i<l.length∧lkI a (l.set i (a,u))=some (i,u)∧∀b,b≠a→(lkI b (l.set i (a,u)))=lkI b l
  | [],i,v,h=>by simp [lkI] at h
  | p :: l,i,v,h=>by
    simp only [lkI] at h
    split at h
    · rename_i e
      cases h
      refine ⟨by simp,by simp [lkI],fun b hb => ?_⟩
      simp only [List.set_cons_zero,lkI]
      rw [if_neg hb,if_neg (by rw [←e];exact hb)]
    · rename_i e
      cases hm:lkI a l with
      | none=>rw [hm] at h;cases h
      | some q =>
        rw [hm] at h
        simp only [Option.map_some,Option.some.injEq,Prod.mk.injEq] at h
        obtain ⟨rfl,rfl⟩:=h
        obtain ⟨h1,h2,h3⟩:=lkI_set (u:=u) (i:=q.1) (v:=q.2) hm
        refine ⟨by simp;exact h1,?_,fun b hb => ?_⟩
        · simp only [List.set_cons_succ,lkI]
          rw [if_neg e,h2];rfl
        · simp only [List.set_cons_succ,lkI,h3 b hb]
theorem lkI_push {a:α} {u:β}:∀{l:List (α×β)},lkI a l=none→lkI a (l++[(a,u)])=some (l.length,u)∧∀b,b≠a→lkI b (l++[(a,u)])=lkI b l
  | [],_=>⟨by simp [lkI],fun b hb=>by simp [lkI,hb]⟩
  | p :: l,h=>by
    simp only [lkI] at h
    split at h
    · cases h
    · rename_i e
      have hm:lkI a l=none:=by
        cases hm:lkI a l with
        | none=>rfl
        | some q=>rw [hm] at h;cases h
      obtain ⟨h1,h2⟩:=lkI_push (u:=u) hm
      refine ⟨?_,fun b hb => ?_⟩
      · simp only [List.cons_append,lkI]
        rw [if_neg e,h1];rfl
      · simp only [List.cons_append,lkI,h2 b hb]
theorem look_put {a b:α}{u:β}{l:List (α×β)}:look b (putA a u l)=if b=a then some u else look b l:=by
  unfold look putA
  cases hm:lkI a l with
  | none =>
    obtain ⟨h1,h2⟩:=lkI_push (u:=u) hm
    by_cases e:b=a
    · subst e;rw [if_pos rfl];simp only [h1];rfl
    · rw [if_neg e];simp only [h2 b e]
  | some q =>
    obtain ⟨_,h1,h2⟩:=lkI_set (u:=u) (i:=q.1) (v:=q.2) hm
    by_cases e:b=a
    · subst e;rw [if_pos rfl];simp only [h1];rfl
    · rw [if_neg e];simp only [h2 b e]
theorem look_nil {b:α}:look b ([]:List (α×β))=none:=rfl
def mE (K:KeyE α)(vc:β→V)(l:List (α×β)):List (V×V):=l.map fun p=>(K.kv p.1,vc p.2)
theorem mE_set {K:KeyE α}{vc:β→V}{l:List (α×β)}{i:Nat}{a:α}{u:β}:(mE K vc l).set i (K.kv a,vc u)=mE K vc (l.set i (a,u)):=by simp [mE,List.map_set]
theorem mE_push {K:KeyE α}{vc:β→V}{l:List (α×β)}{a:α}{u:β}:mE K vc l++[(K.kv a,vc u)]=mE K vc (l++[(a,u)]):=by simp [mE]
theorem mfindE {K:KeyE α}{vc:β→V}{a:α}:∀{l:List (α×β)},mfind K.ks (K.kv a) (mE K vc l)=some ((lkI a l).map fun q=>(q.1,vc q.2))
  | []=>rfl
  | p :: l=>by
    have ih:=mfindE (K:=K) (vc:=vc) (a:=a) (l:=l)
    have hc:mE K vc (p :: l)=(K.kv p.1,vc p.2) :: mE K vc l:=rfl
    have hq:(if isAggV (K.kv a)==isAggV (K.kv p.1) then eqCells K.ks (cellsV (K.kv a)) (cellsV (K.kv p.1)) else none)=some (decide (a=p.1)):=by
      rw [K.agg,K.agg,K.eq];simp
    rw [hc]
    simp only [mfind,lkI]
    rw [hq,ih]
    by_cases e:a=p.1
    · rw [if_pos e];simp [e]
    · rw [if_neg e]
      simp only [e,decide_false]
      cases lkI a l<;>rfl
theorem keyOkE {K:KeyE α}{a:α}:keyOk K.g K.ks (K.kv a)=true:=by
  unfold keyOk
  rw [K.agg,K.st,K.eq];simp
section
variable {lim:Nat}{H:Hp}{K:KeyE α}{vc:β→V}{l:List (α×β)}{a:α}{u z:β}{b:Nat}
theorem vmgetE (hb:H[b]? = some (.map (mE K vc l))):vmget K.g K.ks false (vc z) H (.mp b) (K.kv a)=some (vc ((look a l).getD z)):=by
  simp only [vmget,hb,keyOkE,if_true,mfindE,look]
  cases lkI a l<;>rfl
theorem vmputE (hb:H[b]? = some (.map (mE K vc l)))(hlim:lim≤b)(hu:stor (vc u)=true):vmput lim K.g K.ks H (.mp b) (K.kv a) (vc u)=some (H.set b (.map (mE K vc (putA a u l)))):=by
  simp only [vmput,hlim,hb,keyOkE,hu,Bool.and_self,if_true,mfindE,putA]
  cases lkI a l with
  | none=>simp only [Option.map_none,mE_push]
  | some q=>simp only [Option.map_some,mE_set]
def entI (a:α)(l:List (α×β)):Nat:=match lkI a l with
  | some q=>q.1
  | none=>l.length
end
end
def kI:KeyE Int:=⟨fun a=>.int .i64 a,false,[.int .i64],fun _=>rfl,fun a b=>by simp [eqCells,eqCell,cellsV];by_cases e:a=b<;>simp [e],fun _=>rfl⟩
def kI2:KeyE (Int×Int):=⟨fun a=>.agg [.int .i64 a.1,.int .i64 a.2],true,[.int .i64,.int .i64],fun _=>rfl,fun a b=>by
  obtain ⟨a1,a2⟩:=a
  obtain ⟨b1,b2⟩:=b
  simp only [eqCells,eqCell,cellsV,and_self,if_true,Bool.and_true,Option.some.injEq]
  by_cases e:a1=b1<;>by_cases e2:a2=b2<;>simp [e,e2],fun _=>rfl⟩
def kI3:KeyE (Int×Int×Int):=⟨fun a=>.agg [.int .i64 a.1,.int .i64 a.2.1,.int .i64 a.2.2],true,[.int .i64,.int .i64,.int .i64],fun _=>rfl,fun a b=>by
  obtain ⟨a1,a2,a3⟩:=a
  obtain ⟨b1,b2,b3⟩:=b
  simp only [eqCells,eqCell,cellsV,and_self,if_true,Bool.and_true,Option.some.injEq]
  by_cases e:a1=b1<;>by_cases e2:a2=b2<;>by_cases e3:a3=b3<;>simp [e,e2,e3],fun _=>rfl⟩
end Go.Proofs.YtgjlhdggllakbaaGreatDoor.Vm
namespace Go.Proofs.YtgjlhdggllakbaaGreatDoor.Vm
open Go
set_option maxRecDepth 100000
set_option maxHeartbeats 1000000
set_option linter.unusedSimpArgs false
set_option linter.unusedVariables false
attribute [-simp] List.getD_eq_getElem?_getD
theorem lastO {α:Type}{X:List α}{c:α}:(X++[c])[X.length]? = some c:=by simp
theorem lastS {α:Type}{X:List α}{c d:α}:(X++[c]).set X.length d=X++[d]:=by simp
theorem keepL {L:Lo}{q:Nat}{c:List V}(h:L[q]? = some c):∀d,(L++[d])[q]? = some c:=fun d=>by
  rw [List.getElem?_append_left (List.getElem?_eq_some_iff.1 h).1];exact h
section
variable {lim:Nat}{H H':Hp}{K:V→Hp→Prop}{v pv sv:V}{ps:List (V×V)}{pcs P:List Pc}{S:List Sm}{e:Int}{ws:List V}{c:Cp}
theorem sdOk_no {pcs:List Pc}{a i:Int}(h:¬(0≤a∧a<pcs.length)):sdOk pcs a i=false:=by simp only [sdOk,h,decide_false,Bool.false_and]
theorem sdOk_at {pcs:List Pc}{a i:Int}(h:0≤a∧a<pcs.length):sdOk pcs a i=decide (0≤i∧i<ksN pcs a.toNat):=by simp only [sdOk,h,and_self,decide_true,Bool.true_and]
theorem surf_hasSide {a i:Int}(hp:PcsV H pv ps P)(hs:stor sv=true)(hs1:cellsV sv=[sv])(hK:K (.bool (sdOk P a i)) H):VCall tbl lim 49 [.agg [pv,sv,.int .i64 e],.int .i64 a,.int .i64 i] H K:=by
  refine VCall_fn tbl_at49 rfl ?_
  by_cases h1:0≤a
  case neg =>
    rw [sdOk_no (by omega)] at hK
    simp [vf49,rd0,hp.lst.stor,hp.lst.one,hp.vlen,hs,hs1,h1]
    exact hK
  by_cases h2:a<P.length
  case neg =>
    rw [sdOk_no (by omega)] at hK
    simp [vf49,rd0,hp.lst.stor,hp.lst.one,hp.vlen,hs,hs1,h1,h2]
    exact hK
  rw [sdOk_at ⟨h1,h2⟩] at hK
  by_cases h3:0≤i
  case neg =>
    rw [decide_eq_false (by omega)] at hK
    simp [vf49,rd0,hp.lst.stor,hp.lst.one,hp.vlen,hs,hs1,h1,h2,h3]
    exact hK
  have hat:a.toNat<P.length:=by omega
  have ad:=hp.addr (i:=a) ⟨h1,h2⟩
  have hl:=(hp.at' a.toNat hat).1.len
  have e4:decide (0≤i∧i<(ksN P a.toNat:Int))=decide (i<((P.getD a.toNat default).s.length:Int)):=by
    rw [decide_eq_decide];simp only [ksN];omega
  rw [e4] at hK
  simp [vf49,rd0,hp.lst.stor,hp.lst.one,hp.vlen,hs,hs1,h1,h2,h3,ad,hp.fa hat,hp.ld0 hat,hl]
  exact hK
theorem r02_side {a i:Int}(hp:PcsV H pv ps P)(hs:stor sv=true)(hs1:cellsV sv=[sv])(hb:P.length≤1000000∧∀q,q<P.length→ksN P q≤1000000)(hK:K (.bool (sdOk P a i)) H):VCall tbl lim 62 [.agg [pv,sv,.int .i64 e],.int .i64 a,.int .i64 i] H K:=by
  refine VCall_fn tbl_at62 rfl ?_
  simp (disch:=omega) [vf62,rd0,hp.lst.stor,hp.lst.one,hp.vlen,hs,hs1,wrap_i64]
  refine r02_within ?_
  by_cases h1:0≤a∧a≤(P.length:Int)-1
  case neg =>
    rw [sdOk_no (by omega)] at hK
    simp [h1]
    exact hK
  have h2:0≤a∧a<(P.length:Int):=by omega
  rw [sdOk_at h2] at hK
  have hat:a.toNat<P.length:=by omega
  have ad:=hp.addr (i:=a) h2
  have hl:=(hp.at' a.toNat hat).1.len
  have hk:=hb.2 a.toNat hat
  simp only [ksN] at hk
  simp (disch:=omega) [rd0,h1,ad,hp.fa hat,hp.ld0 hat,hl,wrap_i64]
  refine r02_within ?_
  have e4:decide (0≤i∧i<(ksN P a.toNat:Int))=decide (0≤i∧i≤((P.getD a.toNat default).s.length:Int)-1):=by
    rw [decide_eq_decide];simp only [ksN];omega
  rw [e4] at hK
  simpa using hK
theorem r02_uses {s:Sm}{a i:Int}(hK:K (.bool (usesB s a i)) H):VCall tbl lim 63 [.agg (smC.cells s),.int .i64 a,.int .i64 i] H K:=by
  refine VCall_fn tbl_at63 rfl ?_
  simp only [usesB] at hK
  by_cases h1:s.A=a<;>by_cases h2:s.I=i<;>by_cases h3:s.B=a<;>by_cases h4:s.J=i <;>
  simp [vf63,smC,rd0,rd1',rd2',rd3',h1,h2,h3,h4] at hK ⊢<;>exact hK
def usedB (pre:List Sm)(s:Sm):Bool:=pre.any fun t=>usesB t s.A s.I||usesB t s.B s.J
def selfB (s:Sm):Bool:=decide (s.A=s.B)&&decide (s.I=s.J)
def dfS (pcs:List Pc)(s:Sm):Int:=(pcs.getD s.A.toNat default).s.getD s.I.toNat 0-(pcs.getD s.B.toNat default).s.getD s.J.toNat 0
theorem seamE_eq {pcs:List Pc}{ease:Int}{pre:List Sm}{s:Sm}:seamE pcs ease pre s=if !(sdOk pcs s.A s.I&&sdOk pcs s.B s.J) then 5 else if selfB s||usedB pre s then 7 else if ease<dfS pcs s∨ease < -dfS pcs s then 8 else 0:=rfl
theorem getD_mem {α:Type}[Inhabited α]{l:List α}{i:Nat}(h:i<l.length):l.getD i default∈l:=by
  rw [List.getD_eq_getElem?_getD,List.getElem?_eq_getElem h];exact List.getElem_mem h
theorem usedB_take {S:List Sm}{n:Nat}{s:Sm}(hn:n≤S.length):usedB (S.take n) s=true↔∃k,k<n∧(usesB (S.getD k default) s.A s.I||usesB (S.getD k default) s.B s.J)=true:=by
  simp only [usedB,List.any_eq_true]
  constructor
  · rintro ⟨t,h1,h2⟩
    obtain ⟨k,hk,rfl⟩:=List.getElem_of_mem h1
    rw [List.length_take] at hk
    refine ⟨k,by omega,?_⟩
    rw [List.getElem_take] at h2
    rw [List.getD_eq_getElem?_getD,List.getElem?_eq_getElem (by omega)];exact h2
  · rintro ⟨k,h1,h2⟩
    refine ⟨_,?_,h2⟩
    have:S.getD k default=(S.take n).getD k default:=by
      simp only [List.getD_eq_getElem?_getD,List.getElem?_take_of_lt h1]
    rw [this]
    exact getD_mem (by rw [List.length_take];omega)
theorem side_bd {p:Pc}(h:pieceB p=true){i:Nat}(hi:i<p.s.length):1≤p.s.getD i 0∧p.s.getD i 0≤200:=((piece_ok h).2.2.1 i hi).1
def PcsOk (P:List Pc):Prop:=∀q,q<P.length→pieceB (P.getD q default)=true
theorem dfS_bd {s:Sm}(hok:PcsOk P)(h1:sdOk P s.A s.I=true)(h2:sdOk P s.B s.J=true) : -199≤dfS P s∧dfS P s≤199:=by
  obtain ⟨a1,a2,_,_⟩:=sd_ok h1
  obtain ⟨b1,b2,_,_⟩:=sd_ok h2
  have:=side_bd (hok _ a1) a2
  have:=side_bd (hok _ b1) b2
  simp only [dfS];omega
theorem r02_seamError {n:Nat} (hp:PcsV H pv ps P) (hsv:LstV smC H sv S) (hn:n<S.length) (hok:PcsOk P) (hb:P.length≤1000000∧S.length≤1000000) (he:0≤e∧e≤5) (hK:K (.int .i64 (seamE P e (S.take n) (S.getD n default))) H) :
    VCall tbl lim 40 [.agg [pv,sv,.int .i64 e],.int .i64 n] H K:=by
  refine VCall_fn tbl_at40 rfl ?_
  have hb2:P.length≤1000000∧∀q,q<P.length→ksN P q≤1000000:=⟨hb.1,fun q hq=>by
    have:ksN P q≤6:=(piece_ok (hok q hq)).1.2
    omega⟩
  have ld:=fun L=>hsv.load hn (L:=L)
  generalize hs:S.getD n default=s at ld hK
  have ec:smC.cells s=[.int .i64 s.A,.int .i64 s.I,.int .i64 s.B,.int .i64 s.J]:=rfl
  rw [ec] at ld
  rw [seamE_eq] at hK
  simp [vf40,rd0,rd1',rd2',rd3',hp.lst.stor,hp.lst.one,hsv.stor,hsv.one,hsv.at hn,ld,zsV,spl4,splice,rdA3]
  refine r02_side hp hsv.stor hsv.one hb2 ?_
  by_cases h1:sdOk P s.A s.I=true
  case neg =>
    have h1:sdOk P s.A s.I=false:=by simpa using h1
    simp [h1] at hK ⊢;exact hK
  simp [h1,rd0,rd1',rd2',rd3',rdA3]
  refine r02_side hp hsv.stor hsv.one hb2 ?_
  by_cases h2:sdOk P s.B s.J=true
  case neg =>
    have h2:sdOk P s.B s.J=false:=by simpa using h2
    simp [h1,h2] at hK ⊢;exact hK
  simp only [h1,h2,Bool.and_self,Bool.not_true,Bool.false_eq_true,if_false] at hK
  by_cases h3:selfB s=true
  · simp only [h3,Bool.true_or,if_true] at hK
    simp only [selfB,Bool.and_eq_true,decide_eq_true_eq] at h3
    simp [h2,rd0,rd1',rd2',rd3',h3.1,h3.2];exact hK
  have h3:selfB s=false:=by simpa using h3
  simp only [h3,Bool.false_or] at hK
  have key:∀Q:Prop,(¬(s.A=s.B∧s.I=s.J)→Q)→Q:=fun Q h=>h fun ⟨e1,e2⟩=>by simp [selfB,e1,e2] at h3
  refine key _ fun h3' => ?_
  have h3b:(decide (s.A=s.B)=false)∨(decide (s.A=s.B)=true∧decide (s.I=s.J)=false):=by
    by_cases e1:s.A=s.B
    · right;exact ⟨decide_eq_true e1,decide_eq_false fun e2=>h3' ⟨e1,e2⟩⟩
    · left;exact decide_eq_false e1
  have e3:(decide (s.A=s.B)&&decide (s.I=s.J))=false:=h3
  rcases h3b with g | ⟨g,g'⟩
  all_goals
    simp [h2,rd0,rd1',rd2',rd3',g]
    try simp [g']
    refine wLoop_up n (fun k fr L H'=>(fr 1=.int .i64 n∧fr 2=.lp 0 0∧fr 5=.lp 1 0∧fr 6=.int .i64 k)∧L=[[pv,sv,.int .i64 e],[.int .i64 s.A,.int .i64 s.I,.int .i64 s.B,.int .i64 s.J]]∧H'=H∧∀j,j<k→(usesB (S.getD j default) s.A s.I||usesB (S.getD j default) s.B s.J)=false) ⟨by simp,by simp,rfl,fun j hj=>by omega⟩ ?_
    rintro k hk fr L H1 ⟨⟨f1,f2,f5,f6⟩,rfl,rfl,hall⟩
    simp [f1,f2,f5,f6]
    refine cond_dec (fun ht => ?_) fun hfl => ?_
    · have ht:k<n:=by omega
      have hkl:k<S.length:=by omega
      have ldk:=fun L=>hsv.load hkl (L:=L)
      simp [f1,f2,f5,f6,rd0,rd1',rd2',rd3',hsv.at hkl,ldk]
      refine r02_uses ?_
      by_cases u1:usesB (S.getD k default) s.A s.I=true
      · have hu:usedB (S.take n) s=true:=(usedB_take (by omega)).2 ⟨k,ht,by simp [u1]⟩
        simp only [hu,if_true] at hK
        simp [u1];exact hK
      have u1:usesB (S.getD k default) s.A s.I=false:=by simpa using u1
      simp [f1,f2,f5,f6,rd0,rd1',rd2',rd3',hsv.at hkl,ldk,u1]
      refine r02_uses ?_
      by_cases u2:usesB (S.getD k default) s.B s.J=true
      · have hu:usedB (S.take n) s=true:=(usedB_take (by omega)).2 ⟨k,ht,by simp [u2]⟩
        simp only [hu,if_true] at hK
        simp [u2];exact hK
      have u2:usesB (S.getD k default) s.B s.J=false:=by simpa using u2
      simp (disch:=omega) [f1,f2,f5,f6,u1,u2,wrap_i64]
      refine ⟨ht,fun j hj => ?_⟩
      by_cases ej:j=k
      · subst ej;simp [u1,u2]
      · have:=hall j (by omega)
        simpa using this
    · have:k=n:=by omega
      subst this
      have hu:usedB (S.take k) s=false:=by
        cases hq:usedB (S.take k) s with
        | false=>rfl
        | true =>
          obtain ⟨j,h4,h5⟩:=(usedB_take (by omega)).1 hq
          rw [hall j h4] at h5;cases h5
      simp only [hu,Bool.false_eq_true,if_false] at hK
      obtain ⟨a1,a2,a3,a4⟩:=sd_ok h1
      obtain ⟨b1,b2,b3,b4⟩:=sd_ok h2
      have ad1:=hp.addr (i:=s.A) (by omega)
      have ad2:=hp.addr (i:=s.B) (by omega)
      have ai1:=(hp.at' _ a1).1.addr (i:=s.I) (by simp only [ksN] at a2;omega)
      have ai2:=(hp.at' _ b1).1.addr (i:=s.J) (by simp only [ksN] at b2;omega)
      have li1:=fun L=>(hp.at' _ a1).1.load (i:=s.I.toNat) a2 (L:=L)
      have li2:=fun L=>(hp.at' _ b1).1.load (i:=s.J.toNat) b2 (L:=L)
      have hd:=dfS_bd hok h1 h2
      have ed:(P.getD s.A.toNat default).s.getD s.I.toNat 0-(P.getD s.B.toNat default).s.getD s.J.toNat 0=dfS P s:=rfl
      have w1:IntKind.wrap .i64 (dfS P s)=dfS P s:=wrap_i64 (by omega) (by omega)
      have w2:IntKind.wrap .i64 (-dfS P s) = -dfS P s:=wrap_i64 (by omega) (by omega)
      simp [f1,f2,f5,f6,rd0,rd1',rd2',rd3',ad1,ad2,hp.fa a1,hp.fa b1,hp.ld0 a1,hp.ld0 b1,ai1,ai2,li1,li2,ed,w1,w2]
      by_cases hc:e<dfS P s
      · simp only [hc,true_or,if_true] at hK
        simp [hc];exact hK
      · by_cases hc2:e < -dfS P s
        · simp only [hc2,or_true,if_true] at hK
          simp [hc,hc2];exact hK
        · simp only [hc,hc2,or_self,if_false] at hK
          simp [hc,hc2];exact hK
end
end Go.Proofs.YtgjlhdggllakbaaGreatDoor.Vm
namespace Go.Proofs.YtgjlhdggllakbaaGreatDoor.Vm
open Go
set_option maxRecDepth 100000
set_option maxHeartbeats 1000000
set_option linter.unusedSimpArgs false
set_option linter.unusedVariables false
attribute [-simp] List.getD_eq_getElem?_getD
section
variable {lim:Nat}{H H':Hp}{K:V→Hp→Prop}{v pv sv:V}{ps:List (V×V)}{pcs P:List Pc}{S:List Sm}{e:Int}{ws:List V}{c:Cp}
theorem seams_more {pcs:List Pc}{ease:Int}{sm:List Sm}{k i:Nat}(h:seamE pcs ease (sm.take i) (sm.getD i default)=0):seamsE pcs ease sm (k+1) i=seamsE pcs ease sm k (i+1):=by
  simp only [seamsE,h,if_true]
theorem seams_stop {pcs:List Pc}{ease:Int}{sm:List Sm}{k i:Nat}(h:seamE pcs ease (sm.take i) (sm.getD i default)≠0):seamsE pcs ease sm (k+1) i=seamE pcs ease (sm.take i) (sm.getD i default):=by
  simp only [seamsE,h,if_false]
theorem seams_upto {pcs:List Pc}{ease:Int}{sm:List Sm}:∀{n:Nat},n≤sm.length→(∀t,t<n→seamE pcs ease (sm.take t) (sm.getD t default)=0)→seamsE pcs ease sm sm.length 0=seamsE pcs ease sm (sm.length-n) n
  | 0,_,_=>rfl
  | n+1,hn,h=>by
    rw [seams_upto (n:=n) (by omega) (fun t ht=>h t (by omega)),show sm.length-n=sm.length-(n+1)+1 by omega,seams_more (h n (by omega))]
theorem seams_err {pcs:List Pc}{ease:Int}{sm:List Sm}{n:Nat}(hn:n<sm.length)(h:∀t,t<n→seamE pcs ease (sm.take t) (sm.getD t default)=0)(hne:seamE pcs ease (sm.take n) (sm.getD n default)≠0):seamsE pcs ease sm sm.length 0=seamE pcs ease (sm.take n) (sm.getD n default):=by
  rw [seams_upto (n:=n) (by omega) h,show sm.length-n=sm.length-(n+1)+1 by omega,seams_stop hne]
theorem seams_fine {pcs:List Pc}{ease:Int}{sm:List Sm}(h:∀t,t<sm.length→seamE pcs ease (sm.take t) (sm.getD t default)=0):seamsE pcs ease sm sm.length 0=0:=by
  rw [seams_upto (n:=sm.length) (Nat.le_refl _) h,Nat.sub_self];rfl
theorem pcs_all {P:List Pc}:((List.range P.length).all fun q=>pieceB (P.getD q default))=true↔PcsOk P:=by
  rw [List.all_eq_true]
  exact ⟨fun h q hq=>h q (List.mem_range.2 hq),fun h q hq=>h q (List.mem_range.1 hq)⟩
theorem r02_Validate (hc:CapV H ws c) (hb:c.P.length≤1000000∧c.S.length≤1000000∧∀q,q<c.P.length→(c.P.getD q default).s.length≤100000) (hK:K (.int .i64 (capE c)) H):VCall tbl lim 18 [.agg ws] H K:=by
  cases hc with
  | mk hp hsv =>
  rename_i pv sv ps P S e
  simp only at hb
  refine VCall_fn tbl_at18 rfl ?_
  simp [vf18,rd0,rd1',rd2',hp.lst.stor,hp.lst.one,hsv.stor,hsv.one,hp.vlen]
  refine r02_within ?_
  unfold capE at hK
  simp only at hK
  by_cases h1:P.length<1∨8<P.length
  · have e1:decide ((1:Int)≤(P.length:Int)∧(P.length:Int)≤8)=false:=by rw [decide_eq_false_iff_not];omega
    rw [if_pos h1] at hK
    simp only [e1]
    simp;exact hK
  have e1:decide ((1:Int)≤(P.length:Int)∧(P.length:Int)≤8)=true:=by rw [decide_eq_true_eq];omega
  rw [if_neg h1] at hK
  simp only [e1]
  simp [rd0,rd1',rd2']
  refine r02_within ?_
  by_cases h2:e<0∨5<e
  · have e2:decide (0≤e∧e≤5)=false:=by rw [decide_eq_false_iff_not];omega
    rw [if_pos h2] at hK
    simp only [e2]
    simp;exact hK
  have e2:decide (0≤e∧e≤5)=true:=by rw [decide_eq_true_eq];omega
  rw [if_neg h2] at hK
  simp only [e2]
  simp
  refine wLoop_up P.length (fun i fr L H'=>(fr 1=.lp 0 0∧fr 3=.int .i64 i)∧L=[[pv,sv,.int .i64 e]]∧H'=H∧∀k,k<i→pieceB (P.getD k default)=true) ⟨by simp,rfl,rfl,fun k hk=>by omega⟩ ?_
  rintro i hi fr L H1 ⟨⟨f1,f3⟩,rfl,rfl,hall⟩
  simp [f1,f3,rd0,hp.vlen]
  refine cond_dec (fun ht => ?_) fun hfl => ?_
  · have ht:i<P.length:=by omega
    obtain ⟨s1,s2⟩:=hp.at' i ht
    simp [f1,f3,rd0,hp.at ht,hp.ld2 ht,s1.stor,s2.stor]
    refine r02_pieceOK (p:=P.getD i default) s1 s2 (hb.2.2 i ht) ?_
    by_cases g:pieceB (P.getD i default)=true
    · simp (disch:=omega) [f1,f3,g,wrap_i64]
      refine ⟨ht,fun k hk => ?_⟩
      by_cases ek:k=i
      · subst ek;exact g
      · exact hall k (by omega)
    · have hn:((List.range P.length).all fun q=>pieceB (P.getD q default))=false:=by
        rw [Bool.eq_false_iff];intro hh;exact g (pcs_all.1 hh i ht)
      rw [hn] at hK
      have g:pieceB (P.getD i default)=false:=by simpa using g
      simp at hK
      simp [g];exact hK
  · have:i=P.length:=by omega
    subst this
    have hok:PcsOk P:=hall
    rw [pcs_all.2 hok] at hK
    simp only [Bool.not_true,Bool.false_eq_true,if_false] at hK
    simp [f1,f3]
    refine wLoop_up S.length (fun i fr L H'=>(fr 1=.lp 0 0∧fr 4=.int .i64 i)∧L=[[pv,sv,.int .i64 e]]∧H'=H1∧∀t,t<i→seamE P e (S.take t) (S.getD t default)=0) ⟨by simp [f1],rfl,rfl,fun k hk=>by omega⟩ ?_
    clear f1 f3 hall fr hfl hi
    rintro i hi fr L H2 ⟨⟨f1,f4⟩,rfl,rfl,hall⟩
    simp [f1,f4,rd1',hsv.len]
    refine cond_dec (fun ht => ?_) fun hfl => ?_
    · have ht:i<S.length:=by omega
      simp [f1,f4,rdA3]
      refine r02_seamError hp hsv ht hok ⟨hb.1,hb.2.1⟩ (by omega) ?_
      by_cases g:seamE P e (S.take i) (S.getD i default)=0
      · simp (disch:=omega) [f1,f4,g,wrap_i64]
        refine ⟨ht,fun k hk => ?_⟩
        by_cases ek:k=i
        · subst ek;exact g
        · exact hall k (by omega)
      · rw [seams_err ht hall g] at hK
        simp [g];exact hK
    · have:i=S.length:=by omega
      subst this
      rw [seams_fine hall] at hK
      simp;exact hK
def SewR (M:List ((Int×Int)×Bool))(pre:List Sm):Prop:=∀a i,(look (a,i) M).getD false=pre.any fun t=>usesB t a i
theorem SewR.nil:SewR [] []:=fun a i=>by simp [look_nil]
theorem SewR.snoc {M:List ((Int×Int)×Bool)} {pre:List Sm} {s:Sm} (h:SewR M pre):SewR (putA (s.B,s.J) true (putA (s.A,s.I) true M)) (pre++[s]):=by
  intro a i
  rw [look_put,look_put,List.any_append,←h a i]
  simp only [List.any_cons,List.any_nil,Bool.or_false,usesB,Prod.mk.injEq]
  by_cases h1:a=s.B∧i=s.J
  · simp [h1.1,h1.2]
  · rw [if_neg h1]
    by_cases h2:a=s.A∧i=s.I
    · simp [h2.1,h2.2]
    · rw [if_neg h2]
      have e1:(decide (s.A=a)&&decide (s.I=i))=false:=by
        rw [Bool.and_eq_false_iff]
        by_cases e:s.A=a
        · right;rw [decide_eq_false_iff_not];exact fun e2=>h2 ⟨e.symm,e2.symm⟩
        · left;exact decide_eq_false e
      have e2:(decide (s.B=a)&&decide (s.J=i))=false:=by
        rw [Bool.and_eq_false_iff]
        by_cases e:s.B=a
        · right;rw [decide_eq_false_iff_not];exact fun e2=>h1 ⟨e.symm,e2.symm⟩
        · left;exact decide_eq_false e
      rw [e1,e2];simp
theorem used_or {pre:List Sm}{s:Sm}:usedB pre s=((pre.any fun t=>usesB t s.A s.I)||(pre.any fun t=>usesB t s.B s.J)):=by
  induction pre with
  | nil=>rfl
  | cons t pre ih =>
    simp only [usedB,List.any_cons] at ih ⊢
    rw [ih]
    cases usesB t s.A s.I<;>cases usesB t s.B s.J<;>simp
theorem take_next {S:List Sm}{n:Nat}(hn:n<S.length):S.take (n+1)=S.take n++[S.getD n default]:=by
  rw [List.take_add_one,List.getElem?_eq_getElem hn,List.getD_eq_getElem?_getD,List.getElem?_eq_getElem hn];rfl
theorem veqA_22 {a b c d:Int}:veqA false [.int .i64,.int .i64] (.agg [.int .i64 a,.int .i64 b]) (.agg [.int .i64 c,.int .i64 d])=some (.bool (decide (a=c)&&decide (b=d))):=by rw [veqA_2];simp
theorem zs4:ints (zs 4)=[.int .i64 0,.int .i64 0,.int .i64 0,.int .i64 0]:=Eq.trans rfl rfl
theorem surf_validateSeams (hp:PcsV H pv ps P) (hsv:LstV smC H sv S) (hok:PcsOk P) (hb:S.length≤1000000) (he:0≤e∧e≤5) (hlim:lim≤H.length) (hK:∀H',HX H H'→K (.int .i64 (seamsE P e S S.length 0)) H') :
    VCall tbl lim 29 [.agg [pv,sv,.int .i64 e]] H K:=by
  refine VCall_fn tbl_at29 rfl ?_
  simp [vf29,rd0,rd1',rd2',hp.lst.stor,hp.lst.one,hsv.stor,hsv.one,hsv.len]
  refine wLoop_up S.length (fun i fr L H'=>∃M X,(fr 1=.lp 0 0∧fr 3=.mp H.length∧fr 11=sv∧fr 12=.int .i64 S.length∧fr 13=.int .i64 i)∧L=[pv,sv,.int .i64 e] :: X∧H'=H++[.map (mE kI2 .bool M)]∧SewR M (S.take i)∧∀t,t<i→seamE P e (S.take t) (S.getD t default)=0) ⟨[],[],by simp,by simp,rfl,by simpa using SewR.nil,fun k hk=>by omega⟩ ?_
  rintro i hi fr L H1 ⟨M,X,⟨f1,f3,f11,f12,f13⟩,rfl,rfl,hM,hall⟩
  simp [f1,f3,f11,f12,f13]
  have hx:∀x,HX H (H++[x]):=fun x=>HX.push
  refine cond_dec (fun ht => ?_) fun hfl => ?_
  · have ht:i<S.length:=by omega
    have hp1:=hp.mono (hx (.map (mE kI2 .bool M)))
    have hs1:=hsv.mono (hx (.map (mE kI2 .bool M)))
    have ld:=fun L=>hs1.load ht (L:=L)
    generalize hs:S.getD i default=s at ld
    have ec:smC.cells s=[.int .i64 s.A,.int .i64 s.I,.int .i64 s.B,.int .i64 s.J]:=rfl
    rw [ec] at ld
    have hseam:=seamE_eq (pcs:=P) (ease:=e) (pre:=S.take i) (s:=s)
    simp [f1,f3,f11,f12,f13,hs1.at ht,ld,zs4,lastO,lastS,splice,spl4,rd0,rd1',rd2',rd3',rdA3,hp.lst.stor,hp.lst.one,hsv.stor,hsv.one]
    refine surf_hasSide hp1 hsv.stor hsv.one ?_
    by_cases h1:sdOk P s.A s.I=true
    case neg =>
      have h1:sdOk P s.A s.I=false:=by simpa using h1
      have h5:seamE P e (S.take i) (S.getD i default)=5:=by rw [hs,hseam];simp [h1]
      have hK5:=hK _ (hx (.map (mE kI2 .bool M)))
      rw [seams_err ht hall (by omega),h5] at hK5
      simp [h1];exact hK5
    simp [f1,f3,f11,f12,f13,h1,lastO,lastS,rd0,rd1',rd2',rd3',rdA3,hp.lst.stor,hp.lst.one,hsv.stor,hsv.one]
    refine surf_hasSide hp1 hsv.stor hsv.one ?_
    by_cases h2:sdOk P s.B s.J=true
    case neg =>
      have h2:sdOk P s.B s.J=false:=by simpa using h2
      have h5:seamE P e (S.take i) (S.getD i default)=5:=by rw [hs,hseam];simp [h1,h2]
      have hK5:=hK _ (hx (.map (mE kI2 .bool M)))
      rw [seams_err ht hall (by omega),h5] at hK5
      simp [h2];exact hK5
    rw [h1,h2] at hseam
    simp only [Bool.and_self,Bool.not_true,Bool.false_eq_true,if_false] at hseam
    have hg:∀a b,vmget true [.int .i64,.int .i64] false (.bool false) (H++[.map (mE kI2 .bool M)]) (.mp H.length) (.agg [.int .i64 a,.int .i64 b])=some (.bool ((S.take i).any fun t=>usesB t a b)):=by
      intro a b
      have:=vmgetE (K:=kI2) (vc:=V.bool) (l:=M) (a:=(a,b)) (z:=false) (b:=H.length) (H:=H++[.map (mE kI2 .bool M)]) (by simp)
      rw [hM a b] at this
      exact this
    have hself:veqA false [.int .i64,.int .i64] (.agg [.int .i64 s.A,.int .i64 s.I]) (.agg [.int .i64 s.B,.int .i64 s.J])=some (.bool (selfB s)):=veqA_22
    have h7:(selfB s||usedB (S.take i) s)=true→K (.int .i64 7) (H++[.map (mE kI2 .bool M)]):=by
      intro hh
      have h5:seamE P e (S.take i) (S.getD i default)=7:=by rw [hs,hseam,if_pos hh]
      have hK5:=hK _ (hx (.map (mE kI2 .bool M)))
      rwa [seams_err ht hall (by omega),h5] at hK5
    rw [used_or] at h7
    by_cases h3:selfB s=true
    · have h7:=h7 (by simp [h3])
      simp [f1,f3,f11,f12,f13,h2,lastO,lastS,rd0,rd1',rd2',rd3',rdA3,rdA2,hp.lst.stor,hp.lst.one,hsv.stor,hsv.one,splice,hself,hg,h3]
      exact h7
    have h3:selfB s=false:=by simpa using h3
    by_cases u1:((S.take i).any fun t=>usesB t s.A s.I)=true
    · have h7:=h7 (by simp [u1])
      simp [f1,f3,f11,f12,f13,h2,lastO,lastS,rd0,rd1',rd2',rd3',rdA3,rdA2,hp.lst.stor,hp.lst.one,hsv.stor,hsv.one,splice,hself,hg,h3,u1,-List.any_eq_true]
      exact h7
    have u1:((S.take i).any fun t=>usesB t s.A s.I)=false:=Bool.eq_false_iff.2 u1
    by_cases u2:((S.take i).any fun t=>usesB t s.B s.J)=true
    · have h7:=h7 (by simp [u2])
      simp [f1,f3,f11,f12,f13,h2,lastO,lastS,rd0,rd1',rd2',rd3',rdA3,rdA2,hp.lst.stor,hp.lst.one,hsv.stor,hsv.one,splice,hself,hg,h3,u1,u2,-List.any_eq_true]
      exact h7
    have u2:((S.take i).any fun t=>usesB t s.B s.J)=false:=Bool.eq_false_iff.2 u2
    clear h7
    have hseam:seamE P e (S.take i) s=if e<dfS P s∨e < -dfS P s then 8 else 0:=by
      rw [hseam,used_or,h3,u1,u2];rfl
    have hput:∀(M:List ((Int×Int)×Bool)) a b,vmput lim true [.int .i64,.int .i64] (H++[.map (mE kI2 .bool M)]) (.mp H.length) (.agg [.int .i64 a,.int .i64 b]) (.bool true)=some (H++[.map (mE kI2 .bool (putA (a,b) true M))]):=by
      intro M a b
      have:=vmputE (K:=kI2) (vc:=V.bool) (l:=M) (a:=(a,b)) (u:=true) (b:=H.length) (H:=H++[.map (mE kI2 .bool M)]) (lim:=lim) (by simp) hlim rfl
      rw [lastS] at this
      exact this
    have hp2:=hp.mono (hx (.map (mE kI2 .bool (putA (s.B,s.J) true (putA (s.A,s.I) true M)))))
    obtain ⟨a1,a2,a3,a4⟩:=sd_ok h1
    obtain ⟨b1,b2,b3,b4⟩:=sd_ok h2
    have ad1:=hp2.addr (i:=s.A) (by omega)
    have ad2:=hp2.addr (i:=s.B) (by omega)
    have ai1:=(hp2.at' _ a1).1.addr (i:=s.I) (by simp only [ksN] at a2;omega)
    have ai2:=(hp2.at' _ b1).1.addr (i:=s.J) (by simp only [ksN] at b2;omega)
    have li1:=fun L=>(hp2.at' _ a1).1.load (i:=s.I.toNat) a2 (L:=L)
    have li2:=fun L=>(hp2.at' _ b1).1.load (i:=s.J.toNat) b2 (L:=L)
    have hd:=dfS_bd hok h1 h2
    have ed:(P.getD s.A.toNat default).s.getD s.I.toNat 0-(P.getD s.B.toNat default).s.getD s.J.toNat 0=dfS P s:=rfl
    have w1:IntKind.wrap .i64 (dfS P s)=dfS P s:=wrap_i64 (by omega) (by omega)
    have w2:IntKind.wrap .i64 (-dfS P s) = -dfS P s:=wrap_i64 (by omega) (by omega)
    simp [f1,f3,f11,f12,f13,h2,lastO,lastS,rd0,rd1',rd2',rd3',rdA3,rdA2,hp.lst.stor,hp.lst.one,hsv.stor,hsv.one,splice,hself,hg,h3,u1,u2,hput,-List.any_eq_true,-List.any_eq_false,ad1,ad2,hp2.fa a1,hp2.fa b1,hp2.ld0 a1,hp2.ld0 b1,ai1,ai2,li1,li2,ed,w1,w2]
    by_cases hc:e<dfS P s∨e < -dfS P s
    · have h8:seamE P e (S.take i) (S.getD i default)=8:=by rw [hs,hseam,if_pos hc]
      have hK5:=hK _ (hx (.map (mE kI2 .bool (putA (s.B,s.J) true (putA (s.A,s.I) true M)))))
      rw [seams_err ht hall (by omega),h8] at hK5
      have hc:e<max (dfS P s) (-dfS P s):=by omega
      simp [hc];exact hK5
    · have h8:seamE P e (S.take i) (S.getD i default)=0:=by rw [hs,hseam,if_neg hc]
      have hc:¬e<max (dfS P s) (-dfS P s):=by omega
      simp (disch:=omega) [hc,f1,f3,f11,f12,f13,wrap_i64]
      refine ⟨ht,_,rfl,?_,fun k hk => ?_⟩
      · rw [take_next ht,hs];exact hM.snoc
      · by_cases ek:k=i
        · subst ek;exact h8
        · exact hall k (by omega)
  · have:i=S.length:=by omega
    subst this
    have hK5:=hK _ (hx (.map (mE kI2 .bool M)))
    rw [seams_fine hall] at hK5
    simp;exact hK5
theorem surf_Validate (hc:CapV H ws c) (hb:c.S.length≤1000000) (hlim:lim≤H.length) (hK:∀H',HX H H'→K (.int .i64 (capE c)) H'):VCall tbl lim 13 [.agg ws] H K:=by
  cases hc with
  | mk hp hsv =>
  rename_i pv sv ps P S e
  simp only at hb
  refine VCall_fn tbl_at13 rfl ?_
  unfold capE at hK
  simp only at hK
  by_cases h1:P.length<1∨8<P.length
  · have e1:(decide ((P.length:Int)<1)||decide (8<(P.length:Int)))=true:=by simp;omega
    rw [if_pos h1] at hK
    simp [vf13,rd0,rd1',rd2',hp.lst.stor,hp.lst.one,hsv.stor,hsv.one,hp.vlen,e1]
    exact hK _ HX.refl
  have e1:decide ((P.length:Int)<1)=false:=by simp;omega
  have e2:decide (8<(P.length:Int))=false:=by simp;omega
  rw [if_neg h1] at hK
  by_cases h2:e<0∨5<e
  · have e3:(decide (e<0)||decide (5<e))=true:=by simp;omega
    rw [if_pos h2] at hK
    simp [vf13,rd0,rd1',rd2',hp.lst.stor,hp.lst.one,hsv.stor,hsv.one,hp.vlen,e1,e2,e3]
    exact hK _ HX.refl
  have e3:decide (e<0)=false:=by simp;omega
  have e4:decide (5<e)=false:=by simp;omega
  rw [if_neg h2] at hK
  simp [vf13,rd0,rd1',rd2',hp.lst.stor,hp.lst.one,hsv.stor,hsv.one,hp.vlen,e1,e2,e3,e4]
  refine wLoop_up P.length (fun i fr L H'=>∃X,(fr 1=.lp 0 0∧fr 24=pv∧fr 25=.int .i64 P.length∧fr 26=.int .i64 i)∧L=[pv,sv,.int .i64 e] :: X∧H'=H∧∀k,k<i→pieceB (P.getD k default)=true) ⟨[],by simp,rfl,rfl,fun k hk=>by omega⟩ ?_
  rintro i hi fr L H1 ⟨X,⟨f1,f24,f25,f26⟩,rfl,rfl,hall⟩
  simp [f1,f24,f25,f26]
  refine cond_dec (fun ht => ?_) fun hfl => ?_
  · have ht:i<P.length:=by omega
    obtain ⟨s1,s2⟩:=hp.at' i ht
    simp [f1,f24,f25,f26,rd0,rdA2,hp.at ht,hp.ld2 ht,s1.stor,s2.stor,s1.one,s2.one,lastO,lastS,splice]
    refine surf_isPiece (p:=P.getD i default) s1 s2 ?_
    by_cases g:pieceB (P.getD i default)=true
    · simp (disch:=omega) [f1,f24,f25,f26,g,wrap_i64]
      refine ⟨ht,fun k hk => ?_⟩
      by_cases ek:k=i
      · subst ek;exact g
      · exact hall k (by omega)
    · have hn:((List.range P.length).all fun q=>pieceB (P.getD q default))=false:=by
        rw [Bool.eq_false_iff];intro hh;exact g (pcs_all.1 hh i ht)
      rw [hn] at hK
      have g:pieceB (P.getD i default)=false:=by simpa using g
      simp at hK
      simp [g];exact hK _ HX.refl
  · have:i=P.length:=by omega
    subst this
    have hok:PcsOk P:=hall
    rw [pcs_all.2 hok] at hK
    simp only [Bool.not_true,Bool.false_eq_true,if_false] at hK
    simp [f1,f24,f25,f26,rdA3]
    refine surf_validateSeams hp hsv hok hb (by omega) hlim fun H2 x2 => ?_
    simp
    exact hK _ x2
end
end Go.Proofs.YtgjlhdggllakbaaGreatDoor.Vm
namespace Go.Proofs.YtgjlhdggllakbaaGreatDoor.Vm
open Go
set_option maxRecDepth 100000
set_option maxHeartbeats 1000000
set_option linter.unusedSimpArgs false
set_option linter.unusedVariables false
attribute [-simp] List.getD_eq_getElem?_getD
def sdP (P:List Pc)(L:List (Nat×Nat))(i:Nat):Sid:=⟨lnN P i,anN P i,nxN P i,bfN P i,if alf L i=i then -1 else (alf L i:Nat)⟩
def layL (P:List Pc)(L:List (Nat×Nat)):List Sid:=(List.range (nsN P)).map (sdP P L)
section
variable {n lim:Nat}{H H0 H':Hp}{K:V→Hp→Prop}{v lv fv pv sv:V}{ps:List (V×V)}{pcs P:List Pc}{S:List Sm}{e:Int}{ws:List V}{c:Cp}{l:List Sid}{f:List Int}
theorem OwnV.keepB (h:OwnV n H v f)(hk:∀b o m z,v=.sl b o m z→H'[b]? = H[b]?):OwnV n H' v f:=by
  cases h with
  | nil=>exact .nil
  | row h1 h3=>exact .row h1 (by rw [hk _ _ _ _ rfl];exact h3)
theorem OwnT.keepB {α:Type}{k:Nat}{c:Cod α k}{l:List α}(h:OwnT n c H v l)(hk:∀b o m z,v=.sl b o m z→H'[b]? = H[b]?):OwnT n c H' v l:=by
  cases h with
  | nil=>exact .nil
  | row h1 h3=>exact .row h1 (by rw [hk _ _ _ _ rfl];exact h3)
theorem OwnT.belowB {α:Type}{k:Nat}{c:Cod α k}{l:List α}(h:OwnT n c H v l):∀b o m z,v=.sl b o m z→n≤b∧b<H.length:=by
  rintro b o m z rfl
  cases h with
  | row h1 h3=>exact ⟨h1,(List.getElem?_eq_some_iff.1 h3).1⟩
theorem OwnV.belowB (h:OwnV n H v f):∀b o m z,v=.sl b o m z→n≤b∧b<H.length:=by
  rintro b o m z rfl
  cases h with
  | row h1 h3=>exact ⟨h1,(List.getElem?_eq_some_iff.1 h3).1⟩
theorem OwnV.appendF (h:OwnV n H v f){x:Int}(hn:lim≤n∧n≤H.length)(hl:f.length<1000000) :
    ∃v' H',vappend lim 1 8 (H++[.row [.int .i64 x] true]) v (.sl H.length 0 1 1)=some (v',H')∧OwnV n H' v' (f++[x])∧(∀H0,HX H0 H→H0.length≤n→HX H0 H')∧H.length≤H'.length∧(∀b',b'<H.length→(∀o z y,v≠.sl b' o z y)→H'[b']? = H[b']?)∧∀b o z y,v'=.sl b o z y→H.length≤b:=by
  refine ⟨_,_,h.append ⟨hn.1,hl⟩,h.ap hn.2,fun H0 hx h0=>h.apX hx h0,h.apLen,fun b' hb' hne => ?_,fun b o z y e=>by cases e;omega⟩
  cases h with
  | nil=>simp only [apH];rw [List.getElem?_append_left (by simp;omega),List.getElem?_append_left hb']
  | row h1 h3 =>
    rename_i b
    simp only [apH]
    rw [List.getElem?_append_left (by simp;omega),List.getElem?_set_ne (fun e=>hne _ _ _ (by rw [e])),List.getElem?_append_left hb']
theorem OwnT.appendF2 {α:Type}{k:Nat}{c:Cod α k}{l:List α}(h:OwnT n c H v l){lim bytes:Nat}{x:α}{cs:List V}(hcs:c.cells x=cs)(hn:lim≤n∧n≤H.length)(hb:bytes≤1000)(hl:l.length<1000000) :
    ∃v' H',vappend lim k bytes (H++[.row cs true]) v (.sl H.length 0 1 k)=some (v',H')∧OwnT n c H' v' (l++[x])∧(∀H0,HX H0 H→H0.length≤n→HX H0 H')∧H.length≤H'.length∧(∀b',b'<H.length→(∀o z y,v≠.sl b' o z y)→H'[b']? = H[b']?)∧∀b o z y,v'=.sl b o z y→H.length≤b:=by
  have hh:=h
  subst hcs
  obtain ⟨v',H',a1,a2,a3,a4,a5,a6⟩:=h.append (lim:=lim) (bytes:=bytes) (x:=x) rfl hn hb hl
  refine ⟨v',H',a1,a2,a3,by omega,a6,?_⟩
  have hy:LstV c (H++[.row (c.cells x) true]) (.sl H.length 0 1 k) [x]:=by
    have:=LstV.sl (c:=c) (l:=[x]) (off:=0) (H:=H++[.row (c.cells x) true]) (b:=H.length) (own:=true) (cs:=c.cells x) List.getElem?_concat_length (by simp [c.len]) (by simp [Cod.all_one];rw [List.take_of_length_le (by rw [c.len];omega)])
    simpa using this
  have hb1:(l.length+1)*bytes≤1000000*1000:=Nat.mul_le_mul (by omega) hb
  have hb2:1*bytes≤1000000*1000:=Nat.mul_le_mul (by omega) hb
  rintro b o z y rfl
  cases hh with
  | nil =>
    simp [vappend,hy.cells,hy.len,show bytes≤140737488355328 by omega] at a1
    omega
  | row h1 h2 =>
    rename_i b'
    have hbl:=(List.getElem?_eq_some_iff.1 h2).1
    have h2':(H++[Blk.row (c.cells x) true])[b']? = some (.row (c.all l) true):=by rw [List.getElem?_append_left hbl];exact h2
    simp [vappend,hy.cells,hy.len,h2',Cod.all_len,show lim≤b' by omega,show (l.length+1)*bytes≤140737488355328 by omega,show l.length+1<4611686018427387904 by omega] at a1
    omega
structure LayS (n:Nat)(H0 H:Hp)(lv fv:V)(l:List Sid)(f:List Int):Prop where
  hx:HX H0 H
  ol:OwnT n sdC H lv l
  of:OwnV n H fv f
  ap:∀b o z y o' z' y',lv=.sl b o z y→fv=.sl b o' z' y'→False
theorem LayS.pushF (h:LayS n H0 H lv fv l f){x:Int}(hn:lim≤n∧H0.length≤n∧n≤H.length)(hl:f.length<1000000) :
    ∃v' H',vappend lim 1 8 (H++[.row [.int .i64 x] true]) fv (.sl H.length 0 1 1)=some (v',H')∧LayS n H0 H' lv v' l (f++[x])∧H.length≤H'.length:=by
  obtain ⟨v',H',a1,a2,a3,a4,a5,a6⟩:=h.of.appendF (x:=x) ⟨hn.1,hn.2.2⟩ hl
  refine ⟨v',H',a1,⟨a3 _ h.hx hn.2.1,h.ol.keepB fun b o m z e=>a5 b (h.ol.belowB _ _ _ _ e).2 fun o' z' y' e'=>h.ap _ _ _ _ _ _ _ e e',a2,fun b o z y o' z' y' e e' => ?_⟩,a4⟩
  have:=(h.ol.belowB _ _ _ _ e).2
  have:=a6 _ _ _ _ e'
  omega
theorem LayS.pushL (h:LayS n H0 H lv fv l f){x:Sid}{cs:List V}(hcs:sdC.cells x=cs)(hn:lim≤n∧H0.length≤n∧n≤H.length)(hl:l.length<1000000) :
    ∃v' H',vappend lim 5 40 (H++[.row cs true]) lv (.sl H.length 0 1 5)=some (v',H')∧LayS n H0 H' v' fv (l++[x]) f∧H.length≤H'.length:=by
  obtain ⟨v',H',a1,a2,a3,a4,a5,a6⟩:=h.ol.appendF2 (lim:=lim) (bytes:=40) hcs ⟨hn.1,hn.2.2⟩ (by omega) hl
  refine ⟨v',H',a1,⟨a3 _ h.hx hn.2.1,a2,h.of.keepB fun b o m z e=>a5 b (h.of.belowB _ _ _ _ e).2 fun o' z' y' e'=>h.ap _ _ _ _ _ _ _ e' e,fun b o z y o' z' y' e e' => ?_⟩,a4⟩
  have:=(h.of.belowB _ _ _ _ e').2
  have:=a6 _ _ _ _ e
  omega
def offL (P:List Pc)(i:Nat):List Int:=(List.range i).map fun q=>(offN P q:Int)
end
theorem getD_last {α:Type}{l:List α}{x d:α}{i:Nat}(h:i=l.length):(l++[x]).getD i d=x:=by
  subst h;simp [List.getD_eq_getElem?_getD]
theorem CapV.form {H:Hp}{ws:List V}{c:Cp}(h:CapV H ws c):∃pv sv ps,ws=[pv,sv,.int .i64 c.e]∧PcsV H pv ps c.P∧LstV smC H sv c.S∧stor pv=true∧cellsV pv=[pv]∧stor sv=true∧cellsV sv=[sv]:=by
  cases h with
  | mk hp hs=>exact ⟨_,_,_,rfl,hp,hs,hp.lst.stor,hp.lst.one,hs.stor,hs.one⟩
end Go.Proofs.YtgjlhdggllakbaaGreatDoor.Vm
namespace Go.Proofs.YtgjlhdggllakbaaGreatDoor.Vm
open Go
set_option maxRecDepth 100000
set_option maxHeartbeats 1000000
set_option linter.unusedSimpArgs false
set_option linter.unusedVariables false
attribute [-simp] List.getD_eq_getElem?_getD
structure OPcsV (n:Nat)(H:Hp)(v:V)(ps:List (V×V))(pcs:List Pc):Prop where
  own:OwnT n pvC H v ps
  len:ps.length=pcs.length
  at':∀i,i<pcs.length→OwnV n H (ps.getD i default).1 (pcs.getD i default).s∧OwnV n H (ps.getD i default).2 (pcs.getD i default).a
  ap:∀i,i<pcs.length→∀b o z y o' z' y',v=.sl b o z y→((ps.getD i default).1=.sl b o' z' y'∨(ps.getD i default).2=.sl b o' z' y')→False
inductive OCapV (n:Nat)(H:Hp):List V→Cp→Prop
  | mk {pv sv:V} {ps:List (V×V)} {P:List Pc} {S:List Sm} {e:Int}:OPcsV n H pv ps P→OwnT n smC H sv S→(∀b o z y o' z' y',pv=.sl b o z y→sv=.sl b o' z' y'→False)→(∀i,i<P.length→∀b o z y o' z' y',sv=.sl b o z y→((ps.getD i default).1=.sl b o' z' y'∨(ps.getD i default).2=.sl b o' z' y')→False)→OCapV n H [pv,sv,.int .i64 e] ⟨P,S,e⟩
section
variable {n lim:Nat}{H H' H1:Hp}{K:V→Hp→Prop}{v pv sv a b:V}{ps:List (V×V)}{pcs P:List Pc}{S:List Sm}{e:Int}{ws:List V}{c d:Cp}
theorem OPcsV.pcsV (h:OPcsV n H v ps pcs):PcsV H v ps pcs:=⟨h.own.lst,h.len,fun i hi=>⟨(h.at' i hi).1.sl,(h.at' i hi).2.sl⟩⟩
theorem OCapV.cap (h:OCapV n H ws c):CapV H ws c:=by
  cases h with
  | mk h1 h2 _ _=>exact .mk h1.pcsV h2.lst
theorem OPcsV.mono (hx:HX H H')(h:OPcsV n H v ps pcs):OPcsV n H' v ps pcs:=⟨h.own.mono hx,h.len,fun i hi=>⟨(h.at' i hi).1.mono hx,(h.at' i hi).2.mono hx⟩,h.ap⟩
theorem OPcsV.le {m:Nat}(hnm:n≤m)(h:OPcsV m H v ps pcs):OPcsV n H v ps pcs:=⟨h.own.le hnm,h.len,fun i hi=>⟨(h.at' i hi).1.le hnm,(h.at' i hi).2.le hnm⟩,h.ap⟩
theorem OCapV.mono (hx:HX H H')(h:OCapV n H ws c):OCapV n H' ws c:=by
  cases h with
  | mk h1 h2 h3 h4=>exact .mk (h1.mono hx) (h2.mono hx) h3 h4
theorem OCapV.le {m:Nat}(hnm:n≤m)(h:OCapV m H ws c):OCapV n H ws c:=by
  cases h with
  | mk h1 h2 h3 h4=>exact .mk (h1.le hnm) (h2.le hnm) h3 h4
theorem OPcsV.nil:OPcsV n H .snil [] []:=⟨.nil,rfl,fun i hi=>by simp at hi,fun i hi=>by simp at hi⟩
theorem OPcsV.keepB (h:OPcsV n H v ps pcs)(h1:∀b o m z,v=.sl b o m z→H'[b]? = H[b]?)(h2:∀i,i<pcs.length→∀b o m z,((ps.getD i default).1=.sl b o m z∨(ps.getD i default).2=.sl b o m z)→H'[b]? = H[b]?):OPcsV n H' v ps pcs :=
  ⟨h.own.keepB h1,h.len,fun i hi=>⟨(h.at' i hi).1.keepB fun b o m z e=>h2 i hi b o m z (Or.inl e),(h.at' i hi).2.keepB fun b o m z e=>h2 i hi b o m z (Or.inr e)⟩,h.ap⟩
theorem OPcsV.append {p:Pc}(h:OPcsV n H v ps pcs)(hx:HX H H1)(ha:OwnV H.length H1 a p.s)(hb:OwnV H.length H1 b p.a)(hn:lim≤n∧n≤H.length)(hl:pcs.length<1000000) :
    ∃v' H2,vappend lim 2 48 (H1++[.row [a,b] true]) v (.sl H1.length 0 1 2)=some (v',H2)∧OPcsV n H2 v' (ps++[(a,b)]) (pcs++[p])∧(∀H0,HX H0 H1→H0.length≤n→HX H0 H2)∧H1.length≤H2.length∧(∀b',b'<H1.length→(∀o z y,v≠.sl b' o z y)→H2[b']? = H1[b']?)∧∀b o z y,v'=.sl b o z y→H1.length≤b:=by
  have h1:=h.mono hx
  have hlen:=hx.len
  obtain ⟨v',H2,a1,a2,a3,a4,a5,a6⟩:=h1.own.appendF2 (lim:=lim) (bytes:=48) (x:=(a,b)) (cs:=[a,b]) rfl ⟨hn.1,by omega⟩ (by omega) (by rw [h.len];exact hl)
  have old:∀b' o z y,v=.sl b' o z y→b'<H.length:=fun b' o z y e=>(h.own.belowB _ _ _ _ e).2
  refine ⟨v',H2,a1,⟨a2,by simp [h.len],fun i hi => ?_,fun i hi b' o z y o' z' y' e e' => ?_⟩,a3,a4,a5,a6⟩
  · rw [List.length_append,List.length_singleton] at hi
    by_cases hlt:i<pcs.length
    · rw [getD_lt (l:=ps) (by rw [h.len];exact hlt),getD_lt hlt]
      have:=h1.at' i hlt
      exact ⟨this.1.keepB fun b' o m z e=>a5 b' (this.1.belowB _ _ _ _ e).2 fun o' z' y' e'=>h1.ap i hlt _ _ _ _ _ _ _ e' (Or.inl e),this.2.keepB fun b' o m z e=>a5 b' (this.2.belowB _ _ _ _ e).2 fun o' z' y' e'=>h1.ap i hlt _ _ _ _ _ _ _ e' (Or.inr e)⟩
    · have:i=pcs.length:=by omega
      subst this
      rw [getD_last h.len.symm,getD_last rfl]
      exact ⟨(ha.keepB fun b' o m z e=>a5 b' (ha.belowB _ _ _ _ e).2 fun o' z' y' e'=>by have:=old _ _ _ _ e';have:=(ha.belowB _ _ _ _ e).1;omega).le (by omega),(hb.keepB fun b' o m z e=>a5 b' (hb.belowB _ _ _ _ e).2 fun o' z' y' e'=>by have:=old _ _ _ _ e';have:=(hb.belowB _ _ _ _ e).1;omega).le (by omega)⟩
  · rw [List.length_append,List.length_singleton] at hi
    have h6:=a6 _ _ _ _ e
    by_cases hlt:i<pcs.length
    · rw [getD_lt (l:=ps) (by rw [h.len];exact hlt)] at e'
      have:=h1.at' i hlt
      rcases e' with e' | e'
      · have:=(this.1.belowB _ _ _ _ e').2;omega
      · have:=(this.2.belowB _ _ _ _ e').2;omega
    · have:i=pcs.length:=by omega
      subst this
      rw [getD_last h.len.symm] at e'
      rcases e' with e' | e'
      · have:=(ha.belowB _ _ _ _ e').2;omega
      · have:=(hb.belowB _ _ _ _ e').2;omega
def longB (c:Cp):Bool:=decide (30<c.P.length∨60<c.S.length∨∃q,q<c.P.length∧(30<(c.P.getD q default).s.length∨30<(c.P.getD q default).a.length))
structure ShortC (c:Cp):Prop where
  np:c.P.length≤30
  ns:c.S.length≤60
  pc:∀q,q<c.P.length→(c.P.getD q default).s.length≤30∧(c.P.getD q default).a.length≤30
theorem short_of (h:longB c=false):ShortC c:=by
  simp only [longB,decide_eq_false_iff_not,not_or,Nat.not_lt] at h
  refine ⟨h.1,h.2.1,fun q hq => ?_⟩
  have h3:=h.2.2
  constructor
  · apply Nat.le_of_not_lt;intro g;exact h3 ⟨q,hq,Or.inl g⟩
  · apply Nat.le_of_not_lt;intro g;exact h3 ⟨q,hq,Or.inr g⟩
theorem l02_Long (hc:CapV H ws c)(hK:K (.bool (longB c)) H):VCall tbl lim 5 [.agg ws] H K:=by
  obtain ⟨pv,sv,ps,rfl,hp,hs,z1,z2,z3,z4⟩:=hc.form
  refine VCall_fn tbl_at5 rfl ?_
  by_cases h1:30<c.P.length
  · have e:longB c=true:=by simp only [longB,decide_eq_true_eq];exact Or.inl h1
    have e1:decide (30<(c.P.length:Int))=true:=by simp;omega
    rw [e] at hK
    simp [vf5,z1,z2,z3,z4,rd0,rd1',hp.vlen,hs.len,e1]
    exact hK
  have e1:decide (30<(c.P.length:Int))=false:=by simp;omega
  by_cases h2:60<c.S.length
  · have e:longB c=true:=by simp only [longB,decide_eq_true_eq];exact Or.inr (Or.inl h2)
    have e2:decide (60<(c.S.length:Int))=true:=by simp;omega
    rw [e] at hK
    simp [vf5,z1,z2,z3,z4,rd0,rd1',hp.vlen,hs.len,e1,e2]
    exact hK
  have e2:decide (60<(c.S.length:Int))=false:=by simp;omega
  simp [vf5,z1,z2,z3,z4,rd0,rd1',hp.vlen,hs.len,e1,e2]
  refine wLoop_up c.P.length (fun i fr L H'=>(fr 1=.lp 0 0∧fr 3=.int .i64 i)∧L=[[pv,sv,.int .i64 c.e]]∧H'=H∧∀q,q<i→(c.P.getD q default).s.length≤30∧(c.P.getD q default).a.length≤30) ⟨by simp,rfl,rfl,fun q hq=>by omega⟩ ?_
  rintro i hi fr L H1 ⟨⟨f1,f3⟩,rfl,rfl,hall⟩
  simp [f1,f3,rd0,hp.vlen]
  refine cond_dec (fun ht => ?_) fun hfl => ?_
  · have ht:i<c.P.length:=by omega
    obtain ⟨s1,s2⟩:=hp.at' i ht
    by_cases g1:30<(c.P.getD i default).s.length
    · have e:longB c=true:=by simp only [longB,decide_eq_true_eq];exact Or.inr (Or.inr ⟨i,ht,Or.inl g1⟩)
      have e3:decide (30<((c.P.getD i default).s.length:Int))=true:=by simp;omega
      rw [e] at hK
      simp [f1,f3,rd0,hp.at ht,hp.fa ht,hp.ld0 ht,hp.ld1 ht,s1.len,s2.len,e3]
      exact hK
    have e3:decide (30<((c.P.getD i default).s.length:Int))=false:=by simp;omega
    by_cases g2:30<(c.P.getD i default).a.length
    · have e:longB c=true:=by simp only [longB,decide_eq_true_eq];exact Or.inr (Or.inr ⟨i,ht,Or.inr g2⟩)
      have e4:decide (30<((c.P.getD i default).a.length:Int))=true:=by simp;omega
      rw [e] at hK
      simp [f1,f3,rd0,hp.at ht,hp.fa ht,hp.ld0 ht,hp.ld1 ht,s1.len,s2.len,e3,e4]
      exact hK
    have e4:decide (30<((c.P.getD i default).a.length:Int))=false:=by simp;omega
    simp (disch:=omega) [f1,f3,rd0,hp.at ht,hp.fa ht,hp.ld0 ht,hp.ld1 ht,s1.len,s2.len,e3,e4,wrap_i64]
    refine ⟨ht,fun q hq => ?_⟩
    by_cases eq:q=i
    · subst eq;omega
    · exact hall q (by omega)
  · have:i=c.P.length:=by omega
    subst this
    have e:longB c=false:=by
      simp only [longB,decide_eq_false_iff_not,not_or]
      refine ⟨h1,h2,?_⟩
      rintro ⟨q,hq,g | g⟩
      · have:=(hall q hq).1;omega
      · have:=(hall q hq).2;omega
    rw [e] at hK
    simp
    exact hK
theorem OCapV.pushS {x:Sm}{cs:List V}(hcs:smC.cells x=cs)(h:OCapV n H [pv,sv,.int .i64 e] ⟨P,S,e⟩)(hn:lim≤n∧n≤H.length)(hl:S.length<1000000) :
    ∃sv' H',vappend lim 4 32 (H++[.row cs true]) sv (.sl H.length 0 1 4)=some (sv',H')∧OCapV n H' [pv,sv',.int .i64 e] ⟨P,S++[x],e⟩∧(∀H0,HX H0 H→H0.length≤n→HX H0 H')∧H.length≤H'.length:=by
  cases h with
  | mk h1 h2 h3 h4 =>
  rename_i ps
  obtain ⟨v',H',a1,a2,a3,a4,a5,a6⟩:=h2.appendF2 (lim:=lim) (bytes:=32) hcs hn (by omega) hl
  refine ⟨v',H',a1,.mk (ps:=ps) (h1.keepB (fun b o m z e=>a5 b (h1.own.belowB _ _ _ _ e).2 fun o' z' y' e'=>h3 _ _ _ _ _ _ _ e e') fun i hi b o m z e=>a5 b ?_ fun o' z' y' e'=>h4 i hi _ _ _ _ _ _ _ e' e) a2 (fun b o z y o' z' y' e e' => ?_) fun i hi b o z y o' z' y' e e' => ?_,a3,a4⟩
  · rcases e with e | e
    · exact ((h1.at' i hi).1.belowB _ _ _ _ e).2
    · exact ((h1.at' i hi).2.belowB _ _ _ _ e).2
  · have:=(h1.own.belowB _ _ _ _ e).2
    have:=a6 _ _ _ _ e'
    omega
  · have h6:=a6 _ _ _ _ e
    rcases e' with e' | e'
    · have:=((h1.at' i hi).1.belowB _ _ _ _ e').2;omega
    · have:=((h1.at' i hi).2.belowB _ _ _ _ e').2;omega
theorem OCapV.pushP {p:Pc}(h:OCapV n H [pv,sv,.int .i64 e] ⟨P,S,e⟩)(hx:HX H H1)(ha:OwnV H.length H1 a p.s)(hb:OwnV H.length H1 b p.a)(hn:lim≤n∧n≤H.length)(hl:P.length<1000000) :
    ∃pv' H2,vappend lim 2 48 (H1++[.row [a,b] true]) pv (.sl H1.length 0 1 2)=some (pv',H2)∧OCapV n H2 [pv',sv,.int .i64 e] ⟨P++[p],S,e⟩∧(∀H0,HX H0 H1→H0.length≤n→HX H0 H2)∧H1.length≤H2.length:=by
  cases h with
  | mk h1 h2 h3 h4 =>
  rename_i ps
  have hlen:=hx.len
  obtain ⟨v',H2,a1,a2,a3,a4,a5,a6⟩:=h1.append hx ha hb hn hl
  have hs:=fun b o z y (e:sv=.sl b o z y)=>h2.belowB b o z y e
  refine ⟨v',H2,a1,.mk a2 (((h2.mono hx).keepB fun b o m z e=>a5 b (by have:=(hs _ _ _ _ e).2;omega) fun o' z' y' e'=>h3 _ _ _ _ _ _ _ e' e)) (fun b o z y o' z' y' e e' => ?_) fun i hi b' o z y o' z' y' e e' => ?_,a3,a4⟩
  · have:=(hs _ _ _ _ e').2
    have:=a6 _ _ _ _ e
    omega
  · have h6:=(hs _ _ _ _ e).2
    rw [List.length_append,List.length_singleton] at hi
    by_cases hlt:i<P.length
    · rw [getD_lt (l:=ps) (by rw [h1.len];exact hlt)] at e'
      exact h4 i hlt _ _ _ _ _ _ _ e e'
    · have:i=P.length:=by omega
      subst this
      rw [getD_last h1.len.symm] at e'
      rcases e' with e' | e'
      · have:=(ha.belowB _ _ _ _ e').1;omega
      · have:=(hb.belowB _ _ _ _ e').1;omega
theorem OCapV.vals (h:OCapV n H [pv,sv,.int .i64 e] ⟨P,S,e⟩):stor pv=true∧cellsV pv=[pv]∧stor sv=true∧cellsV sv=[sv]:=by
  cases h with
  | mk h1 h2 _ _=>exact ⟨h1.own.lst.stor,h1.own.lst.one,h2.lst.stor,h2.lst.one⟩
theorem take_nextP {P:List Pc}{i:Nat}(hi:i<P.length):P.take (i+1)=P.take i++[P.getD i default]:=by
  rw [List.take_add_one,List.getElem?_eq_getElem hi,List.getD_eq_getElem?_getD,List.getElem?_eq_getElem hi];rfl
def csameB (c d:Cp):Bool:=decide (c.e=d.e∧c.P.length=d.P.length∧c.S.length=d.S.length∧(∀q,q<c.P.length→(c.P.getD q default).s=(d.P.getD q default).s∧(c.P.getD q default).a=(d.P.getD q default).a)∧∀q,q<c.S.length→(c.S.getD q default).A=(d.S.getD q default).A∧(c.S.getD q default).I=(d.S.getD q default).I∧(c.S.getD q default).B=(d.S.getD q default).B∧(c.S.getD q default).J=(d.S.getD q default).J)
theorem same_refl:csameB c c=true:=by simp [csameB]
theorem veqA_4n {a b c d a' b' c' d':Int}:veqA true [.int .i64,.int .i64,.int .i64,.int .i64] (.agg [.int .i64 a,.int .i64 b,.int .i64 c,.int .i64 d]) (.agg [.int .i64 a',.int .i64 b',.int .i64 c',.int .i64 d'])=some (.bool (!(decide (a=a'∧b=b'∧c=c'∧d=d')))):=by
  have h:veqA true [.int .i64,.int .i64,.int .i64,.int .i64] (.agg [.int .i64 a,.int .i64 b,.int .i64 c,.int .i64 d]) (.agg [.int .i64 a',.int .i64 b',.int .i64 c',.int .i64 d'])=some (.bool (!((a==a')&&((b==b')&&((c==c')&&((d==d')&&true)))))):=Eq.trans rfl rfl
  rw [h]
  congr 2
  rw [Bool.eq_iff_iff]
  simp [and_assoc]
theorem r02_Same {ws':List V} (hc:CapV H ws c) (hd:CapV H ws' d) (hbig:ShortC c∨c.P.length≤1000000∧c.S.length≤1000000∧∀q,q<c.P.length→(c.P.getD q default).s.length≤1000000∧(c.P.getD q default).a.length≤1000000) (hK:K (.bool (csameB c d)) H):VCall tbl lim 11 [.agg ws,.agg ws'] H K:=by
  obtain ⟨pv,sv,ps,rfl,hp,hs,z1,z2,z3,z4⟩:=hc.form
  obtain ⟨pv',sv',ps',rfl,hp',hs',y1,y2,y3,y4⟩:=hd.form
  have hbig:c.P.length≤1000000∧c.S.length≤1000000∧∀q,q<c.P.length→(c.P.getD q default).s.length≤1000000∧(c.P.getD q default).a.length≤1000000:=by
    rcases hbig with h | h
    · exact ⟨by have:=h.np;omega,by have:=h.ns;omega,fun q hq=>by have:=h.pc q hq;omega⟩
    · exact h
  refine VCall_fn tbl_at11 rfl ?_
  have no:¬(c.e=d.e∧c.P.length=d.P.length∧c.S.length=d.S.length)→csameB c d=false:=fun h=>by
    simp only [csameB,decide_eq_false_iff_not];exact fun g=>h ⟨g.1,g.2.1,g.2.2.1⟩
  by_cases h1:c.e=d.e
  case neg =>
    rw [no (fun h=>h1 h.1)] at hK
    simp [vf11,z1,z2,z3,z4,y1,y2,y3,y4,rd0,rd1',rd2',hp.vlen,hs.len,hp'.vlen,hs'.len,h1]
    exact hK
  by_cases h2:c.P.length=d.P.length
  case neg =>
    rw [no (fun h=>h2 h.2.1)] at hK
    have e2:decide ((c.P.length:Int)=(d.P.length:Int))=false:=by simp;omega
    simp [vf11,z1,z2,z3,z4,y1,y2,y3,y4,rd0,rd1',rd2',hp.vlen,hs.len,hp'.vlen,hs'.len,h1,e2]
    exact hK
  have e2:decide ((c.P.length:Int)=(d.P.length:Int))=true:=by simp;omega
  by_cases h3:c.S.length=d.S.length
  case neg =>
    rw [no (fun h=>h3 h.2.2)] at hK
    have e3:decide ((c.S.length:Int)=(d.S.length:Int))=false:=by simp;omega
    simp [vf11,z1,z2,z3,z4,y1,y2,y3,y4,rd0,rd1',rd2',hp.vlen,hs.len,hp'.vlen,hs'.len,h1,e2,e3]
    exact hK
  have e3:decide ((c.S.length:Int)=(d.S.length:Int))=true:=by simp;omega
  simp [vf11,z1,z2,z3,z4,y1,y2,y3,y4,rd0,rd1',rd2',hp.vlen,hs.len,hp'.vlen,hs'.len,h1,e2,e3]
  refine wLoop_up c.P.length (fun i fr L H'=>(fr 2=.lp 0 0∧fr 3=.lp 1 0∧fr 5=.int .i64 i)∧L=[[pv,sv,.int .i64 d.e],[pv',sv',.int .i64 d.e]]∧H'=H∧∀q,q<i→(c.P.getD q default).s=(d.P.getD q default).s∧(c.P.getD q default).a=(d.P.getD q default).a) ⟨by simp,by simp [h1],rfl,fun q hq=>by omega⟩ ?_
  rintro i hi fr L H1 ⟨⟨f2,f3,f5⟩,rfl,rfl,hall⟩
  simp [f2,f3,f5,rd0,hp.vlen]
  refine cond_dec (fun ht => ?_) fun hfl => ?_
  · have ht:i<c.P.length:=by omega
    have ht':i<d.P.length:=by omega
    obtain ⟨s1,s2⟩:=hp.at' i ht
    obtain ⟨s1',s2'⟩:=hp'.at' i ht'
    have hb:=hbig.2.2 i ht
    simp [f2,f3,f5,rd0,hp.at ht,hp'.at ht',hp.fa ht,hp'.fa ht',hp.ld0 ht,hp'.ld0 ht',hp.ld1 ht,hp'.ld1 ht',s1.stor,s1'.stor,s2.stor,s2'.stor]
    refine ref01_SameInts s1 s1' (by omega) ?_
    by_cases g1:(c.P.getD i default).s=(d.P.getD i default).s
    case neg =>
      have:csameB c d=false:=by
        simp only [csameB,decide_eq_false_iff_not];exact fun g=>g1 (g.2.2.2.1 i ht).1
      rw [this] at hK
      simp [g1];exact hK
    simp [f2,f3,f5,rd0,hp.at ht,hp'.at ht',hp.fa ht,hp'.fa ht',hp.ld0 ht,hp'.ld0 ht',hp.ld1 ht,hp'.ld1 ht',s1.stor,s1'.stor,s2.stor,s2'.stor,g1]
    refine ref01_SameInts s2 s2' (by omega) ?_
    by_cases g2:(c.P.getD i default).a=(d.P.getD i default).a
    case neg =>
      have:csameB c d=false:=by
        simp only [csameB,decide_eq_false_iff_not];exact fun g=>g2 (g.2.2.2.1 i ht).2
      rw [this] at hK
      simp [g2];exact hK
    simp (disch:=omega) [f2,f3,f5,g1,g2,wrap_i64]
    refine ⟨ht,fun q hq => ?_⟩
    by_cases eq:q=i
    · subst eq;exact ⟨g1,g2⟩
    · exact hall q (by omega)
  · have:i=c.P.length:=by omega
    subst this
    simp [f2,f3,f5]
    refine wLoop_up c.S.length (fun i fr L H'=>(fr 2=.lp 0 0∧fr 3=.lp 1 0∧fr 6=.int .i64 i)∧L=[[pv,sv,.int .i64 d.e],[pv',sv',.int .i64 d.e]]∧H'=H1∧∀q,q<i→(c.S.getD q default).A=(d.S.getD q default).A∧(c.S.getD q default).I=(d.S.getD q default).I∧(c.S.getD q default).B=(d.S.getD q default).B∧(c.S.getD q default).J=(d.S.getD q default).J) ⟨by simp [f2,f3],rfl,rfl,fun q hq=>by omega⟩ ?_
    clear f2 f3 f5 hi hfl fr
    rintro i hi fr L H2 ⟨⟨f2,f3,f6⟩,rfl,rfl,hall2⟩
    simp [f2,f3,f6,rd1',hs.len]
    refine cond_dec (fun ht => ?_) fun hfl => ?_
    · have ht:i<c.S.length:=by omega
      have ht':i<d.S.length:=by omega
      have ld:=fun L=>hs.load ht (L:=L)
      have ld':=fun L=>hs'.load ht' (L:=L)
      have ec:∀x:Sm,smC.cells x=[.int .i64 x.A,.int .i64 x.I,.int .i64 x.B,.int .i64 x.J]:=fun _=>rfl
      rw [ec] at ld ld'
      have hat:=hs.at ht
      have hat':=hs'.at ht'
      by_cases g:(c.S.getD i default).A=(d.S.getD i default).A∧(c.S.getD i default).I=(d.S.getD i default).I∧(c.S.getD i default).B=(d.S.getD i default).B∧(c.S.getD i default).J=(d.S.getD i default).J
      · have hg:=decide_eq_true g
        simp (disch:=omega) [f2,f3,f6,rd1',hat,hat',ld,ld',veqA_4n,hg,wrap_i64,-Bool.decide_and]
        refine ⟨ht,fun q hq => ?_⟩
        by_cases eq:q=i
        · subst eq;exact g
        · exact hall2 q (by omega)
      · have:csameB c d=false:=by
          simp only [csameB,decide_eq_false_iff_not];exact fun gg=>g (gg.2.2.2.2 i ht)
        rw [this] at hK
        have hg:=decide_eq_false g
        simp [f2,f3,f6,rd1',hat,hat',ld,ld',veqA_4n,hg,-Bool.decide_and]
        exact hK
    · have:i=c.S.length:=by omega
      subst this
      have:csameB c d=true:=by
        simp only [csameB,decide_eq_true_eq];exact ⟨h1,h2,h3,hall,hall2⟩
      rw [this] at hK
      simp
      exact hK
end
end Go.Proofs.YtgjlhdggllakbaaGreatDoor.Vm
namespace Go.Proofs.YtgjlhdggllakbaaGreatDoor.Vm
open Go
set_option linter.unusedSimpArgs false
set_option linter.unusedVariables false
def wds (c:UInt8):List UInt8→List (List UInt8)
  | []=>[[]]
  | b :: r=>if b=c then [] :: wds c r else match wds c r with
    | []=>[[b]]
    | w :: ws=>(b :: w) :: ws
theorem wds_free {c:UInt8}:∀{p:List UInt8},c∉p→wds c p=[p]
  | [],_=>rfl
  | b :: p,h=>by
    have h1:¬b=c:=fun e=>h (by simp [e])
    have h2:c∉p:=fun e=>h (by simp [e])
    rw [wds,if_neg h1,wds_free h2]
theorem wds_app {c:UInt8}{q:List UInt8}:∀{p:List UInt8},c∉p→wds c (p++c :: q)=p :: wds c q
  | [],_=>by simp [wds]
  | b :: p,h=>by
    have h1:¬b=c:=fun e=>h (by simp [e])
    have h2:c∉p:=fun e=>h (by simp [e])
    rw [List.cons_append,wds,if_neg h1,wds_app h2]
theorem at_byte {c:UInt8}:∀s:List UInt8,(Lib.indexByte s c = -1∧c∉s)∨∃p q,s=p++c :: q∧c∉p∧Lib.indexByte s c=p.length
  | []=>.inl ⟨rfl,by simp⟩
  | b :: s=>by
    by_cases h:b=c
    · subst h
      exact .inr ⟨[],s,rfl,by simp,by simp [Lib.indexByte]⟩
    · have hb:(b==c)=false:=by simpa using h
      rcases at_byte (c:=c) s with ⟨h1,h2⟩ | ⟨p,q,rfl,h1,h2⟩
      · refine .inl ⟨by simp [Lib.indexByte,hb,h1],?_⟩
        intro e
        rcases List.mem_cons.1 e with e | e
        · exact h e.symm
        · exact h2 e
      · refine .inr ⟨b :: p,q,rfl,?_,?_⟩
        · intro e
          rcases List.mem_cons.1 e with e | e
          · exact h e.symm
          · exact h1 e
        · have hn:((p.length:Int) == -1)=false:=by simp
          simp only [Lib.indexByte,hb,h2,hn,Bool.false_eq_true,if_false,List.length_cons]
          omega
theorem split_wds {c:UInt8}:∀(k:Nat) (s:List UInt8),s.count c=k→Lib.splitK [c] 0 k s=wds c s
  | 0,s,h=>by
    rw [Lib.splitK,wds_free (List.count_eq_zero.1 h)]
  | k + 1,s,h=>by
    rcases at_byte (c:=c) s with ⟨h1,h2⟩ | ⟨p,q,rfl,h1,h2⟩
    · rw [List.count_eq_zero.2 h2] at h;cases h
    · have hp:p.count c=0:=List.count_eq_zero.2 h1
      rw [List.count_append,List.count_cons_self,hp] at h
      have hn:((p.length:Int) == -1)=false:=by simp
      rw [Lib.splitK,Lib.index_one,h2]
      simp only [hn,Bool.false_eq_true,if_false,Int.toNat_natCast,Nat.add_zero,List.length_cons,List.length_nil,Nat.zero_add]
      have e1:(p++c :: q).take p.length=p:=by simp
      have e2:(p++c :: q).drop (p.length+1)=q:=by
        rw [List.drop_append];simp
      rw [e1,e2,split_wds k q (by omega),wds_app h1]
def isDg (b:UInt8):Prop:=48≤b.toNat∧b.toNat≤57
theorem dg_of {d:Nat}(h:d<10):isDg (UInt8.ofNat (48+d))∧(UInt8.ofNat (48+d)).toNat=48+d:=by
  have e:(UInt8.ofNat (48+d)).toNat=48+d:=by simp;omega
  exact ⟨⟨by omega,by omega⟩,e⟩
theorem dd_big {u:Nat}(h:¬u<10):Lib.decDigits u=Lib.decDigits (u / 10)++[UInt8.ofNat (48+u % 10)]:=by
  rw [Lib.decDigits,dif_neg h]
theorem dd_dg:∀u:Nat,∀b∈Lib.decDigits u,isDg b:=by
  intro u
  induction u using Nat.strongRecOn with
  | _ u ih =>
    intro b hb
    by_cases h:u<10
    · rw [Lib.decDigits_one h] at hb
      rw [List.mem_singleton.1 hb]
      exact (dg_of h).1
    · rw [dd_big h] at hb
      rcases List.mem_append.1 hb with hb | hb
      · exact ih (u / 10) (by omega) b hb
      · rw [List.mem_singleton.1 hb]
        exact (dg_of (by omega)).1
theorem dd_ne (u:Nat):Lib.decDigits u≠[]:=by
  by_cases h:u<10
  · rw [Lib.decDigits_one h];simp
  · rw [dd_big h];simp
theorem parse_snoc {b:UInt8} (hb:isDg b):∀{l:List UInt8} {a v:Nat},Lib.parseUint10 a l=.ok v→v<1844674407370955161→Lib.parseUint10 a (l++[b])=.ok (v*10+(b.toNat-48))
  | [],a,v,h,hv=>by
    simp only [Lib.parseUint10] at h
    injection h with h;subst h
    obtain ⟨h1,h2⟩:=hb
    simp only [List.nil_append,Lib.parseUint10]
    rw [if_pos ⟨h1,h2⟩,if_neg (by omega),if_neg (by omega)]
  | c :: l,a,v,h,hv=>by
    simp only [List.cons_append,Lib.parseUint10] at h ⊢
    split at h
    · split at h
      · cases h
      · split at h
        · cases h
        · rename_i h1 h2 h3
          rw [if_pos h1,if_neg h2,if_neg h3]
          exact parse_snoc hb h hv
    · cases h
theorem dd_parse (u:Nat):u<1844674407370955161→Lib.parseUint10 0 (Lib.decDigits u)=.ok u:=by
  induction u using Nat.strongRecOn with
  | _ u ih =>
    intro hu
    by_cases h:u<10
    · rw [Lib.decDigits_one h]
      obtain ⟨h1,h2⟩:=dg_of h
      simp only [Lib.parseUint10]
      rw [if_pos (show 48≤_∧_ from h1),if_neg (by omega),h2,if_neg (by omega)]
      congr 1;omega
    · rw [dd_big h]
      obtain ⟨h1,h2⟩:=dg_of (d:=u % 10) (by omega)
      rw [parse_snoc h1 (ih (u / 10) (by omega) (by omega)) (by omega),h2]
      congr 1;omega
theorem atoi_dd {u:Nat}(hu:u<1000000000000):Lib.atoiAll (Lib.decDigits u)=.ok (u:Int):=by
  have hp:=dd_parse u (by omega)
  have hd:=dd_dg u
  have hne:=dd_ne u
  generalize Lib.decDigits u=l at hp hd hne
  cases l with
  | nil=>exact absurd rfl hne
  | cons c r =>
    have hc:=hd c (by simp)
    obtain ⟨a,b⟩:=hc
    rw [Lib.atoiAll_plain c r (by omega) (by omega),Lib.parseMag,if_neg hne,hp]
    simp only [Lib.signless]
    rw [if_neg (by omega)]
theorem dg_not {u:Nat}{c:UInt8}(h:¬isDg c):c∉Lib.decDigits u:=fun hc=>h (dd_dg u c hc)
def nums (c:UInt8)(l:List Nat):List UInt8:=l.flatMap fun n=>c :: Lib.decDigits n
theorem nums_cons {c:UInt8}{n:Nat}{l:List Nat}:nums c (n :: l)=c :: (Lib.decDigits n++nums c l):=by simp [nums]
theorem wds_numsE {c:UInt8}(hc:¬isDg c){p:List UInt8}(hp:c∉p):∀{l:List Nat},wds c (p++nums c l)=p :: l.map Lib.decDigits
  | []=>by simp [nums,wds_free hp]
  | n :: l=>by
    have e:p++nums c (n :: l)=p++c :: (Lib.decDigits n++nums c l):=by rw [nums_cons]
    rw [e,wds_app hp,wds_numsE hc (dg_not hc)];rfl
def hairL:List UInt8:=[104,97,105,114]
def wrongL:List UInt8:=[119,114,111,110,103]
def fmtH (r w:List Nat):List UInt8:=hairL++nums 32 r++32 :: (wrongL++nums 32 w)
structure RdH where
  k:Bool
  r:List Int
  w:List Int
  deriving DecidableEq
def RdH.num (x:RdH):Lib.NumEnd Int→RdH
  | .ok n=>if x.k then ⟨true,x.r,x.w++[n]⟩ else ⟨false,x.r++[n],x.w⟩
  | _=>x
def RdH.step (x:RdH)(w:List UInt8):RdH:=(if w=wrongL then { x with k:=true } else x).num (Lib.atoiAll w)
def rdH (l:List (List UInt8)):RdH:=l.foldl RdH.step ⟨false,[],[]⟩
def ints' (l:List Nat):List Int:=l.map fun n:Nat=>(n:Int)
def bigL (l:List Nat):Prop:=∀n∈l,n<1000000000000
end Go.Proofs.YtgjlhdggllakbaaGreatDoor.Vm
namespace Go.Proofs.YtgjlhdggllakbaaGreatDoor.Vm
open Go
set_option linter.unusedSimpArgs false
set_option linter.unusedVariables false
theorem wds_lines {c:UInt8}:∀{L:List (List UInt8)},(∀l∈L,c∉l)→wds c (L.flatMap fun l=>l++[c])=L++[[]]
  | [],_=>rfl
  | l :: L,h=>by
    have e:(l :: L).flatMap (fun l=>l++[c])=l++c :: L.flatMap (fun l=>l++[c]):=by simp
    rw [e,wds_app (h l (by simp)),wds_lines fun m hm=>h m (by simp [hm])];rfl
def easeL:List UInt8:=[101,97,115,101]
def pieceL:List UInt8:=[112,105,101,99,101]
def seamL:List UInt8:=[115,101,97,109]
def lnL (w:List UInt8)(l:List Nat):List UInt8:=w++nums 32 l
theorem nums_no {c d:UInt8}(hd:¬isDg d)(hcd:d≠c):∀{l:List Nat},d∉nums c l
  | []=>by simp [nums]
  | n :: l=>by
    rw [nums_cons]
    intro h
    rcases List.mem_cons.1 h with h | h
    · exact hcd h
    · rcases List.mem_append.1 h with h | h
      · exact dg_not hd h
      · exact nums_no hd hcd h
def flP (p:List (Nat×Nat)):List Nat:=p.flatMap fun x=>[x.1,x.2]
def capLs (e:Nat)(ps:List (List (Nat×Nat)))(ss:List (List Nat)):List (List UInt8):=lnL easeL [e] :: (ps.map (fun p=>lnL pieceL (flP p))++ss.map (lnL seamL))
def fmtC (e:Nat)(ps:List (List (Nat×Nat)))(ss:List (List Nat)):List UInt8:=(capLs e ps ss).flatMap fun l=>l++[10]
theorem h10:¬isDg 10:=by unfold isDg;decide
theorem h32:¬isDg 32:=by unfold isDg;decide
theorem ln_no {w:List UInt8}{l:List Nat}(h:(10:UInt8)∉w):(10:UInt8)∉lnL w l:=by
  intro hh
  rcases List.mem_append.1 hh with hh | hh
  · exact h hh
  · exact nums_no h10 (by decide) hh
theorem wds_fmtC {e:Nat}{ps:List (List (Nat×Nat))}{ss:List (List Nat)}:wds 10 (fmtC e ps ss)=capLs e ps ss++[[]]:=by
  refine wds_lines fun l hl => ?_
  unfold capLs at hl
  rcases List.mem_cons.1 hl with rfl | hl
  · exact ln_no (by decide)
  · rcases List.mem_append.1 hl with hl | hl
    · obtain ⟨p,-,rfl⟩:=List.mem_map.1 hl
      exact ln_no (by decide)
    · obtain ⟨p,-,rfl⟩:=List.mem_map.1 hl
      exact ln_no (by decide)
structure CpX where
  P:List (List Int×List Int)
  S:List (List Int)
  e:Int
def prs:List Int→List Int×List Int
  | a :: b :: r=>(a :: (prs r).1,b :: (prs r).2)
  | _=>([],[])
def CpX.put (ev:Bool)(x:CpX)(w:List UInt8)(ns:List Int):CpX :=
  if w=easeL∧ns.length=1 then { x with e:=ns.headD 0 }
  else if w=pieceL∧(ev=true→ns.length % 2=0) then { x with P:=x.P++[prs ns] }
  else if w=seamL∧ns.length=4 then { x with S:=x.S++[ns] }
  else x
def CpX.take (num:List UInt8→Int)(ev:Bool)(x:CpX)(line:List UInt8):CpX:=x.put ev ((wds 32 line).headD []) ((wds 32 line).tail.map num)
def rdC (num:List UInt8→Int)(ev:Bool)(l:List (List UInt8)):CpX:=l.foldl (CpX.take num ev) ⟨[],[],0⟩
def smallL (l:List Nat):Prop:=∀n∈l,n<1000000000
def NumOk (num:List UInt8→Int):Prop:=∀n:Nat,n<1000000000→num (Lib.decDigits n)=n
theorem map_num {num:List UInt8→Int}(hn:NumOk num):∀{l:List Nat},smallL l→(l.map Lib.decDigits).map num=ints' l
  | [],_=>rfl
  | n :: l,h=>by
    have:=map_num hn (l:=l) fun m hm=>h m (by simp [hm])
    rw [List.map_cons,List.map_cons,hn n (h n (by simp)),this];rfl
theorem ln_wds {w:List UInt8}(hw:(32:UInt8)∉w){l:List Nat}:wds 32 (lnL w l)=w :: l.map Lib.decDigits:=wds_numsE h32 hw
theorem ints_len {l:List Nat}:(ints' l).length=l.length:=by simp [ints']
theorem fl_len {p:List (Nat×Nat)}:(flP p).length=2*p.length:=by
  induction p with
  | nil=>rfl
  | cons x p ih=>simp only [flP,List.flatMap_cons,List.length_append,List.length_cons,List.length_nil] at ih ⊢;omega
theorem prs_fl:∀{p:List (Nat×Nat)},prs (ints' (flP p))=(ints' (p.map Prod.fst),ints' (p.map Prod.snd))
  | []=>rfl
  | x :: p=>by
    have:=prs_fl (p:=p)
    show prs ((x.1:Int) :: (x.2:Int) :: ints' (flP p))=_
    simp only [prs,this];rfl
theorem take_ln {num:List UInt8→Int}(hn:NumOk num){ev:Bool}{x:CpX}{w:List UInt8}(hw:(32:UInt8)∉w){l:List Nat}(hl:smallL l):x.take num ev (lnL w l)=x.put ev w (ints' l):=by
  unfold CpX.take
  rw [ln_wds hw]
  simp only [List.headD_cons,List.tail_cons]
  rw [map_num hn hl]
theorem ne1:¬pieceL=easeL:=by decide
theorem ne2:¬seamL=easeL:=by decide
theorem ne3:¬seamL=pieceL:=by decide
theorem take_piece {num:List UInt8→Int}(hn:NumOk num){ev:Bool}{x:CpX}{p:List (Nat×Nat)}(hp:smallL (flP p)):x.take num ev (lnL pieceL (flP p))={ x with P:=x.P++[(ints' (p.map Prod.fst),ints' (p.map Prod.snd))] }:=by
  rw [take_ln hn (by decide) hp]
  unfold CpX.put
  rw [if_neg (fun h=>ne1 h.1),if_pos ⟨rfl,fun _=>by rw [ints_len,fl_len];omega⟩,prs_fl]
theorem take_seam {num:List UInt8→Int}(hn:NumOk num){ev:Bool}{x:CpX}{s:List Nat}(h4:s.length=4)(hs:smallL s):x.take num ev (lnL seamL s)={ x with S:=x.S++[ints' s] }:=by
  rw [take_ln hn (by decide) hs]
  unfold CpX.put
  rw [if_neg (fun h=>ne2 h.1),if_neg (fun h=>ne3 h.1),if_pos ⟨rfl,by rw [ints_len,h4]⟩]
theorem take_ease {num:List UInt8→Int}(hn:NumOk num){ev:Bool}{x:CpX}{e:Nat}(he:e<1000000000):x.take num ev (lnL easeL [e])={ x with e:=(e:Int) }:=by
  rw [take_ln hn (by decide) (fun n hn=>by simp at hn;omega)]
  unfold CpX.put
  rw [if_pos ⟨rfl,rfl⟩];rfl
theorem take_end {num:List UInt8→Int}{ev:Bool}{x:CpX}:x.take num ev []=x:=by
  show x.put ev [] []=x
  unfold CpX.put
  rw [if_neg (fun h=>absurd h.1 (by decide)),if_neg (fun h=>absurd h.1 (by decide)),if_neg (fun h=>absurd h.1 (by decide))]
theorem takes_piece {num:List UInt8→Int}(hn:NumOk num){ev:Bool}:∀{ps:List (List (Nat×Nat))} {x:CpX},(∀p∈ps,smallL (flP p))→(ps.map fun p=>lnL pieceL (flP p)).foldl (CpX.take num ev) x={ x with P:=x.P++ps.map fun p=>(ints' (p.map Prod.fst),ints' (p.map Prod.snd)) }
  | [],x,_=>by simp
  | p :: ps,x,h=>by
    rw [List.map_cons,List.foldl_cons,take_piece hn (h p (by simp)),takes_piece hn fun q hq=>h q (by simp [hq])]
    simp
theorem takes_seam {num:List UInt8→Int}(hn:NumOk num){ev:Bool}:∀{ss:List (List Nat)} {x:CpX},(∀s∈ss,s.length=4∧smallL s)→(ss.map (lnL seamL)).foldl (CpX.take num ev) x={ x with S:=x.S++ss.map ints' }
  | [],x,_=>by simp
  | s :: ss,x,h=>by
    obtain ⟨h4,hs⟩:=h s (by simp)
    rw [List.map_cons,List.foldl_cons,take_seam hn h4 hs,takes_seam hn fun q hq=>h q (by simp [hq])]
    simp
theorem rd_fmtC {num:List UInt8→Int}(hn:NumOk num){ev:Bool}{e:Nat}{ps:List (List (Nat×Nat))}{ss:List (List Nat)}(he:e<1000000000)(hp:∀p∈ps,smallL (flP p))(hs:∀s∈ss,s.length=4∧smallL s) :
    rdC num ev (wds 10 (fmtC e ps ss))=⟨ps.map fun p=>(ints' (p.map Prod.fst),ints' (p.map Prod.snd)),ss.map ints',e⟩:=by
  unfold rdC
  rw [wds_fmtC,List.foldl_append,List.foldl_cons,List.foldl_nil,take_end,capLs,List.foldl_cons,List.foldl_append,take_ease hn he,takes_piece hn hp,takes_seam hn hs]
  simp only [List.nil_append]
def atV (w:List UInt8):Int:=match Lib.atoiAll w with
  | .ok n=>n
  | .syntax=>0
  | .range=>Lib.atoiSat w
theorem atV_ok:NumOk atV:=fun n hn=>by
  unfold atV;rw [atoi_dd (by omega)]
end Go.Proofs.YtgjlhdggllakbaaGreatDoor.Vm
namespace Go.Proofs.YtgjlhdggllakbaaGreatDoor.Vm
open Go
set_option maxRecDepth 100000
set_option linter.unusedSimpArgs false
set_option linter.unusedVariables false
attribute [-simp] List.getD_eq_getElem?_getD
def bigN (f:HF):Nat→Bool
  | 0=>false
  | k+1=>bigN f k||(decide (1000000<f 0 (k+1))||decide (1000000<f 1 (k+1)))
def outR (f:HF):List Int:=if bigN f 24 then [] else sideF f 0
def outW (f:HF):List Int:=if bigN f 24 then [] else sideF f 1
def outE (f:HF):Int:=if bigN f 24 then 4 else 0
def abv (f:HF):Nat→Int
  | 0=>0
  | m+1=>abv f m+(f 0 (24-m)+f 1 (24-m))
def drw (f:HF)(n:Int):HF:=fun w L =>
  if w=0 then min (max 0 (n-abv f (24-L))) (f 0 L) else min (max 0 (n-abv f (24-L))-min (max 0 (n-abv f (24-L))) (f 0 L)) (f w L)
def rem2 (f:HF)(n:Int)(i:Nat):Int:=if i % 2=0 then max 0 (n-abv f (i / 2)) else max 0 (n-abv f (i / 2))-min (max 0 (n-abv f (i / 2))) (f 0 (24-i / 2))
end Go.Proofs.YtgjlhdggllakbaaGreatDoor.Vm
namespace Go.Proofs.YtgjlhdggllakbaaGreatDoor.Vm
open Go
set_option maxRecDepth 100000
set_option linter.unusedSimpArgs false
set_option linter.unusedVariables false
attribute [-simp] List.getD_eq_getElem?_getD
attribute [simp] splice11 splice22 splice20 splice21
theorem splice_zs48 {f:HF}:splice (ints (zs 48)) 0 (ints (mk48 f))=ints (mk48 f):=splice_ints_all (by simp)
theorem splice_zs50 {f:HF}:splice (ints (zs 50)) 0 (ints (mk50 f))=ints (mk50 f):=splice_ints_all (by simp)
theorem splice_48 {f g:HF}:splice (ints (mk48 g)) 0 (ints (mk48 f))=ints (mk48 f):=splice_ints_all (by simp)
theorem splice_50 {f g:HF}:splice (ints (mk50 g)) 0 (ints (mk50 f))=ints (mk50 f):=splice_ints_all (by simp)
attribute [simp] splice_zs48 splice_zs50 splice_48 splice_50
theorem rd48_all {f:HF}:rd (some 48) (ints (mk48 f)) 0=some (.agg (ints (mk48 f))):=rd_ints_all (by simp)
theorem rd50_all {f:HF}:rd (some 50) (ints (mk50 f)) 0=some (.agg (ints (mk50 f))):=rd_ints_all (by simp)
attribute [simp] rd48_all rd50_all
def er2 (r w r' w':List Int):Int:=if errOf r w=0 then errOf r' w' else errOf r w
abbrev Out:=List Int×List Int×Int
def outP (f:HF):Out:=(outR f,outW f,outE f)
def errP (e:Int):Out:=([],[],e)
def addF (f g:HF):HF:=fun w n=>f w n+g w n
def trimP (r w:List Int):Out:=if errOf r w=0 then outP (op r w) else errP (errOf r w)
def mixP (r w r' w':List Int):Out:=if er2 r w r' w'=0 then outP (addF (op r w) (op r' w')) else errP (er2 r w r' w')
def turnF (f:HF):HF:=fun w n=>if w=0 then f 0 n+f 1 n else 0
def turnP (r w:List Int):Out:=if errOf r w=0 then outP (turnF (op r w)) else errP (errOf r w)
section
variable {lim:Nat}{H:Hp}{av bv:V}{r w r' w':List Int}{K:V→Hp→Prop}
theorem BunV.right {rv:V}{r:List Int}(h:SlV H rv r):BunV H r [] (.agg [rv,.snil]):=.mk h .nil
abbrev Out2:=List Int×List Int×List Int×List Int×Int
def cntF (f:HF):Int:=abv f 24
def part2 (f g:HF):Out2:=(sideF f 0,sideF f 1,sideF g 0,sideF g 1,0)
def errQ (e:Int):Out2:=([],[],[],[],e)
def subF (f g:HF):HF:=fun w n=>f w n-g w n
def drawP (r w:List Int)(n:Int):Out2:=if errOf r w=0 then if n<0 then errQ 1 else if cntF (op r w)<n then errQ 6 else part2 (drw (op r w) n) (subF (op r w) (drw (op r w) n)) else errQ (errOf r w)
def kA (l:Int):Nat:=24-(max l 1-1).toNat
@[simp] theorem kA_0:kA 0=24:=rfl
@[simp] theorem kA_1:kA 1=24:=rfl
end
end Go.Proofs.YtgjlhdggllakbaaGreatDoor.Vm
namespace Go.Proofs.YtgjlhdggllakbaaGreatDoor.Vm
open Go
set_option maxRecDepth 100000
set_option linter.unusedSimpArgs false
set_option linter.unusedVariables false
attribute [-simp] List.getD_eq_getElem?_getD
def allI:List CK→Bool
  | []=>true
  | .int .i64 :: ks=>allI ks
  | _=>false
section
variable {lim:Nat}{H:Hp}{av bv:V}{r w r' w':List Int}{K:V→Hp→Prop}
def sameB (r w r' w':List Int):Bool:=if er2 r w r' w'=0 then decide (mk48 (op r w)=mk48 (op r' w')) else false
end
def Bel (m:Nat)(v:V):Prop:=∀b o k z,v=.sl b o k z→b<m
section
variable {lim:Nat}{H:Hp}{av bv:V}{r w r' w':List Int}{K:V→Hp→Prop}
end
end Go.Proofs.YtgjlhdggllakbaaGreatDoor.Vm
namespace Go.Proofs.YtgjlhdggllakbaaGreatDoor.Vm
open Go
set_option linter.unusedSimpArgs false
set_option linter.unusedVariables false
attribute [-simp] List.getD_eq_getElem?_getD
def valD (l:List UInt8):Nat:=l.foldl (fun n b=>10*n+(b.toNat-48)) 0
theorem valD_snoc {l:List UInt8}{b:UInt8}:valD (l++[b])=10*valD l+(b.toNat-48):=by simp [valD]
theorem valD_dd (u:Nat):valD (Lib.decDigits u)=u:=by
  induction u using Nat.strongRecOn with
  | _ u ih =>
    by_cases h:u<10
    · rw [Lib.decDigits_one h]
      obtain ⟨h1,h2⟩:=dg_of h
      show 10*0+((UInt8.ofNat (48+u)).toNat-48)=u
      rw [h2];omega
    · rw [dd_big h,valD_snoc,ih (u / 10) (by omega)]
      obtain ⟨h1,h2⟩:=dg_of (d:=u % 10) (by omega)
      rw [h2];omega
theorem dd_len:∀(k u:Nat),u<10 ^ (k+1)→(Lib.decDigits u).length≤k+1
  | 0,u,h=>by rw [Lib.decDigits_one (by simpa using h)];simp
  | k + 1,u,h=>by
    by_cases h1:u<10
    · rw [Lib.decDigits_one h1];simp
    · rw [dd_big h1,List.length_append]
      have:=dd_len k (u / 10) (by rw [Nat.pow_succ] at h;omega)
      simp;omega
def dgB (b:UInt8):Bool:=decide (48≤b.toNat)&&decide (b.toNat≤57)
def numR (l:List UInt8):Int:=if l.all dgB∧l.length≤9∧l≠[]∧Lib.decDigits (valD l)=l then (valD l:Int) else -1
theorem numR_dd {n:Nat}(h:n<1000000000):numR (Lib.decDigits n)=n:=by
  unfold numR
  rw [valD_dd,if_pos]
  refine ⟨?_,dd_len 8 n (by simpa using h),dd_ne n,rfl⟩
  rw [List.all_eq_true]
  intro b hb
  obtain ⟨h1,h2⟩:=dd_dg n b hb
  simp [dgB,h1,h2]
def RdH.stepR (x:RdH)(w:List UInt8):RdH:=if w=wrongL∧x.k=false then { x with k:=true } else if x.k then { x with w:=x.w++[numR w] } else { x with r:=x.r++[numR w] }
def rdR (l:List (List UInt8)):RdH:=(l.drop 1).foldl RdH.stepR ⟨false,[],[]⟩
def midL (l:List Nat):Prop:=∀n∈l,n<1000000000
def toN (l:List Int):List Nat:=l.map Int.toNat
def rS (r w:List Int):List Int:=sideF (op r w) 0
def wS (r w:List Int):List Int:=sideF (op r w) 1
def fmtB (r w:List Int):List UInt8:=fmtH (toN (rS r w)) (toN (wS r w))
def accB (x:RdH)(T:List UInt8):Prop:=errOf x.r x.w=0∧fmtB x.r x.w=T
end Go.Proofs.YtgjlhdggllakbaaGreatDoor.Vm
namespace Go.Proofs.YtgjlhdggllakbaaGreatDoor.Vm
open Go
set_option linter.unusedSimpArgs false
set_option linter.unusedVariables false
attribute [-simp] List.getD_eq_getElem?_getD
def pcX (p:Pc):List (Nat×Nat):=(p.s.zip p.a).map fun x=>(x.1.toNat,x.2.toNat)
def smT (s:Sm):List Nat:=[s.A.toNat,s.I.toNat,s.B.toNat,s.J.toNat]
def fmtK (c:Cp):List UInt8:=fmtC c.e.toNat (c.P.map pcX) (c.S.map smT)
def pcO (ns:List Int):Pc:=⟨(prs ns).1,(prs ns).2⟩
def smO (ns:List Int):Sm:=⟨ns.getD 0 0,ns.getD 1 0,ns.getD 2 0,ns.getD 3 0⟩
def Cp.put (ev:Bool)(x:Cp)(w:List UInt8)(ns:List Int):Cp :=
  if w=easeL∧ns.length=1 then { x with e:=ns.headD 0 }
  else if w=pieceL∧(ev=true→ns.length % 2=0) then { x with P:=x.P++[pcO ns] }
  else if w=seamL∧ns.length=4 then { x with S:=x.S++[smO ns] }
  else x
def Cp.take (num:List UInt8→Int)(ev:Bool)(x:Cp)(line:List UInt8):Cp:=x.put ev ((wds 32 line).headD []) ((wds 32 line).tail.map num)
def rdK (num:List UInt8→Int)(ev:Bool)(l:List (List UInt8)):Cp:=l.foldl (Cp.take num ev) ⟨[],[],0⟩
def cpOf (x:CpX):Cp:=⟨x.P.map fun p=>⟨p.1,p.2⟩,x.S.map smO,x.e⟩
theorem cp_put {ev:Bool}{x:CpX}{w:List UInt8}{ns:List Int}:cpOf (x.put ev w ns)=(cpOf x).put ev w ns:=by
  unfold CpX.put Cp.put
  split
  · rfl
  · split
    · simp [cpOf,pcO]
    · split
      · simp [cpOf]
      · rfl
theorem cp_fold {num:List UInt8→Int}{ev:Bool}:∀{l:List (List UInt8)} {x:CpX},cpOf (l.foldl (CpX.take num ev) x)=l.foldl (Cp.take num ev) (cpOf x)
  | [],_=>rfl
  | a :: l,x=>by
    rw [List.foldl_cons,List.foldl_cons,cp_fold]
    congr 1
    exact cp_put
theorem rdK_eq {num:List UInt8→Int}{ev:Bool}{l:List (List UInt8)}:rdK num ev l=cpOf (rdC num ev l):=by
  unfold rdK rdC
  rw [cp_fold];rfl
theorem zip_fst:∀{s a:List Int},a.length=s.length→(∀x∈s,0≤x)→(∀x∈a,0≤x)→ints' (((s.zip a).map fun x=>(x.1.toNat,x.2.toNat)).map Prod.fst)=s∧ints' (((s.zip a).map fun x=>(x.1.toNat,x.2.toNat)).map Prod.snd)=a
  | [],[],_,_,_=>⟨rfl,rfl⟩
  | x :: s,y :: a,h,hs,ha=>by
    obtain ⟨h1,h2⟩:=zip_fst (s:=s) (a:=a) (by simpa using h) (fun z hz=>hs z (by simp [hz])) fun z hz=>ha z (by simp [hz])
    have hx:=hs x (by simp)
    have hy:=ha y (by simp)
    constructor
    · show ((x.toNat:Nat):Int) :: ints' (((s.zip a).map fun x=>(x.1.toNat,x.2.toNat)).map Prod.fst)=_
      rw [h1];congr 1;omega
    · show ((y.toNat:Nat):Int) :: ints' (((s.zip a).map fun x=>(x.1.toNat,x.2.toNat)).map Prod.snd)=_
      rw [h2];congr 1;omega
  | [],y :: a,h,_,_=>by simp at h
  | x :: s,[],h,_,_=>by simp at h
theorem mem_getD {l:List Int}{x:Int}(h:x∈l):∃i,i<l.length∧l.getD i 0=x:=by
  obtain ⟨i,hi,e⟩:=List.mem_iff_getElem.1 h
  exact ⟨i,hi,by simp [List.getD_eq_getElem?_getD,hi,e]⟩
structure PcB (p:Pc):Prop where
  len:p.a.length=p.s.length
  l6:p.s.length≤6
  s:∀x∈p.s,0≤x∧x≤359
  a:∀x∈p.a,0≤x∧x≤359
theorem pcB_of {p:Pc}(h:pieceB p=true):PcB p:=by
  obtain ⟨h1,h2,h3,_⟩:=piece_ok h
  refine ⟨h2,h1.2,fun x hx => ?_,fun x hx => ?_⟩
  · obtain ⟨i,hi,rfl⟩:=mem_getD hx
    have:=(h3 i hi).1
    omega
  · obtain ⟨i,hi,rfl⟩:=mem_getD hx
    have:=(h3 i (by omega)).2
    omega
theorem pcX_ok {p:Pc}(h:PcB p):(⟨ints' ((pcX p).map Prod.fst),ints' ((pcX p).map Prod.snd)⟩:Pc)=p:=by
  obtain ⟨h1,h2⟩:=zip_fst h.len (fun x hx=>(h.s x hx).1) fun x hx=>(h.a x hx).1
  unfold pcX
  rw [h1,h2]
theorem pcX_small {p:Pc}(h:PcB p):∀n∈flP (pcX p),n≤359:=by
  intro n hn
  unfold flP at hn
  obtain ⟨x,hx,hn⟩:=List.mem_flatMap.1 hn
  unfold pcX at hx
  obtain ⟨y,hy,rfl⟩:=List.mem_map.1 hx
  have h1:=h.s y.1 (List.of_mem_zip (by exact hy)).1
  have h2:=h.a y.2 (List.of_mem_zip (by exact hy)).2
  simp only [List.mem_cons,List.not_mem_nil,or_false] at hn
  rcases hn with rfl | rfl<;>omega
def SmB (s:Sm):Prop:=(0≤s.A∧s.A≤8)∧(0≤s.I∧s.I≤8)∧(0≤s.B∧s.B≤8)∧(0≤s.J∧s.J≤8)
theorem CapOk.smB {c:Cp}(h:CapOk c):∀s∈c.S,SmB s:=by
  intro s hs
  obtain ⟨i,hi,e⟩:=List.mem_iff_getElem.1 hs
  have e0:c.S.getD i default=s:=by simp [List.getD_eq_getElem?_getD,hi,e]
  have h1:=(seam_ok (h.sm i hi)).1
  rw [e0] at h1
  have hn:=h.np
  obtain ⟨a1,a2,a3,a4⟩:=sd_ok h1.1
  obtain ⟨b1,b2,b3,b4⟩:=sd_ok h1.2
  have k1:=h.ks a1
  have k2:=h.ks b1
  unfold SmB
  omega
theorem CapOk.pcB {c:Cp}(h:CapOk c):∀p∈c.P,PcB p:=by
  intro p hp
  obtain ⟨i,hi,e⟩:=List.mem_iff_getElem.1 hp
  have e0:c.P.getD i default=p:=by simp [List.getD_eq_getElem?_getD,hi,e]
  have:=pcB_of (h.pc i hi)
  rwa [e0] at this
theorem smT_ok {s:Sm}(h:SmB s):smO (ints' (smT s))=s:=by
  obtain ⟨h1,h2,h3,h4⟩:=h
  show (⟨(s.A.toNat:Int),(s.I.toNat:Int),(s.B.toNat:Int),(s.J.toNat:Int)⟩:Sm)=s
  rw [show ((s.A.toNat:Nat):Int)=s.A by omega,show ((s.I.toNat:Nat):Int)=s.I by omega,show ((s.B.toNat:Nat):Int)=s.B by omega,show ((s.J.toNat:Nat):Int)=s.J by omega]
theorem map_id' {α:Type}{f:α→α}:∀{l:List α},(∀x∈l,f x=x)→l.map f=l
  | [],_=>rfl
  | a :: l,h=>by rw [List.map_cons,h a (by simp),map_id' fun x hx=>h x (by simp [hx])]
theorem rd_fmtK {num:List UInt8→Int}(hn:NumOk num){ev:Bool}{c:Cp}(h:CapOk c):rdK num ev (wds 10 (fmtK c))=c:=by
  have he:=h.e
  rw [rdK_eq]
  unfold fmtK
  rw [rd_fmtC hn (by omega) (fun p hp=>by
      obtain ⟨q,hq,rfl⟩:=List.mem_map.1 hp
      intro n hn'
      have:=pcX_small (h.pcB q hq) n hn'
      omega) (fun s hs=>by
      obtain ⟨t,ht,rfl⟩:=List.mem_map.1 hs
      obtain ⟨h1,h2,h3,h4⟩:=h.smB t ht
      refine ⟨rfl,fun n hn' => ?_⟩
      simp only [smT,List.mem_cons,List.not_mem_nil,or_false] at hn'
      rcases hn' with rfl | rfl | rfl | rfl<;>omega)]
  obtain ⟨P,S,e⟩:=c
  simp only [cpOf,List.map_map]
  simp only at he
  congr 1
  · exact map_id' fun p hp=>pcX_ok (h.pcB p hp)
  · exact map_id' fun s hs=>smT_ok (h.smB s hs)
  · omega
def accK (x:Cp)(T:List UInt8):Prop:=capE x=0∧fmtK x=T
instance {x:Cp}{T:List UInt8}:Decidable (accK x T):=by unfold accK;infer_instance
def noC:Cp:=⟨[],[],0⟩
def prsK (x:Cp)(T:List UInt8):Cp×Int:=if 4000<T.length then (noC,4) else if accK x T then (x,0) else (noC,3)
theorem acc_rdK {num:List UInt8→Int}(hn:NumOk num){ev:Bool}{x:Cp}{T:List UInt8}(h:accK x T):rdK num ev (wds 10 T)=x:=by
  obtain ⟨h1,rfl⟩:=h
  exact rd_fmtK hn (capE_ok.1 h1)
theorem numK_ok:NumOk numR:=fun n hn=>numR_dd hn
theorem prsK_both {T:List UInt8}:prsK (rdK atV true (wds 10 T)) T=prsK (rdK numR false (wds 10 T)) T:=by
  unfold prsK
  split
  · rfl
  · by_cases h:accK (rdK atV true (wds 10 T)) T
    · have e:=acc_rdK numK_ok (ev:=false) h
      rw [if_pos h,e,if_pos h]
    · by_cases h2:accK (rdK numR false (wds 10 T)) T
      · have e:=acc_rdK atV_ok (ev:=true) h2
        rw [e] at h
        exact absurd h2 h
      · rw [if_neg h,if_neg h2]
theorem prsK_long {x:Cp}{T:List UInt8}(h:4000<T.length):prsK x T=(noC,4):=by unfold prsK;rw [if_pos h]
theorem prsK_acc {x:Cp}{T:List UInt8}(h:¬4000<T.length)(h2:accK x T):prsK x T=(x,0):=by unfold prsK;rw [if_neg h,if_pos h2]
theorem prsK_no {x:Cp}{T:List UInt8}(h:¬4000<T.length)(h2:¬accK x T):prsK x T=(noC,3):=by unfold prsK;rw [if_neg h,if_neg h2]
theorem ddl {u:Nat}(h:u≤999):(Lib.decDigits u).length≤3:=dd_len 2 u (by omega)
theorem nums_lenS {c:UInt8}:∀{l:List Nat},(∀n∈l,n≤999)→(nums c l).length≤4*l.length
  | [],_=>by simp [nums]
  | n :: l,h=>by
    have h1:=nums_lenS (c:=c) (l:=l) fun m hm=>h m (by simp [hm])
    have h2:=ddl (h n (by simp))
    rw [nums_cons,List.length_cons,List.length_append,List.length_cons]
    omega
end Go.Proofs.YtgjlhdggllakbaaGreatDoor.Vm
namespace Go.Proofs.YtgjlhdggllakbaaGreatDoor.Vm
open Go
set_option maxRecDepth 100000
set_option linter.unusedSimpArgs false
set_option linter.unusedVariables false
attribute [-simp] List.getD_eq_getElem?_getD
def bA (l:List UInt8):ByteArray:=⟨l.toArray⟩
theorem bA_size {l:List UInt8}:(bA l).size=l.length:=by show l.toArray.size=_;simp
theorem bA_app {l m:List UInt8}:bA l++bA m=bA (l++m):=by
  have h:(bA l++bA m).data=(bA (l++m)).data:=by simp [bA]
  generalize bA l++bA m=a at h
  generalize bA (l++m)=b at h
  cases a;cases b;simp at h;subst h;rfl
theorem bA_list {s:ByteArray}:bA s.data.toList=s:=by cases s;rfl
theorem list_bA {l:List UInt8}:(bA l).data.toList=l:=by simp [bA]
theorem vlenT_str {s:ByteArray}:vlenT (.str s)=some (.int .i64 s.size):=Eq.trans rfl rfl
attribute [simp] vlenT_str
theorem vadd_bA {l m:List UInt8}(h:l.length+m.length≤1000000):vbin .add (.str (bA l)) (.str (bA m))=some (.str (bA (l++m))):=by
  have:(bA l).size+(bA m).size≤1000000:=by rw [bA_size,bA_size];exact h
  simp only [vbin];rw [if_pos (by omega),bA_app]
theorem dig_lit {n:Nat}(h:n<10):vslT (.str ⟨#[48,49,50,51,52,53,54,55,56,57]⟩) (some (.int .i64 (n:Int))) (some (.int .i64 ((n:Int)+1)))=some (.str (bA (Lib.decDigits n))):=by
  rw [Lib.decDigits_one h]
  match n,h with
  | 0,_=>rfl
  | 1,_=>rfl
  | 2,_=>rfl
  | 3,_=>rfl
  | 4,_=>rfl
  | 5,_=>rfl
  | 6,_=>rfl
  | 7,_=>rfl
  | 8,_=>rfl
  | 9,_=>rfl
theorem dd_len20 {n:Nat}(h:n<1000000000):(Lib.decDigits n).length≤9:=dd_len 8 n (by simpa using h)
theorem digits_r:∀(n:Nat),n<1000000000→∀{H:Hp} {lim:Nat} {K:V→Hp→Prop},K (.str (bA (Lib.decDigits n))) H→VCall tbl lim 41 [.int .i64 (n:Int)] H K:=by
  intro n
  induction n using Nat.strongRecOn with
  | _ n ih =>
    intro hn H lim K hK
    refine VCall_fn tbl_at41 rfl ?_
    by_cases h:n<10
    · have h':((n:Int)<10)=True:=eq_true (by omega)
      simp (disch:=omega) [vf41,h',wrap_i64,dig_lit h]
      exact hK
    · have h':((n:Int)<10)=False:=eq_false (by omega)
      obtain ⟨a,ha⟩:∃a:Nat,a=n / 10:=⟨_,rfl⟩
      obtain ⟨b,hb⟩:∃b:Nat,b=n % 10:=⟨_,rfl⟩
      have q1:Int.tdiv (n:Int) 10=(a:Int):=by rw [Int.tdiv_eq_ediv_of_nonneg (by omega)];omega
      have q2:Int.tmod (n:Int) 10=(b:Int):=by rw [Int.tmod_eq_emod_of_nonneg (by omega)];omega
      have hcat:Lib.decDigits a++Lib.decDigits b=Lib.decDigits n:=by
        rw [dd_big h,ha,hb,Lib.decDigits_one (i:=n % 10) (by omega)]
      have hl1:=dd_len20 (n:=a) (by omega)
      have hl2:=dd_len20 (n:=b) (by omega)
      have hadd:=vadd_bA (l:=Lib.decDigits a) (m:=Lib.decDigits b) (by omega)
      rw [hcat] at hadd
      simp (disch:=omega) [vf41,h',q1,wrap_i64]
      refine ih a (by omega) (by omega) ?_
      simp (disch:=omega) [q2]
      refine ih b (by omega) (by omega) ?_
      simp [hadd]
      exact hK
def strC:Cod ByteArray 1:=⟨fun s=>[.str s],fun _=>rfl⟩
theorem ext_bA {s:ByteArray}{a b:Nat}:s.extract a b=bA ((s.data.toList.take b).drop a):=by
  obtain ⟨⟨l⟩⟩:=s
  have h:((⟨⟨l⟩⟩:ByteArray).extract a b).data=(bA ((l.take b).drop a)).data:=by
    simp [bA,ByteArray.data_extract]
    rw [List.drop_take]
  generalize (⟨⟨l⟩⟩:ByteArray).extract a b=x at h
  generalize bA ((l.take b).drop a)=y at h
  cases x;cases y;simp at h;subst h;rfl
theorem slT_bA {s:ByteArray}{a b:Nat}(h1:a≤b)(h2:b≤s.size):vslT (.str s) (some (.int .i64 (a:Int))) (some (.int .i64 (b:Int)))=some (.str (bA ((s.data.toList.take b).drop a))):=by
  simp only [vslT,vbounds,vint]
  rw [if_pos (by omega),if_pos (by omega)]
  simp only [Int.toNat_natCast,ext_bA]
theorem slT_end {s:ByteArray}{a:Nat}(h1:a≤s.size):vslT (.str s) (some (.int .i64 (a:Int))) none=some (.str (bA (s.data.toList.drop a))):=by
  simp only [vslT,vbounds,vint]
  rw [if_pos (by omega),if_pos (by omega)]
  simp only [Int.toNat_natCast,ext_bA]
  congr 3
  rw [List.take_of_length_le (by show s.data.toList.length≤s.data.size;simp)]
def chB (s:ByteArray)(i:Nat):UInt8:=s.data.toList.getD i 0
theorem idxB {s:ByteArray}{i:Nat}(h:i<s.size):vidxT (.str s) (.int .i64 (i:Int))=some (.int .u8 ((chB s i).toNat:Nat)):=by
  have h':i<s.data.size:=h
  simp only [vidxT,vint];rw [if_pos (by omega)]
  simp only [Int.toNat_natCast,chB,List.getD_eq_getElem?_getD,Array.getD_eq_getD_getElem?,Array.getElem?_toList]
theorem words_r {H:Hp} {lim:Nat} {s:ByteArray} {c:Nat} {K:V→Hp→Prop} (hc:c<256) (hs:s.size≤100000) (hlim:lim≤H.length) (hK:∀H' u,HX H H'→OwnT H.length strC H' u ((wds (UInt8.ofNat c) s.data.toList).map bA)→K u H'):VCall tbl lim 21 [.str s,.int .u8 (c:Int)] H K:=by
  refine VCall_fn tbl_at21 rfl ?_
  have hsz:s.data.toList.length=s.size:=by show s.data.toList.length=s.data.size;simp
  obtain ⟨l,hl⟩:∃l,l=s.data.toList:=⟨_,rfl⟩
  rw [←hl] at hK hsz
  simp [vf21]
  refine wLoop_up s.size (fun i fr L H'=>(fr 0=.str s∧fr 1=.int .u8 c∧fr 7=.int .i64 i)∧(∃from' Ws u,fr 6=.int .i64 (from':Nat)∧fr 5=u∧from'≤i∧UInt8.ofNat c∉(l.take i).drop from'∧wds (UInt8.ofNat c) l=Ws++wds (UInt8.ofNat c) (l.drop from')∧Ws.length≤i∧HX H H'∧OwnT H.length strC H' u (Ws.map bA))∧L=[]∧i≤s.size) ⟨by simp,⟨0,[],.snil,by simp,by simp,Nat.le_refl _,by simp,by simp,by simp,.refl,.nil⟩,rfl,by omega⟩ ?_
  rintro i hi fr L H1 ⟨⟨f0,f1,f7⟩,⟨from',Ws,u,f6,f5,g1,g2,g3,g4,hx,hu⟩,rfl,hle⟩
  have hl1:=hx.len
  by_cases hp:i<s.size
  · have hp':((i:Int)<(s.size:Int))=True:=eq_true (by omega)
    have hxi:=idxB hp
    have htk:l.take (i+1)=l.take i++[chB s i]:=by
      rw [List.take_add_one]
      have:l[i]? = some (chB s i):=by
        rw [hl,chB,List.getD_eq_getElem?_getD,List.getElem?_eq_getElem (by rw [←hl];omega)];rfl
      rw [this];rfl
    by_cases e:(chB s i).toNat=c
    · have e':(((chB s i).toNat:Int)=(c:Int))=True:=eq_true (by omega)
      have ec:chB s i=UInt8.ofNat c:=by rw [←e];simp
      have hcur:l.drop from'=(l.take i).drop from'++UInt8.ofNat c :: l.drop (i+1):=by
        have h1:l=(l.take i++[chB s i])++l.drop (i+1):=by rw [←htk,List.take_append_drop]
        conv=>lhs;rw [h1]
        rw [List.drop_append_of_le_length (by simp;omega),List.drop_append_of_le_length (by simp;omega),ec]
        simp
      have hw:wds (UInt8.ofNat c) (l.drop from')=(l.take i).drop from' :: wds (UInt8.ofNat c) (l.drop (i+1)):=by rw [hcur,wds_app g2]
      obtain ⟨u',H2,a1,a2,a3,a4,a5,a6⟩:=hu.append (x:=bA ((l.take i).drop from')) (cs:=[V.str (bA ((l.take i).drop from'))]) (bytes:=16) (lim:=lim) rfl ⟨hlim,hl1⟩ (by omega) (by simp;omega)
      have hsl:=slT_bA (s:=s) (a:=from') (b:=i) g1 (by omega)
      rw [←hl] at hsl
      simp (disch:=omega) [f0,f1,f5,f6,f7,hp',hxi,e',hsl,splice,a1,wrap_i64]
      refine ⟨hp,⟨i+1,by omega,Nat.le_refl _,by simp,Ws++[(l.take i).drop from'],?_,by simp;omega,a3 H hx (Nat.le_refl _),by simpa using a2⟩,hp⟩
      rw [g3,hw];simp
    · have e':(((chB s i).toNat:Int)=(c:Int))=False:=eq_false (by omega)
      simp (disch:=omega) [f0,f1,f5,f6,f7,hp',hxi,e',wrap_i64]
      refine ⟨hp,⟨from',rfl,by omega,?_,Ws,g3,by omega,hx,hu⟩,hp⟩
      rw [htk,List.drop_append_of_le_length (by simp;omega)]
      intro h
      rcases List.mem_append.1 h with h | h
      · exact g2 h
      · have:UInt8.ofNat c=chB s i:=by simpa using h
        exact e (by rw [←this];simp;omega)
  · have hp':((i:Int)<(s.size:Int))=False:=eq_false (by omega)
    have hi:i=s.size:=by omega
    subst hi
    rw [List.take_of_length_le (by omega)] at g2
    rw [wds_free g2] at g3
    obtain ⟨u',H2,a1,a2,a3,a4,a5,a6⟩:=hu.append (x:=bA (l.drop from')) (cs:=[V.str (bA (l.drop from'))]) (bytes:=16) (lim:=lim) rfl ⟨hlim,hl1⟩ (by omega) (by simp;omega)
    have hsl:=slT_end (s:=s) (a:=from') g1
    rw [←hl] at hsl
    simp (disch:=omega) [f0,f1,f5,f6,f7,hp',hsl,splice,a1,a2.lst.stor]
    refine hK H2 u' (a3 H hx (Nat.le_refl _)) ?_
    rw [g3];simpa using a2
theorem valD_cut {l:List UInt8}{i:Nat}{b:UInt8}(h:l[i]? = some b):valD (l.take (i+1))=10*valD (l.take i)+(b.toNat-48):=by
  rw [List.take_add_one,h]
  exact valD_snoc
theorem valD_bd:∀(k:Nat) (l:List UInt8),l.length=k→l.all dgB=true→valD l<10 ^ k
  | 0,l,h,_=>by rw [List.eq_nil_of_length_eq_zero h];simp [valD]
  | k + 1,l,h,ha=>by
    rcases List.eq_nil_or_concat l with rfl | ⟨m,b,rfl⟩
    · cases h
    · rw [List.concat_eq_append] at h ha ⊢
      rw [List.all_append,Bool.and_eq_true] at ha
      have h1:=valD_bd k m (by simpa using h) ha.1
      have h2:dgB b=true:=by simpa using ha.2
      simp only [dgB,Bool.and_eq_true,decide_eq_true_eq] at h2
      rw [valD_snoc,Nat.pow_succ]
      omega
theorem number_r {H:Hp} {lim:Nat} {s:ByteArray} {K:V→Hp→Prop} (hs:s.size≤100000) (hK:K (.int .i64 (numR s.data.toList)) H):VCall tbl lim 45 [.str s] H K:=by
  refine VCall_fn tbl_at45 rfl ?_
  have hsz:s.data.toList.length=s.size:=by show s.data.toList.length=s.data.size;simp
  obtain ⟨l,hl⟩:∃l,l=s.data.toList:=⟨_,rfl⟩
  rw [←hl] at hK hsz
  have bad:(¬(l.all dgB∧l.length≤9∧l≠[]∧Lib.decDigits (valD l)=l))→K (.int .i64 (-1)) H:=fun h=>by
    unfold numR at hK;rwa [if_neg h] at hK
  simp [vf45]
  refine wLoop_up s.size (fun i fr L H'=>(fr 0=.str s∧fr 4=.int .i64 i∧fr 3=.int .i64 (valD (l.take i):Nat))∧L=[]∧H'=H∧i≤s.size∧i≤9∧(l.take i).all dgB=true) ⟨by simp [valD],rfl,rfl,by omega,by omega,by simp⟩ ?_
  rintro i hi fr L H' ⟨⟨f0,f4,f3⟩,rfl,rfl,hle,h9,hall⟩
  have hbd:=valD_bd i (l.take i) (by simp;omega) hall
  have hpw:10 ^ i≤10 ^ 9:=Nat.pow_le_pow_right (by omega) h9
  have hp9:(10:Nat) ^ 9=1000000000:=by decide
  by_cases hp:i<s.size
  · have hp':((i:Int)<(s.size:Int))=True:=eq_true (by omega)
    have hxi:=idxB hp
    have hat:l[i]? = some (chB s i):=by
      rw [hl,chB,List.getD_eq_getElem?_getD,List.getElem?_eq_getElem (by rw [←hl];omega)];rfl
    have hmem:chB s i∈l:=List.mem_of_getElem? hat
    have hb256:(chB s i).toNat<256:=UInt8.toNat_lt _
    have hv:=valD_cut hat
    by_cases h48:48≤(chB s i).toNat
    case neg =>
      have e1:(((chB s i).toNat:Int)<48)=True:=eq_true (by omega)
      simp [f0,f3,f4,hp',hxi,e1]
      refine bad fun h => ?_
      have:=List.all_eq_true.1 h.1 _ hmem
      simp [dgB] at this;omega
    have e1:(((chB s i).toNat:Int)<48)=False:=eq_false (by omega)
    by_cases h57:(chB s i).toNat≤57
    case neg =>
      have e2:((57:Int)<((chB s i).toNat:Int))=True:=eq_true (by omega)
      simp [f0,f3,f4,hp',hxi,e1,e2]
      refine bad fun h => ?_
      have:=List.all_eq_true.1 h.1 _ hmem
      simp [dgB] at this;omega
    have e2:((57:Int)<((chB s i).toNat:Int))=False:=eq_false (by omega)
    by_cases h8:i=9
    · have e3:((i:Int)=9)=True:=eq_true (by omega)
      simp [f0,f3,f4,hp',hxi,e1,e2,e3]
      refine bad fun h => ?_
      omega
    have e3:((i:Int)=9)=False:=eq_false (by omega)
    have wu:IntKind.wrap .u8 (((chB s i).toNat:Int)-48)=(((chB s i).toNat-48:Nat):Int):=by
      simp [IntKind.wrap,IntKind.bits,IntKind.signed];omega
    obtain ⟨d,hd⟩:∃d,d=(chB s i).toNat-48:=⟨_,rfl⟩
    rw [←hd] at wu hv
    obtain ⟨v,hv0⟩:∃v,v=valD (l.take i):=⟨_,rfl⟩
    rw [←hv0] at f3 hbd hv
    simp (disch:=omega) [f0,f3,f4,hp',hxi,e1,e2,e3,wu,wrap_i64]
    refine ⟨hp,by rw [hv];omega,hp,by omega,?_⟩
    intro x hx
    rw [List.take_add_one,hat] at hx
    rcases List.mem_append.1 hx with h | h
    · exact List.all_eq_true.1 hall x h
    · have:x=chB s i:=by simpa using h
      rw [this];simp [dgB,h48,h57]
  · have hp':((i:Int)<(s.size:Int))=False:=eq_false (by omega)
    have hi:i=s.size:=by omega
    subst hi
    rw [List.take_of_length_le (by omega)] at f3 hall hbd
    by_cases hz:s.size=0
    · have hz':s=⟨#[]⟩:=by
        obtain ⟨⟨m⟩⟩:=s
        have hm:m.length=0:=by rw [hl,hz] at hsz;exact hsz
        have:m=[]:=List.eq_nil_of_length_eq_zero hm
        subst this;rfl
      have hln:l=[]:=List.eq_nil_of_length_eq_zero (by omega)
      have ev:vbin .eql (.str s) (.str ⟨#[]⟩)=some (.bool true):=by rw [hz'];simp [vbin]
      simp [f0,f3,f4,hp',ev]
      exact bad fun h=>h.2.2.1 hln
    · have ev:vbin .eql (.str s) (.str ⟨#[]⟩)=some (.bool false):=by
        have:(s.toList==(⟨#[]⟩:ByteArray).toList)=false:=by
          rw [Lib.toList_data,Lib.toList_data]
          have hne:s.data.toList≠[]:=fun e=>hz (by
            have:=congrArg List.length e
            rw [←hl] at this
            simp at this
            rw [this] at hsz
            simpa using hsz.symm)
          simpa using hne
        simp only [vbin,this]
      simp [f0,f3,f4,hp',ev]
      refine digits_r _ (by omega) ?_
      by_cases hd:Lib.decDigits (valD l)=l
      · have ev2:vbin .neq (.str (bA (Lib.decDigits (valD l)))) (.str s)=some (.bool false):=by
          have:bA (Lib.decDigits (valD l))=s:=by rw [hd,hl];exact bA_list
          rw [this];simp [vbin]
        simp [f0,f3,f4,ev2]
        unfold numR at hK
        rw [if_pos ⟨hall,by omega,fun e=>hz (by rw [←hsz,e];rfl),hd⟩] at hK
        exact hK
      · have ev2:vbin .neq (.str (bA (Lib.decDigits (valD l)))) (.str s)=some (.bool true):=by
          have hne:¬(Lib.decDigits (valD l)=s.data.toList):=fun e=>hd (by rw [e,hl])
          simp only [vbin]
          rw [Lib.toList_data,Lib.toList_data,list_bA]
          simpa using hne
        simp [f0,f3,f4,ev2]
        exact bad fun h=>hd h.2.2.2
end Go.Proofs.YtgjlhdggllakbaaGreatDoor.Vm
namespace Go.Proofs.YtgjlhdggllakbaaGreatDoor.Vm
open Go
set_option maxRecDepth 100000
set_option linter.unusedSimpArgs false
set_option linter.unusedVariables false
attribute [-simp] List.getD_eq_getElem?_getD
theorem nums_app {c:UInt8}{l m:List Nat}:nums c (l++m)=nums c l++nums c m:=by simp [nums]
theorem nums_one {c:UInt8}{n:Nat}:nums c [n]=c :: Lib.decDigits n:=by simp [nums]
theorem toN_take {l:List Int}{i:Nat}(h:i<l.length):toN (l.take (i+1))=toN (l.take i)++[(l.getD i 0).toNat]:=by
  rw [List.take_add_one,List.getElem?_eq_getElem h]
  have:l.getD i 0=l[i]:=by rw [List.getD_eq_getElem?_getD,List.getElem?_eq_getElem h];rfl
  rw [this]
  unfold toN
  rw [List.map_append];rfl
theorem nums_take {l:List Int}{i:Nat}(h:i<l.length):nums 32 (toN (l.take (i+1)))=nums 32 (toN (l.take i))++32 :: Lib.decDigits (l.getD i 0).toNat:=by
  rw [toN_take h,nums_app,nums_one]
def txtP (r w:List Int):ByteArray:=if errOf r w=0 then bA (fmtB r w) else ⟨#[]⟩
end Go.Proofs.YtgjlhdggllakbaaGreatDoor.Vm
namespace Go.Proofs.YtgjlhdggllakbaaGreatDoor.Vm
open Go
set_option maxRecDepth 100000
set_option linter.unusedSimpArgs false
set_option linter.unusedVariables false
attribute [-simp] List.getD_eq_getElem?_getD
def Apt (a b:V):Prop:=∀k o z y o' z' y',a=.sl k o z y→b=.sl k o' z' y'→False
structure TwoB (n:Nat)(H:Hp)(rv wv:V)(r w:List Int):Prop where
  a:OwnV n H rv r
  b:OwnV n H wv w
  ap:Apt rv wv
theorem Apt.symm {a b:V}(h:Apt a b):Apt b a:=fun k o z y o' z' y' h1 h2=>h k o' z' y' o z y h2 h1
theorem wds_len {c:UInt8}:∀l:List UInt8,(wds c l).length≤l.length+1
  | []=>by simp [wds]
  | b :: l=>by
    have:=wds_len (c:=c) l
    rw [wds]
    split
    · simp;omega
    · split
      · simp
      · rename_i w ws e;rw [e] at this;simp at this ⊢;omega
theorem wds_mem {c:UInt8}:∀(l:List UInt8),∀w∈wds c l,w.length≤l.length
  | [],w,h=>by simp [wds] at h;rw [h];simp
  | b :: l,w,h=>by
    have ih:=wds_mem (c:=c) l
    rw [wds] at h
    split at h
    · rcases List.mem_cons.1 h with rfl | h
      · simp
      · have:=ih w h;simp;omega
    · split at h
      · simp at h;rw [h];simp
      · rename_i w' ws e
        rw [e] at ih
        rcases List.mem_cons.1 h with rfl | h
        · have:=ih w' (by simp);simp;omega
        · have:=ih w (by simp [h]);simp;omega
instance {x:RdH}{T:List UInt8}:Decidable (accB x T):=inferInstanceAs (Decidable (_∧_))
def prsP (x:RdH)(T:List UInt8):List Int×List Int×Int:=if 4000<T.length then ([],[],4) else if accB x T then (rS x.r x.w,wS x.r x.w,0) else ([],[],3)
theorem vneq_bA {W:List UInt8}{s:ByteArray}:vbin .neq (.str (bA W)) (.str s)=some (.bool (!(decide (W=s.data.toList)))):=by
  simp only [vbin]
  rw [Lib.toList_data,Lib.toList_data,list_bA]
  by_cases h:W=s.data.toList
  · simp [h]
  · simp [h]
end Go.Proofs.YtgjlhdggllakbaaGreatDoor.Vm
