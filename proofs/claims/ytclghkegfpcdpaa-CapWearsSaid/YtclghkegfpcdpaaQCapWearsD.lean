/- The reference: the side before, and the labels of corners. -/
import Derived.Test.YtclghkegfpcdpaaQCapWearsC
namespace Go.Proofs.Ytclghkegfpcdpaa.Vm
open Go
set_option maxRecDepth 100000
set_option maxHeartbeats 1000000
set_option linter.unusedSimpArgs false
set_option linter.unusedVariables false
attribute [-simp] List.getD_eq_getElem?_getD Bool.exists_bool
section
variable {n lim:Nat}{H H0 H':Hp}{K:V→Hp→Prop}{v:V}{ws vs:List V}{c:Cp}{s:Nat}
theorem SlV.up {g:Nat→Int}{m:Nat}(h:SlV H v (upM g m)){i:Nat}(hi:i<m):viaddrS 1 v (.int .i64 (i:Int))=some (ept 1 v i)∧∀L,vload none L H (ept 1 v i)=some (.int .i64 (g i)):=by
  have a:=h.addr (i:=(i:Int)) (by rw [upM_len];omega)
  rw [Int.toNat_natCast] at a
  refine ⟨a,fun L => ?_⟩
  rw [h.load (by rw [upM_len];exact hi),upM_get hi]
theorem bf_last (hok:CapOk c)(hs:s<nsN c.P):∃m,perN (nsN c.P) (nxN c.P) s=m+1∧itN (nxN c.P) m s=bfN c.P s:=by
  obtain ⟨p1,⟨p2,p3⟩,p4⟩:=per_spec (nx_pr (pcs:=c.P)) hs
  obtain ⟨b1,b2⟩:=nx_bf hs
  refine ⟨perN (nsN c.P) (nxN c.P) s-1,by omega,?_⟩
  refine nx_pr.inj _ _ (nx_pr.it hs _) b2 ?_
  rw [b1]
  have:perN (nsN c.P) (nxN c.P) s=perN (nsN c.P) (nxN c.P) s-1+1:=by omega
  rw [this] at p3
  exact p3
theorem r02_previous (hn:NetV H vs c) (hok:CapOk c) (hs:s<nsN c.P) (hK:K (.int .i64 (bfN c.P s:Nat)) H):VCall tbl lim 91 [.agg vs,.int .i64 s] H K:=by
  obtain ⟨va,vb,vp,vx,vq,rfl,h1,h2,h3,h4,h5⟩:=hn.ex
  refine VCall_fn tbl_at91 rfl ?_
  obtain ⟨m,e1,e2⟩:=bf_last hok hs
  obtain ⟨p1,⟨p2,p3⟩,p4⟩:=per_spec (nx_pr (pcs:=c.P)) hs
  rw [e1] at p3 p4
  simp [vf91]
  refine wLoop_up m (fun k fr L H'=>(fr 1=.int .i64 s∧fr 2=.lp 0 0∧fr 5=.int .i64 (itN (nxN c.P) k s:Nat))∧L=[[va,vb,vp,vx,vq]]∧H'=H) ⟨by simp [itN],rfl,rfl⟩ ?_
  rintro k hk fr L H1 ⟨⟨f1,f2,f5⟩,rfl,rfl⟩
  have hq:=(nx_pr (pcs:=c.P)).it hs k
  obtain ⟨a1,l1⟩:=h4.up hq
  have e3:nxN c.P (itN (nxN c.P) k s)=itN (nxN c.P) (k+1) s:=rfl
  simp only [e3] at l1
  have hne:k<m→itN (nxN c.P) (k+1) s≠s:=fun h e=>p4 (k+1) (by omega) ⟨by omega,e⟩
  generalize hx:itN (nxN c.P) (k+1) s=x at *
  simp [f1,f2,f5,rd5_3,a1,l1]
  refine cond_ndec (fun ht => ?_) fun hf => ?_
  · have hlt:k<m:=by
      rcases Nat.lt_or_ge k m with h | h
      · exact h
      · exfalso;apply ht
        have:k=m:=by omega
        subst this
        rw [←hx,p3]
    simp [f1,f2,f5,rd5_3,a1,l1]
    exact hlt
  · have:k=m:=by
      apply Classical.byContradiction
      intro hn
      exact hne (by omega) (by omega)
    subst this
    simp [f1,f2,f5,rd5_3,a1,l1]
    rw [e2];exact hK
theorem natL_get {l:List Nat}{i:Nat}:(natL l).getD i 0=(l.getD i 0:Nat):=by
  unfold natL
  simp only [List.getD_eq_getElem?_getD,List.getElem?_map]
  cases l[i]? <;> rfl
theorem natL_set {l:List Nat}{i x:Nat}:(natL l).set i (x:Int)=natL (l.set i x):=by
  unfold natL;rw [List.map_set]
def PassM (c:Cp)(l0:List Nat)(a:Nat)(ag:Bool)(l:List Nat):Prop:=(ag=true∧l.sum<l0.sum)∨(ag=false∧l=l0∧∀i,i<a→alf (lsN c) i≠i→l.getD i 0=l.getD (nuP c i) 0)
def FixM (c:Cp)(ag:Bool)(l:List Nat):Prop:=ag=true∨∀i,i<nsN c.P→alf (lsN c) i≠i→l.getD i 0=l.getD (nuP c i) 0
def sumB (ag:Bool)(l:List Nat):Nat:=l.sum+if ag then 1 else 0
theorem r02_meets (hn:NetV H vs c) (hok:CapOk c) (hlim:lim≤H.length) (hK:∀H' v l,HX H H'→OwnV H.length H' v (natL l)→l.length=nsN c.P→(∀i,i<nsN c.P→l.getD i 0=lowE (PtR c) i)→K v H'):VCall tbl lim 90 [.agg vs] H K:=by
  obtain ⟨va,vb,vp,vx,vq,rfl,h1,h2,h3,h4,h5⟩:=hn.ex
  have hns:=hok.ns
  have hnu:=hok.nu
  have hsm:=hok.sm_ok
  refine VCall_fn tbl_at90 rfl ?_
  have len1:∀{H1:Hp},HX H H1→vlenS va=some (.int .i64 (nsN c.P)):=fun x=>by rw [h1.len,upM_len]
  simp [vf90]
  refine wLoop_up (nsN c.P) (fun i fr L H'=>∃v,(fr 1=.lp 0 0∧fr 3=v∧fr 4=.int .i64 i)∧L=[[va,vb,vp,vx,vq]]∧HX H H'∧OwnV H.length H' v (natL (List.range i))) ⟨.snil,by simp,rfl,.refl,.nil⟩ ?_
  rintro i hi fr L H1 ⟨v,⟨f1,f3,f4⟩,rfl,x1,o1⟩
  have hl0:=len1 x1
  simp [f1,f3,f4,rd5_0,hl0]
  refine cond_dec (fun ht => ?_) fun hfl => ?_
  · have ht:i<nsN c.P:=by omega
    have l1:=x1.len
    obtain ⟨v2,H2,b1,b2,b3,b4,_⟩:=o1.appendF (lim:=lim) (x:=(i:Int)) ⟨hlim,by omega⟩ (by simp [natL];omega)
    simp (disch:=omega) [f1,f3,f4,splice,b1,wrap_i64]
    refine ⟨ht,b3 _ x1 (Nat.le_refl _),?_⟩
    have:natL (List.range (i+1))=natL (List.range i)++[(i:Int)]:=by simp [natL,List.range_succ]
    rw [this];exact b2
  · have:i=nsN c.P:=by omega
    subst this
    simp [f1,f3,f4]
    refine wLoop_m (n:=sumB true (List.range (nsN c.P))) (fun k fr L H'=>∃l ag,(fr 1=.lp 0 0∧fr 3=v∧fr 5=.bool ag)∧L=[[va,vb,vp,vx,vq]]∧HX H H'∧OwnV H.length H' v (natL l)∧LowM (PtR c) (nsN c.P) l∧k=sumB ag l∧FixM c ag l) ⟨List.range (nsN c.P),true,by simp [f1,f3],rfl,x1,o1,LowM.start hok.ptE,rfl,Or.inl rfl⟩ ?_
    clear f1 f3 f4 o1 x1 hi hfl hl0 fr
    rintro k fr L H2 ⟨l,ag,⟨f1,f3,f5⟩,rfl,x2,o2,hl,rfl,hfix⟩
    simp [f1,f3,f5]
    refine cond_bool (fun ht => ?_) fun hf => ?_
    · subst ht
      clear hfix
      simp [f1,f3,f5]
      refine wLoop_up (nsN c.P) (fun a fr L H'=>∃l' ag,(fr 1=.lp 0 0∧fr 3=v∧fr 5=.bool ag∧fr 6=.int .i64 a)∧L=[[va,vb,vp,vx,vq]]∧HX H H'∧OwnV H.length H' v (natL l')∧LowM (PtR c) (nsN c.P) l'∧PassM c l a ag l') ⟨l,false,by simp [f1,f3],rfl,x2,o2,hl,Or.inr ⟨rfl,rfl,fun i h=>absurd h (by omega)⟩⟩ ?_
      clear f1 f3 f5 o2 x2 fr
      rintro a ha fr L H3 ⟨l',ag,⟨f1,f3,f5,f6⟩,rfl,x3,o3,hl',hp⟩
      have l3:=x3.len
      have hlen:(natL l').length=nsN c.P:=by simp [natL,hl'.len]
      have hl3:vlenS v=some (.int .i64 (nsN c.P)):=by rw [o3.sl.len,hlen]
      simp [f1,f3,f5,f6,hl3]
      refine cond_dec (fun ht => ?_) fun hf => ?_
      · have ht:a<nsN c.P:=by omega
        have q5:=(h5.mono x3).up ht
        by_cases hfr:alf (lsN c) a=a
        · have e5:ptL (lsN c) a = -1:=by rw [ptL,if_pos hfr]
          rw [e5] at q5
          simp (disch:=omega) [f1,f3,f5,f6,rd5_4,q5.1,q5.2,wrap_i64]
          refine ⟨ht,x3,l',o3,hl',?_⟩
          rcases hp with ⟨p1,p2⟩ | ⟨p1,p2,p3⟩
          · exact Or.inl ⟨p1,p2⟩
          · refine Or.inr ⟨p1,p2,fun i hi hne => ?_⟩
            by_cases e:i=a
            · subst e;exact absurd hfr hne
            · exact p3 i (by omega) hne
        · have e5:ptL (lsN c) a=(alf (lsN c) a:Nat):=by rw [ptL,if_neg hfr]
          have hal:=hsm.pr.lt a ht
          have hb:nuP c a<nsN c.P:=hnu.lt a ht
          have q4:=(h4.mono x3).up hal
          have e4:(nxN c.P (alf (lsN c) a):Int)=(nuP c a:Nat):=rfl
          rw [e5] at q5
          simp only [e4] at q4
          have hstep:=ptE_step hnu ht hfr
          have g1:=o3.sl.addr (i:=(a:Int)) (by rw [hlen];omega)
          have g2:=o3.sl.addr (i:=((nuP c a:Nat):Int)) (by rw [hlen];omega)
          simp only [Int.toNat_natCast] at g1 g2
          have d1:=fun L=>o3.sl.load (i:=a) (by rw [hlen];exact ht) (L:=L)
          have d2:=fun L=>o3.sl.load (i:=nuP c a) (by rw [hlen];exact hb) (L:=L)
          simp only [natL_get] at d1 d2
          have hx1:=hl'.lt ht
          have hx2:=hl'.lt hb
          have hLn:l'.length=nsN c.P:=hl'.len
          have hS:LowM (PtR c) (nsN c.P) (lowS l' a (nuP c a)):=hl'.step hok.ptE ht hb hstep
          have hsum:l'.getD a 0≠l'.getD (nuP c a) 0→(lowS l' a (nuP c a)).sum<l'.sum:=lowS_sum (by rw [hLn];exact ht) (by rw [hLn];exact hb)
          have st1:=fun L=>o3.store (lim:=lim) (i:=a) (x:=((min (l'.getD a 0) (l'.getD (nuP c a) 0):Nat):Int)) (L:=L) ⟨hlim,by rw [hlen];exact ht⟩
          have o4:OwnV H.length (setH H3 v (ints ((natL l').set a ((min (l'.getD a 0) (l'.getD (nuP c a) 0):Nat):Int)))) v ((natL l').set a ((min (l'.getD a 0) (l'.getD (nuP c a) 0):Nat):Int)):=o3.put (by simp)
          have x4:=setH_X x3 o3 (Nat.le_refl _) (cs:=ints ((natL l').set a ((min (l'.getD a 0) (l'.getD (nuP c a) 0):Nat):Int)))
          have st2:=fun L=>o4.store (lim:=lim) (i:=nuP c a) (x:=((min (l'.getD a 0) (l'.getD (nuP c a) 0):Nat):Int)) (L:=L) ⟨hlim,by rw [List.length_set,hlen];exact hb⟩
          have o5:=o4.put (l':=((natL l').set a ((min (l'.getD a 0) (l'.getD (nuP c a) 0):Nat):Int)).set (nuP c a) ((min (l'.getD a 0) (l'.getD (nuP c a) 0):Nat):Int)) (by simp)
          have x5:=setH_X x4 o4 (Nat.le_refl _) (cs:=ints (((natL l').set a ((min (l'.getD a 0) (l'.getD (nuP c a) 0):Nat):Int)).set (nuP c a) ((min (l'.getD a 0) (l'.getD (nuP c a) 0):Nat):Int)))
          have es:((natL l').set a ((min (l'.getD a 0) (l'.getD (nuP c a) 0):Nat):Int)).set (nuP c a) ((min (l'.getD a 0) (l'.getD (nuP c a) 0):Nat):Int)=natL (lowS l' a (nuP c a)):=by rw [natL_set,natL_set];rfl
          rw [es] at st2 o5 x5
          have em:min ((l'.getD a 0:Nat):Int) ((l'.getD (nuP c a) 0:Nat):Int)=((min (l'.getD a 0) (l'.getD (nuP c a) 0):Nat):Int):=by omega
          have hpass:l'.getD a 0=l'.getD (nuP c a) 0→PassM c l (a+1) ag l':=fun e=>by
            rcases hp with ⟨p1,p2⟩ | ⟨p1,p2,p3⟩
            · exact Or.inl ⟨p1,p2⟩
            · refine Or.inr ⟨p1,p2,fun i hi hne => ?_⟩
              by_cases e':i=a
              · subst e';exact e
              · exact p3 i (by omega) hne
          have hpass2:l'.getD a 0≠l'.getD (nuP c a) 0→PassM c l (a+1) true (lowS l' a (nuP c a)):=fun e=>by
            have:=hsum e
            rcases hp with ⟨p1,p2⟩ | ⟨p1,p2,p3⟩
            · exact Or.inl ⟨rfl,by omega⟩
            · exact Or.inl ⟨rfl,by rw [←p2];exact this⟩
          clear hp hsum
          generalize nuP c a=b at *
          generalize alf (lsN c) a=p at *
          generalize hm:min (l'.getD a 0) (l'.getD b 0)=m at *
          generalize lowS l' a b=l2 at *
          generalize hxa:l'.getD a 0=xa at *
          generalize hxb:l'.getD b 0=xb at *
          have dn:((p:Int)<0)=False:=eq_false (by omega)
          simp (disch:=omega) [f1,f3,f5,f6,rd5_3,rd5_4,q5.1,q5.2,q4.1,q4.2,g1,g2,d1,d2,dn,wrap_i64]
          refine cond_ndec (fun hne => ?_) fun heq => ?_
          · have hne:xa≠xb:=by omega
            simp (disch:=omega) [f1,f3,f5,f6,rd5_3,rd5_4,q5.1,q5.2,q4.1,q4.2,g1,g2,d1,d2,wrap_i64,em,st1,st2,-vstore]
            exact ⟨ht,x5,_,o5,hS,hpass2 hne⟩
          · have heq:xa=xb:=by omega
            simp (disch:=omega) [f1,f3,f5,f6,wrap_i64]
            exact ⟨ht,x3,_,o3,hl',hpass heq⟩
      · have:a=nsN c.P:=by omega
        subst this
        simp [f1,f3,f5,f6]
        rcases hp with ⟨p1,p2⟩ | ⟨p1,p2,p3⟩
        · exact ⟨sumB ag l',by rw [p1];simp only [sumB];simp;omega,x3,l',o3,hl',rfl,Or.inl p1⟩
        · exact ⟨sumB ag l',by rw [p1,p2];simp [sumB],x3,l',o3,hl',rfl,Or.inr p3⟩
    · subst hf
      simp [f1,f3,f5]
      rcases hfix with h | h
      · cases h
      · simp [o2.sl.stor]
        exact hK _ _ _ x2 o2 hl.len fun i hi=>low_points hok hl h hi
end
end Go.Proofs.Ytclghkegfpcdpaa.Vm
namespace Go.Proofs.Ytclghkegfpcdpaa.Vm
open Go
set_option maxRecDepth 100000
set_option maxHeartbeats 1000000
set_option linter.unusedSimpArgs false
set_option linter.unusedVariables false
attribute [-simp] List.getD_eq_getElem?_getD Bool.exists_bool
section
variable {c:Cp}{f i:Nat}
theorem memE_yes {E:Nat→Nat→Prop}{n d:Nat}(h:E d n):memE E (n+1) d=memE E n d++[n]:=by
  unfold memE
  rw [List.range_succ,List.filter_append]
  simp [h]
theorem memE_no {E:Nat→Nat→Prop}{n d:Nat}(h:¬E d n):memE E (n+1) d=memE E n d:=by
  unfold memE
  rw [List.range_succ,List.filter_append]
  simp [h]
theorem memE_low {E:Nat→Nat→Prop}{d:Nat}(h:LeE E d):memE E d d=[]:=by
  unfold memE
  rw [List.filter_eq_nil_iff]
  intro x hx
  simpa using h x (List.mem_range.1 hx)
def edgB (c:Cp)(d:Nat):Bool:=decide (alf (lsN c) d≠d)&&decide (alf (lsN c) (bfN c.P d)≠bfN c.P d)
noncomputable def innA (c:Cp)(f i:Nat):Bool:=(memE (PtR c) i f).all (edgB c)
noncomputable def sumA (c:Cp)(f i:Nat):Int:=((memE (PtR c) i f).map (anN c.P)).sum
theorem innA_all (hok:CapOk c)(hf:f<nsN c.P):innA c f (nsN c.P)=innB c f:=by
  rw [Bool.eq_iff_iff]
  unfold innA innB edgB
  simp only [List.all_eq_true,decide_eq_true_eq,Bool.and_eq_true,mem_memE]
  constructor
  · intro h d hd
    exact (h d ⟨ptE_lt hd hf,hd⟩).1
  · rintro h d ⟨hd,he⟩
    refine ⟨h d he,fun e => ?_⟩
    exact sta_free hok.nu hd ((sta_bf hok hd).1 e) ((InnN.iff hok.nu he).1 h)
theorem sumA_bd (hok:CapOk c)(hi:i≤nsN c.P):0≤sumA c f i∧sumA c f i≤17232:=by
  have h1:=sum_le hok (l:=memE (PtR c) i f) fun x hx=>by
    have:=(mem_memE.1 hx).1;omega
  have h2:(memE (PtR c) i f).length≤i:=by
    unfold memE;exact Nat.le_trans (List.length_filter_le _ _) (by simp)
  have:=hok.ns
  unfold sumA
  refine ⟨h1.1,Int.le_trans h1.2 ?_⟩
  omega
open Classical in
noncomputable def ptsA (c:Cp)(b:Nat):List Ptt:=((List.range b).filter fun k=>decide (LeE (PtR c) k)).map (ptOf c)
theorem ptsA_yes {b:Nat}(h:LeE (PtR c) b):ptsA c (b+1)=ptsA c b++[ptOf c b]:=by
  unfold ptsA
  rw [List.range_succ,List.filter_append]
  simp [h]
theorem ptsA_no {b:Nat}(h:¬LeE (PtR c) b):ptsA c (b+1)=ptsA c b:=by
  unfold ptsA
  rw [List.range_succ,List.filter_append]
  simp [h]
theorem ptsA_all:ptsA c (nsN c.P)=ptsP c:=rfl
theorem ptsA_len {b:Nat}:(ptsA c b).length≤b:=by
  unfold ptsA
  rw [List.length_map]
  exact Nat.le_trans (List.length_filter_le _ _) (by simp)
theorem low_iff (hok:CapOk c){k:Nat}:lowE (PtR c) k=k↔LeE (PtR c) k :=
  ⟨fun e=>by have:=(lowE_spec hok.ptE k).2.2;rwa [e] at this,fun h=>lowE_min hok.ptE h⟩
theorem low_eq (hok:CapOk c)(hf:LeE (PtR c) f):lowE (PtR c) i=f↔PtR c f i:=by
  constructor
  · intro e;rw [←e];exact hok.ptE.sy (lowE_spec hok.ptE i).2.1
  · intro h;rw [←lowE_eq hok.ptE h,lowE_min hok.ptE hf]
end
structure PpS (n:Nat)(H0:Hp)(u:V)(pts:List Pnt)(q:List Ptt)(cv:V)(cur:List Int)(H:Hp):Prop where
  hx:HX H0 H
  ou:OwnT n pntC H u pts
  len:pts.length=q.length
  eq:∀i,i<q.length→(pts.getD i default).i=(q.getD i default).inn∧(pts.getD i default).a=(q.getD i default).ang∧(pts.getD i default).d=(q.getD i default).df
  oc:∀i,i<q.length→OwnV n H (pts.getD i default).v (natL (q.getD i default).cs)
  ow:OwnV n H cv cur
  ap:∀i,i<q.length→∀b o z y o' z' y',u=.sl b o z y→(pts.getD i default).v=.sl b o' z' y'→False
  aw:∀b o z y o' z' y',u=.sl b o z y→cv=.sl b o' z' y'→False
  ac:∀i,i<q.length→∀b o z y o' z' y',cv=.sl b o z y→(pts.getD i default).v=.sl b o' z' y'→False
section
variable {n lim:Nat}{H H0 H':Hp}{K:V→Hp→Prop}{u cv v:V}{pts:List Pnt}{q:List Ptt}{cur:List Int}{ws vs:List V}{c:Cp}
theorem PpS.pushC (h:PpS n H0 u pts q cv cur H){x:Int}(hn:lim≤n∧H0.length≤n∧n≤H.length)(hl:cur.length<1000000) :
    ∃cv' H',vappend lim 1 8 (H++[.row [.int .i64 x] true]) cv (.sl H.length 0 1 1)=some (cv',H')∧PpS n H0 u pts q cv' (cur++[x]) H'∧H.length≤H'.length:=by
  obtain ⟨v',H',a1,a2,a3,a4,a5,a6⟩:=h.ow.appendF (lim:=lim) (x:=x) ⟨hn.1,hn.2.2⟩ hl
  refine ⟨v',H',a1,⟨a3 _ h.hx hn.2.1,h.ou.keepB fun b o m z e=>a5 b (h.ou.belowB _ _ _ _ e).2 fun o' z' y' e'=>h.aw _ _ _ _ _ _ _ e e',h.len,h.eq,
    fun i hi=>(h.oc i hi).keepB fun b o m z e=>a5 b ((h.oc i hi).belowB _ _ _ _ e).2 fun o' z' y' e'=>h.ac i hi _ _ _ _ _ _ _ e' e,a2,h.ap,fun b o z y o' z' y' e e' => ?_,fun i hi b o z y o' z' y' e e' => ?_⟩,a4⟩
  · have:=(h.ou.belowB _ _ _ _ e).2
    have:=a6 _ _ _ _ e'
    omega
  · have:=((h.oc i hi).belowB _ _ _ _ e').2
    have:=a6 _ _ _ _ e
    omega
theorem PpS.pushU {p:Ptt}(h:PpS n H0 u pts q cv (natL p.cs) H){k:Int}(hn:lim≤n∧H0.length≤n∧n≤H.length)(hl:q.length<1000000) :
    ∃u' H',vappend lim 4 48 (H++[.row [cv,.bool p.inn,.int .i64 p.ang,.int .i64 p.df] true]) u (.sl H.length 0 1 4)=some (u',H')∧PpS n H0 u' (pts++[⟨cv,p.inn,p.ang,p.df,k⟩]) (q++[p]) .snil [] H'∧H.length≤H'.length:=by
  obtain ⟨v',H',a1,a2,a3,a4,a5,a6⟩:=h.ou.appendF2 (lim:=lim) (bytes:=48) (x:=⟨cv,p.inn,p.ang,p.df,k⟩) (cs:=[cv,.bool p.inn,.int .i64 p.ang,.int .i64 p.df]) rfl ⟨hn.1,hn.2.2⟩ (by omega) (by rw [h.len];exact hl)
  have hlen:=h.len
  refine ⟨v',H',a1,⟨a3 _ h.hx hn.2.1,a2,by simp [h.len],fun i hi => ?_,fun i hi => ?_,.nil,fun i hi b o z y o' z' y' e e' => ?_,fun b o z y o' z' y' _ e=>(by cases e),fun i hi b o z y o' z' y' e _=>(by cases e)⟩,a4⟩
  · rw [List.length_append,List.length_singleton] at hi
    by_cases hlt:i<q.length
    · rw [getD_lt (by omega),getD_lt (l:=q) hlt];exact h.eq i hlt
    · have:i=q.length:=by omega
      subst this
      rw [getD_last hlen.symm,getD_last rfl]
      exact ⟨rfl,rfl,rfl⟩
  · rw [List.length_append,List.length_singleton] at hi
    by_cases hlt:i<q.length
    · rw [getD_lt (by omega),getD_lt (l:=q) hlt]
      exact (h.oc i hlt).keepB fun b o m z e=>a5 b ((h.oc i hlt).belowB _ _ _ _ e).2 fun o' z' y' e'=>h.ap i hlt _ _ _ _ _ _ _ e' e
    · have:i=q.length:=by omega
      subst this
      rw [getD_last hlen.symm,getD_last rfl]
      exact h.ow.keepB fun b o m z e=>a5 b (h.ow.belowB _ _ _ _ e).2 fun o' z' y' e'=>h.aw _ _ _ _ _ _ _ e' e
  · rw [List.length_append,List.length_singleton] at hi
    have h6:=a6 _ _ _ _ e
    by_cases hlt:i<q.length
    · rw [getD_lt (by omega)] at e'
      have:=(h.oc i hlt).belowB _ _ _ _ e'
      omega
    · have:i=q.length:=by omega
      subst this
      rw [getD_last hlen.symm] at e'
      have:=h.ow.belowB _ _ _ _ e'
      omega
theorem r02_points (hn:NetV H vs c) (hok:CapOk c) (hlim:lim≤H.length) (hK:∀H' v,HX H H'→PtlV H.length H' v (ptsP c)→K v H'):VCall tbl lim 61 [.agg vs] H K:=by
  have hn0:=hn
  obtain ⟨va,vb,vp,vx,vq,rfl,h1,h2,h3,h4,h5⟩:=hn.ex
  have hns:=hok.ns
  have hsm:=hok.sm_ok
  have hE:=hok.ptE
  refine VCall_fn tbl_at61 rfl ?_
  simp [vf61,rdA5,h1.stor,h1.one,h2.stor,h2.one,h3.stor,h3.one,h4.stor,h4.one,h5.stor,h5.one]
  refine r02_meets hn0 hok hlim fun H1 lw l x1 o1 hll hlo => ?_
  replace x1:HX H H1:=x1
  have l1:=x1.len
  have hll2:(natL l).length=nsN c.P:=by simp [natL,hll]
  have hvl:vlenS lw=some (.int .i64 (nsN c.P)):=by rw [o1.sl.len,hll2]
  have lwG:∀{H2:Hp} {k:Nat},HX H1 H2→k<nsN c.P→viaddrS 1 lw (.int .i64 (k:Int))=some (ept 1 lw k)∧∀L,vload none L H2 (ept 1 lw k)=some (.int .i64 (lowE (PtR c) k:Nat)):=by
    intro H2 k hx hk
    have a:=o1.sl.addr (i:=(k:Int)) (by rw [hll2];omega)
    rw [Int.toNat_natCast] at a
    refine ⟨a,fun L => ?_⟩
    rw [(o1.sl.mono hx).load (by rw [hll2];exact hk),natL_get,hlo k hk]
  simp [hvl]
  refine wLoop_up (nsN c.P) (fun i fr L H'=>∃u X pts,(fr 1=.lp 0 0∧fr 3=lw∧fr 4=u∧fr 5=.int .i64 i)∧L=[va,vb,vp,vx,vq] :: X∧PpS H1.length H1 u pts (ptsA c i) .snil [] H') ⟨.snil,[],[],by simp,rfl,.refl,.nil,rfl,fun i hi=>by simp [ptsA] at hi,fun i hi=>by simp [ptsA] at hi,.nil,fun i hi=>by simp [ptsA] at hi,fun b o z y o' z' y' e _=>(by cases e),fun i hi=>by simp [ptsA] at hi⟩ ?_
  rintro f hf fr L H2 ⟨u,X,pts,⟨f1,f3,f4,f5⟩,rfl,hS⟩
  simp [f1,f3,f4,f5,hvl]
  have x2:HX H1 H2:=hS.hx
  have l2:=x2.len
  refine cond_dec (fun ht => ?_) fun hfl => ?_
  · have ht : f<nsN c.P:=by omega
    have g0:=lwG x2 ht
    by_cases hlow:LeE (PtR c) f
    case neg =>
      have hne:lowE (PtR c) f≠f:=fun e=>hlow ((low_iff hok).1 e)
      have hd:decide (((lowE (PtR c) f:Nat):Int)=(f:Int))=false:=decide_eq_false (by omega)
      have hd2:(((lowE (PtR c) f:Nat):Int)=(f:Int))=False:=eq_false (by omega)
      generalize lowE (PtR c) f=lf at *
      have hd3:(lf=f)=False:=eq_false (by omega)
      simp (disch:=omega) [f1,f3,f4,f5,g0.1,g0.2,hd,hd2,hd3,wrap_i64]
      exact ⟨ht,pts,by rw [ptsA_no hlow];exact hS⟩
    have hlf:lowE (PtR c) f=f:=(low_iff hok).2 hlow
    rw [hlf] at g0
    simp (disch:=omega) [f1,f3,f4,f5,g0.1,g0.2,wrap_i64,splice,lastO,lastS]
    refine wLoop_up (nsN c.P-f) (fun k fr L H'=>∃cv,(fr 1=.lp 0 0∧fr 3=lw∧fr 4=u∧fr 5=.int .i64 f∧fr 6=.lp (X.length+1) 0∧fr 7=.int .i64 (f+k:Nat))∧L=[va,vb,vp,vx,vq] :: (X++[[cv,.bool (innA c f (f+k)),.int .i64 (sumA c f (f+k)),.int .i64 0]])∧PpS H1.length H1 u pts (ptsA c f) cv (natL (memE (PtR c) (f+k) f)) H') ⟨.snil,by simp [f1,f3,f4,f5],by simp [innA,sumA,memE_low hlow],by rw [Nat.add_zero,memE_low hlow];exact hS⟩ ?_
    clear f1 f3 f4 f5 hS x2 l2 g0 fr
    rintro k hk fr L H3 ⟨cv,⟨f1,f3,f4,f5,f6,f7⟩,rfl,hS⟩
    have x3:HX H1 H3:=hS.hx
    have l3:=x3.len
    simp [f1,f3,f4,f5,f6,f7,hvl]
    refine cond_dec (fun hkt => ?_) fun hkf => ?_
    · have hkt:f+k<nsN c.P:=by omega
      have hk':k<nsN c.P-f:=by omega
      have g1:=lwG x3 hkt
      have q1:((f:Int)+(k:Int))=((f+k:Nat):Int):=by omega
      rw [show f+(k+1)=f+k+1 by omega]
      have hsb:=sumA_bd (f:=f) hok (i:=f+k) (by omega)
      generalize hj:f+k=j at *
      by_cases hin:PtR c f j
      case neg =>
        have hne:lowE (PtR c) j≠f:=fun e=>hin ((low_eq hok hlow).1 e)
        generalize lowE (PtR c) j=lj at *
        have hd1:(lj=f)=False:=eq_false hne
        have hd2:((lj:Int)=(f:Int))=False:=eq_false (by omega)
        simp (disch:=omega) [f1,f3,f4,f5,f6,f7,q1,g1.1,g1.2,hd1,hd2,wrap_i64]
        refine ⟨hk',by omega,cv,?_,?_⟩
        · simp [innA,sumA,memE_no hin]
        · rw [memE_no hin];exact hS
      have hlj:lowE (PtR c) j=f:=(low_eq hok hlow).2 hin
      rw [hlj] at g1
      obtain ⟨cv2,H4,b1,hS4,l4⟩:=hS.pushC (lim:=lim) (x:=(j:Int)) ⟨by omega,Nat.le_refl _,by omega⟩ (by
        have:(memE (PtR c) j f).length≤j:=by unfold memE;exact Nat.le_trans (List.length_filter_le _ _) (by simp)
        simp only [natL,List.length_map];omega)
      have x4:HX H1 H4:=hS4.hx
      have x04:HX H H4:=x1.trans x4
      have zc:=hS.ow.sl
      have zc2:=hS4.ow.sl
      have a2:=(h2.mono x04).up hkt
      have a5:=(h5.mono x04).up hkt
      have hbf:=nx_bf hkt
      have a6:=(h5.mono x04).up hbf.2
      have hab:=an_bd hok hkt
      have es:sumA c f (j+1)=sumA c f j+anN c.P j:=by unfold sumA;rw [memE_yes hin];simp
      have ei:innA c f (j+1)=(innA c f j&&edgB c j):=by unfold innA;rw [memE_yes hin];simp
      have em:natL (memE (PtR c) (j+1) f)=natL (memE (PtR c) j f)++[(j:Int)]:=by rw [memE_yes hin];simp [natL]
      rw [em,ei,es]
      have hnv:NetV H4 [va,vb,vp,vx,vq] c:=hn0.mono x04
      cases hb:innA c f j with
      | false =>
        simp (disch:=omega) [f1,f3,f4,f5,f6,f7,q1,g1.1,g1.2,wrap_i64,lastO,lastS,rd0,rd1',rd2',rd5_1,rd5_4,zc.stor,zc.one,zc2.stor,zc2.one,splice,b1,a2.1,a2.2,isLp_ept,hb]
        first | exact ⟨hk',hS4⟩ | exact ⟨hk',by omega,hS4⟩
      | true =>
        by_cases hfr:alf (lsN c) j=j
        · have e5:ptL (lsN c) j = -1:=by rw [ptL,if_pos hfr]
          rw [e5] at a5
          have eb:edgB c j=false:=by simp [edgB,hfr]
          simp (disch:=omega) [f1,f3,f4,f5,f6,f7,q1,g1.1,g1.2,wrap_i64,lastO,lastS,rd0,rd1',rd2',rd5_1,rd5_4,zc.stor,zc.one,zc2.stor,zc2.one,splice,b1,a2.1,a2.2,a5.1,a5.2,isLp_ept,hb,eb]
          first | exact ⟨hk',hS4⟩ | exact ⟨hk',by omega,hS4⟩
        · have e5:ptL (lsN c) j=(alf (lsN c) j:Nat):=by rw [ptL,if_neg hfr]
          rw [e5] at a5
          generalize hal:alf (lsN c) j=al at a5
          have d5:((0:Int)≤(al:Int))=True:=eq_true (by omega)
          simp (disch:=omega) [f1,f3,f4,f5,f6,f7,q1,g1.1,g1.2,wrap_i64,lastO,lastS,rd0,rd1',rd2',rd5_1,rd5_4,rdA5,zc.stor,zc.one,zc2.stor,zc2.one,splice,b1,a2.1,a2.2,a5.1,a5.2,d5,isLp_ept,hb,h1.stor,h1.one,h2.stor,h2.one,h3.stor,h3.one,h4.stor,h4.one,h5.stor,h5.one]
          refine r02_previous hnv hok hkt ?_
          by_cases hfb:alf (lsN c) (bfN c.P j)=bfN c.P j
          · have e6:ptL (lsN c) (bfN c.P j) = -1:=by rw [ptL,if_pos hfb]
            rw [e6] at a6
            have eb:edgB c j=false:=by simp [edgB,hfb]
            generalize bfN c.P j=bj at *
            simp (disch:=omega) [f1,f3,f4,f5,f6,f7,wrap_i64,lastO,lastS,rd0,rd1',rd2',splice,a6.1,a6.2,eb]
            first | exact ⟨hk',hS4⟩ | exact ⟨hk',by omega,hS4⟩
          · have e6:ptL (lsN c) (bfN c.P j)=(alf (lsN c) (bfN c.P j):Nat):=by rw [ptL,if_neg hfb]
            rw [e6] at a6
            have eb:edgB c j=true:=by unfold edgB;rw [decide_eq_true hfr,decide_eq_true hfb];rfl
            generalize alf (lsN c) (bfN c.P j)=a7 at *
            have d6:((0:Int)≤(a7:Int))=True:=eq_true (by omega)
            generalize bfN c.P j=bj at *
            simp (disch:=omega) [f1,f3,f4,f5,f6,f7,wrap_i64,lastO,lastS,rd0,rd1',rd2',splice,a6.1,a6.2,eb,d6]
            first | exact ⟨hk',hS4⟩ | exact ⟨hk',by omega,hS4⟩
    · have hkN:f+k=nsN c.P:=by omega
      rw [hkN] at hS
      have zc:=hS.ow.sl
      have hsb:=sumA_bd (f:=f) hok (Nat.le_refl (nsN c.P))
      have hA:=innA_all hok ht
      have hps:(ptOf c f).cs=memE (PtR c) (nsN c.P) f∧(ptOf c f).inn=innB c f∧(ptOf c f).ang=sumA c f (nsN c.P)∧(ptOf c f).df=(if innB c f then 360 else 180)-sumA c f (nsN c.P):=⟨rfl,rfl,rfl,rfl⟩
      obtain ⟨p1,p2,p3,p4⟩:=hps
      rw [←p1] at hS
      obtain ⟨u2,H4,b1,hS4,l4⟩:=hS.pushU (lim:=lim) (k:=0) ⟨by omega,Nat.le_refl _,by omega⟩ (by have:=ptsA_len (c:=c) (b:=f);omega)
      rw [p2,p3,p4] at b1
      rw [←ptsA_yes hlow] at hS4
      cases hb:innB c f with
      | false =>
        rw [hb] at b1 hA
        simp only [Bool.false_eq_true,if_false] at b1
        simp (disch:=omega) [f1,f3,f4,f5,f6,f7,hkN,hA,wrap_i64,lastO,lastS,rd0,rd1',rd2',rd3',rdA4,zc.stor,zc.one,splice,b1]
        exact ⟨ht,_,hS4⟩
      | true =>
        rw [hb] at b1 hA
        simp only [if_true] at b1
        simp (disch:=omega) [f1,f3,f4,f5,f6,f7,hkN,hA,wrap_i64,lastO,lastS,rd0,rd1',rd2',rd3',rdA4,zc.stor,zc.one,splice,b1]
        exact ⟨ht,_,hS4⟩
  · have:f=nsN c.P:=by omega
    subst this
    simp [f1,f3,f4,f5,hS.ou.lst.stor]
    rw [ptsA_all] at hS
    exact hK _ _ (x1.trans x2) ⟨pts,hS.ou.le (by omega),hS.len,fun i hi=>⟨(hS.eq i hi).1,(hS.eq i hi).2.1,(hS.eq i hi).2.2,(hS.oc i hi).le (by omega)⟩⟩
end
end Go.Proofs.Ytclghkegfpcdpaa.Vm
namespace Go.Proofs.Ytclghkegfpcdpaa.Vm
open Go
set_option maxRecDepth 100000
set_option maxHeartbeats 1000000
set_option linter.unusedSimpArgs false
set_option linter.unusedVariables false
attribute [-simp] List.getD_eq_getElem?_getD Bool.exists_bool
structure PassP (c:Cp)(l0:List Nat)(a:Nat)(l:List Nat):Prop where
  low:LowM (PrtR c) c.P.length l
  le:∀x,l.getD x 0≤l0.getD x 0
  sm:∀i,i<a→alf (lsN c) i≠i→l.getD (pcN c.P i) 0≤l0.getD (pcN c.P (alf (lsN c) i)) 0
section
variable {n lim:Nat}{H H0 H':Hp}{K:V→Hp→Prop}{v:V}{ws vs:List V}{c:Cp}{a:Nat}{l l0:List Nat}
theorem PassP.skip (h:PassP c l0 a l)(hf:alf (lsN c) a=a):PassP c l0 (a+1) l where
  low:=h.low
  le:=h.le
  sm:=fun i hi hne=>by
    by_cases e:i=a
    · subst e;exact absurd hf hne
    · exact h.sm i (by omega) hne
theorem PassP.step (hok:CapOk c)(h:PassP c l0 a l)(ha:a<nsN c.P):PassP c l0 (a+1) (lowS l (pcN c.P a) (pcN c.P (alf (lsN c) a))):=by
  have hal:=hok.sm_ok.pr.lt a ha
  have h1:pcN c.P a<l.length:=by rw [h.low.len];exact pc_lt ha
  have h2:pcN c.P (alf (lsN c) a)<l.length:=by rw [h.low.len];exact pc_lt hal
  refine ⟨h.low.step prtE_eqv (pc_lt ha) (pc_lt hal) prtE_sewn,fun x=>Nat.le_trans (lowS_le h1 h2) (h.le x),fun i hi hne => ?_⟩
  by_cases e:i=a
  · subst e
    rw [lowS_get h1 h2,if_pos (Or.inr rfl)]
    exact Nat.le_trans (Nat.min_le_right _ _) (h.le _)
  · exact Nat.le_trans (lowS_le h1 h2) (h.sm i (by omega) hne)
theorem r02_parts (hn:NetV H vs c) (hok:CapOk c) (hlim:lim≤H.length) (hK:∀H',HX H H'→K (.int .i64 (partP c:Nat)) H'):VCall tbl lim 65 [.agg vs,.int .i64 (c.P.length:Nat)] H K:=by
  obtain ⟨va,vb,vp,vx,vq,rfl,h1,h2,h3,h4,h5⟩:=hn.ex
  have hns:=hok.ns
  have hnp:=hok.np
  have hsm:=hok.sm_ok
  refine VCall_fn tbl_at65 rfl ?_
  simp [vf65]
  refine wLoop_up c.P.length (fun i fr L H'=>∃v,(fr 1=.int .i64 (c.P.length:Nat)∧fr 2=.lp 0 0∧fr 5=v∧fr 6=.int .i64 i)∧L=[[va,vb,vp,vx,vq]]∧HX H H'∧OwnV H.length H' v (natL (List.range i))) ⟨.snil,by simp,rfl,.refl,.nil⟩ ?_
  rintro i hi fr L H1 ⟨v,⟨f1,f2,f5,f6⟩,rfl,x1,o1⟩
  simp [f1,f2,f5,f6]
  refine cond_dec (fun ht => ?_) fun hfl => ?_
  · have ht:i<c.P.length:=by omega
    have l1:=x1.len
    obtain ⟨v2,H2,b1,b2,b3,b4,_⟩:=o1.appendF (lim:=lim) (x:=(i:Int)) ⟨hlim,by omega⟩ (by simp [natL];omega)
    simp (disch:=omega) [f1,f2,f5,f6,splice,b1,wrap_i64]
    refine ⟨ht,b3 _ x1 (Nat.le_refl _),?_⟩
    have:natL (List.range (i+1))=natL (List.range i)++[(i:Int)]:=by simp [natL,List.range_succ]
    rw [this];exact b2
  · have:i=c.P.length:=by omega
    subst this
    simp [f1,f2,f5,f6]
    refine wLoop_up c.P.length (fun r fr L H'=>∃l,(fr 1=.int .i64 (c.P.length:Nat)∧fr 2=.lp 0 0∧fr 5=v∧fr 7=.int .i64 r)∧L=[[va,vb,vp,vx,vq]]∧HX H H'∧OwnV H.length H' v (natL l)∧LowM (PrtR c) c.P.length l∧RndP c r l) ⟨List.range c.P.length,by simp [f1,f2,f5],rfl,x1,o1,LowM.start prtE_eqv,RndP.start⟩ ?_
    clear f1 f2 f5 f6 o1 x1 hi hfl fr
    rintro r hr fr L H2 ⟨l,⟨f1,f2,f5,f7⟩,rfl,x2,o2,hl,hrd⟩
    simp [f1,f2,f5,f7]
    refine cond_dec (fun hrt => ?_) fun hrf => ?_
    · have hrt:r<c.P.length:=by omega
      simp [f1,f2,f5,f7]
      refine wLoop_up (nsN c.P) (fun a fr L H'=>∃l',(fr 1=.int .i64 (c.P.length:Nat)∧fr 2=.lp 0 0∧fr 5=v∧fr 7=.int .i64 r∧fr 8=.int .i64 a)∧L=[[va,vb,vp,vx,vq]]∧HX H H'∧OwnV H.length H' v (natL l')∧PassP c l a l') ⟨l,by simp [f1,f2,f5,f7],rfl,x2,o2,hl,fun _=>Nat.le_refl _,fun i h=>absurd h (by omega)⟩ ?_
      clear f1 f2 f5 f7 o2 x2 fr
      rintro a ha fr L H3 ⟨l',⟨f1,f2,f5,f7,f8⟩,rfl,x3,o3,hp⟩
      have l3:=x3.len
      have hl':=hp.low
      have hlen:(natL l').length=c.P.length:=by simp [natL,hl'.len]
      have hq0:vlenS vq=some (.int .i64 (nsN c.P)):=by rw [h5.len,upM_len]
      simp [f1,f2,f5,f7,f8,rd5_4,hq0]
      refine cond_dec (fun ht => ?_) fun hf => ?_
      · have ht:a<nsN c.P:=by omega
        have q5:=(h5.mono x3).up ht
        by_cases hfr:alf (lsN c) a=a
        · have e5:ptL (lsN c) a = -1:=by rw [ptL,if_pos hfr]
          rw [e5] at q5
          simp (disch:=omega) [f1,f2,f5,f7,f8,rd5_4,q5.1,q5.2,wrap_i64]
          exact ⟨ht,x3,l',o3,hp.skip hfr⟩
        · have e5:ptL (lsN c) a=(alf (lsN c) a:Nat):=by rw [ptL,if_neg hfr]
          have hal:=hsm.pr.lt a ht
          have hpa:pcN c.P a<c.P.length:=pc_lt ht
          have hpb:pcN c.P (alf (lsN c) a)<c.P.length:=pc_lt hal
          have q3:=(h3.mono x3).up ht
          have q4:=(h3.mono x3).up hal
          rw [e5] at q5
          have hstep:=hp.step hok ht
          have g1:=o3.sl.addr (i:=((pcN c.P a:Nat):Int)) (by rw [hlen];omega)
          have g2:=o3.sl.addr (i:=((pcN c.P (alf (lsN c) a):Nat):Int)) (by rw [hlen];omega)
          simp only [Int.toNat_natCast] at g1 g2
          have d1:=fun L=>o3.sl.load (i:=pcN c.P a) (by rw [hlen];exact hpa) (L:=L)
          have d2:=fun L=>o3.sl.load (i:=pcN c.P (alf (lsN c) a)) (by rw [hlen];exact hpb) (L:=L)
          simp only [natL_get] at d1 d2
          have hx1:=hl'.lt hpa
          have hx2:=hl'.lt hpb
          generalize pcN c.P (alf (lsN c) a)=pb at *
          generalize pcN c.P a=pa at *
          have em:min ((l'.getD pa 0:Nat):Int) ((l'.getD pb 0:Nat):Int)=((min (l'.getD pa 0) (l'.getD pb 0):Nat):Int):=by omega
          have hmb:min (l'.getD pa 0) (l'.getD pb 0)<1000:=by omega
          have st1:=fun L=>o3.store (lim:=lim) (i:=pa) (x:=((min (l'.getD pa 0) (l'.getD pb 0):Nat):Int)) (L:=L) ⟨hlim,by rw [hlen];exact hpa⟩
          have o4:OwnV H.length (setH H3 v (ints ((natL l').set pa ((min (l'.getD pa 0) (l'.getD pb 0):Nat):Int)))) v ((natL l').set pa ((min (l'.getD pa 0) (l'.getD pb 0):Nat):Int)):=o3.put (by simp)
          have x4:=setH_X x3 o3 (Nat.le_refl _) (cs:=ints ((natL l').set pa ((min (l'.getD pa 0) (l'.getD pb 0):Nat):Int)))
          have st2:=fun L=>o4.store (lim:=lim) (i:=pb) (x:=((min (l'.getD pa 0) (l'.getD pb 0):Nat):Int)) (L:=L) ⟨hlim,by rw [List.length_set,hlen];exact hpb⟩
          have o5:=o4.put (l':=((natL l').set pa ((min (l'.getD pa 0) (l'.getD pb 0):Nat):Int)).set pb ((min (l'.getD pa 0) (l'.getD pb 0):Nat):Int)) (by simp)
          have x5:=setH_X x4 o4 (Nat.le_refl _) (cs:=ints (((natL l').set pa ((min (l'.getD pa 0) (l'.getD pb 0):Nat):Int)).set pb ((min (l'.getD pa 0) (l'.getD pb 0):Nat):Int)))
          have es:((natL l').set pa ((min (l'.getD pa 0) (l'.getD pb 0):Nat):Int)).set pb ((min (l'.getD pa 0) (l'.getD pb 0):Nat):Int)=natL (lowS l' pa pb):=by rw [natL_set,natL_set];rfl
          rw [es] at st2 o5 x5
          have ip1:=o3.isP (i:=pa) (by rw [hlen];exact hpa)
          have ip2:=o3.isP (i:=pb) (by rw [hlen];exact hpb)
          generalize hpp:alf (lsN c) a=p at *
          generalize hm:min (l'.getD pa 0) (l'.getD pb 0)=m at *
          generalize lowS l' pa pb=l2 at *
          generalize l'.getD pa 0=xa at *
          generalize l'.getD pb 0=xb at *
          have dn:((0:Int)≤(p:Int))=True:=eq_true (by omega)
          simp (disch:=omega) [f1,f2,f5,f7,f8,rd5_2,rd5_4,q5.1,q5.2,q3.1,q3.2,q4.1,q4.2,g1,g2,d1,d2,dn,em,st1,st2,ip1,ip2,isLp_ept,-vstore,wrap_i64]
          exact ⟨ht,x5,_,o5,hstep⟩
      · have:a=nsN c.P:=by omega
        subst this
        simp (disch:=omega) [f1,f2,f5,f7,f8,wrap_i64]
        exact ⟨hrt,x3,l',o3,hl',RndP.next hok hl hl' hp.le (fun i hi=>hp.sm i hi) hrd⟩
    · have:r=c.P.length:=by omega
      subst this
      have hend:=fun x hx=>hrd.end hl (x:=x) hx
      have hlen:(natL l).length=c.P.length:=by simp [natL,hl.len]
      simp [f1,f2,f5,f7]
      refine wLoop_up c.P.length (fun i fr L H'=>(fr 1=.int .i64 (c.P.length:Nat)∧fr 5=v∧fr 11=.int .i64 (ownL l i:Nat)∧fr 12=.int .i64 i)∧L=[[va,vb,vp,vx,vq]]∧H'=H2) ⟨by simp [f1,f5,ownL],rfl,rfl⟩ ?_
      clear f1 f2 f5 f7 fr
      rintro i hi fr L H3 ⟨⟨f1,f5,f11,f12⟩,rfl,rfl⟩
      simp [f1,f5,f11,f12]
      refine cond_dec (fun ht => ?_) fun hf => ?_
      · have ht:i<c.P.length:=by omega
        have g1:=o2.sl.addr (i:=(i:Int)) (by rw [hlen];omega)
        simp only [Int.toNat_natCast] at g1
        have d1:=fun L=>o2.sl.load (i:=i) (by rw [hlen];exact ht) (L:=L)
        simp only [natL_get] at d1
        have hob:ownL l i≤i:=by unfold ownL;exact Nat.le_trans (List.length_filter_le _ _) (by simp)
        rw [ownL_next]
        by_cases e:l.getD i 0=i
        · rw [e] at d1
          rw [if_pos e]
          simp (disch:=omega) [f1,f5,f11,f12,g1,d1,wrap_i64]
          exact ht
        · rw [if_neg e]
          generalize l.getD i 0=li at *
          have dn:(li=i)=False:=eq_false e
          have dn2:((li:Int)=(i:Int))=False:=eq_false (by omega)
          simp (disch:=omega) [f1,f5,f11,f12,g1,d1,dn,dn2,wrap_i64]
          exact ht
      · have:i=c.P.length:=by omega
        subst this
        simp [f1,f5,f11,f12]
        rw [own_parts hend]
        exact hK _ x2
end
end Go.Proofs.Ytclghkegfpcdpaa.Vm
namespace Go.Proofs.Ytclghkegfpcdpaa.Vm
open Go
set_option maxRecDepth 100000
set_option maxHeartbeats 1000000
set_option linter.unusedSimpArgs false
set_option linter.unusedVariables false
attribute [-simp] List.getD_eq_getElem?_getD Bool.exists_bool
structure LqS (n0:Nat)(H0:Hp)(M:List Bool)(u:V)(us:List V)(ls:List (List Int))(cv:V)(cur:List Int)(H:Hp):Prop where
  hx:HX H0 H
  hn:H0.length=n0
  b1:H[n0]? = some (.row (boolL M) true)
  ou:OwnT (n0+1) vC H u us
  len:us.length=ls.length
  oc:∀i,i<us.length→OwnV (n0+1) H (us.getD i dv) (ls.getD i [])
  ow:OwnV (n0+1) H cv cur
  ap:∀i,i<us.length→∀b o z y o' z' y',u=.sl b o z y→us.getD i dv=.sl b o' z' y'→False
  aw:∀b o z y o' z' y',u=.sl b o z y→cv=.sl b o' z' y'→False
  ac:∀i,i<us.length→∀b o z y o' z' y',cv=.sl b o z y→us.getD i dv=.sl b o' z' y'→False
section
variable {n0 lim:Nat}{H H0 H':Hp}{K:V→Hp→Prop}{lv u cv v:V}{M M':List Bool}{us:List V}{ls:List (List Int)}{cur:List Int}{c:Cp}{s:Nat}
theorem LqS.big (h:LqS n0 H0 M u us ls cv cur H):n0+1≤H.length:=(List.getElem?_eq_some_iff.1 h.b1).1
theorem LqS.move (h:LqS n0 H0 M u us ls cv cur H)(ho:OthM n0 H H')(hm:H'[n0]? = some (.row (boolL M') true)):LqS n0 H0 M' u us ls cv cur H' where
  hx:=HX.of (by have:=h.hx.len;have:=ho.1;omega) fun b hb=>by
    have:=h.hx.len
    have:=h.hn
    rw [ho.2 b (by omega) (by omega),h.hx.same hb]
  hn:=h.hn
  b1:=hm
  ou:=h.ou.keepB fun b o m z e=>by have:=h.ou.belowB _ _ _ _ e;exact ho.2 b (by omega) (by omega)
  len:=h.len
  oc:=fun i hi=>(h.oc i hi).keepB fun b o m z e=>by have:=(h.oc i hi).belowB _ _ _ _ e;exact ho.2 b (by omega) (by omega)
  ow:=h.ow.keepB fun b o m z e=>by have:=h.ow.belowB _ _ _ _ e;exact ho.2 b (by omega) (by omega)
  ap:=h.ap
  aw:=h.aw
  ac:=h.ac
theorem LqS.grow (h:LqS n0 H0 M u us ls cv cur H)(hx:HX H H'):LqS n0 H0 M u us ls cv cur H':=h.move ⟨hx.len,fun b hb _=>hx.same hb⟩ (hx.get h.b1)
theorem LqS.put (h:LqS n0 H0 M u us ls cv cur H){k:Nat}:LqS n0 H0 (M.set k true) u us ls cv cur (H.set n0 (.row (boolL (M.set k true)) true)) :=
  h.move ⟨by simp,fun b hb hne=>List.getElem?_set_ne (fun e=>hne e.symm)⟩ (List.getElem?_set_self h.big)
theorem LqS.pushC (h:LqS n0 H0 M u us ls cv cur H){x:Int}(hlim:lim≤n0)(hl:cur.length<1000000) :
    ∃cv' H',vappend lim 1 8 (H++[.row [.int .i64 x] true]) cv (.sl H.length 0 1 1)=some (cv',H')∧LqS n0 H0 M u us ls cv' (cur++[x]) H':=by
  have hb:=h.big
  obtain ⟨v',H',a1,a2,a3,a4,a5,a6⟩:=h.ow.appendF (lim:=lim) (x:=x) ⟨by omega,by omega⟩ hl
  have bo:∀b,b<n0+1→∀o z y,cv≠.sl b o z y:=fun b hb o z y e=>by have:=h.ow.belowB _ _ _ _ e;omega
  have hh:=h.hn
  refine ⟨v',H',a1,⟨a3 _ h.hx (by omega),h.hn,(a5 n0 (by omega) (bo _ (by omega))).trans h.b1,h.ou.keepB fun b o m z e=>a5 b (h.ou.belowB _ _ _ _ e).2 fun o' z' y' e'=>h.aw _ _ _ _ _ _ _ e e',h.len,
    fun i hi=>(h.oc i hi).keepB fun b o m z e=>a5 b ((h.oc i hi).belowB _ _ _ _ e).2 fun o' z' y' e'=>h.ac i hi _ _ _ _ _ _ _ e' e,a2,h.ap,fun b o z y o' z' y' e e' => ?_,fun i hi b o z y o' z' y' e e' => ?_⟩⟩
  · have:=(h.ou.belowB _ _ _ _ e).2
    have:=a6 _ _ _ _ e'
    omega
  · have:=((h.oc i hi).belowB _ _ _ _ e').2
    have:=a6 _ _ _ _ e
    omega
theorem LqS.pushU (h:LqS n0 H0 M u us ls cv cur H)(hlim:lim≤n0)(hl:us.length<1000000) :
    ∃u' H',vappend lim 1 24 (H++[.row [cv] true]) u (.sl H.length 0 1 1)=some (u',H')∧LqS n0 H0 M u' (us++[cv]) (ls++[cur]) .snil [] H':=by
  have hb:=h.big
  obtain ⟨v',H',a1,a2,a3,a4,a5,a6⟩:=h.ou.appendF2 (lim:=lim) (bytes:=24) (x:=cv) (cs:=[cv]) rfl ⟨by omega,by omega⟩ (by omega) hl
  have bo:∀b,b<n0+1→∀o z y,u≠.sl b o z y:=fun b hb o z y e=>by have:=h.ou.belowB _ _ _ _ e;omega
  have hh:=h.hn
  refine ⟨v',H',a1,⟨a3 _ h.hx (by omega),h.hn,(a5 n0 (by omega) (bo _ (by omega))).trans h.b1,a2,by simp [h.len],fun i hi => ?_,.nil,fun i hi b o z y o' z' y' e e' => ?_,fun b o z y o' z' y' _ e=>(by cases e),fun i hi b o z y o' z' y' e _=>(by cases e)⟩⟩
  · rw [List.length_append,List.length_singleton] at hi
    by_cases hlt:i<us.length
    · rw [getD_lt hlt,getD_lt (l:=ls) (by rw [←h.len];exact hlt)]
      exact (h.oc i hlt).keepB fun b o m z e=>a5 b ((h.oc i hlt).belowB _ _ _ _ e).2 fun o' z' y' e'=>h.ap i hlt _ _ _ _ _ _ _ e' e
    · have:i=us.length:=by omega
      subst this
      rw [getD_last rfl,getD_last h.len]
      exact h.ow.keepB fun b o m z e=>a5 b (h.ow.belowB _ _ _ _ e).2 fun o' z' y' e'=>h.aw _ _ _ _ _ _ _ e' e
  · rw [List.length_append,List.length_singleton] at hi
    have h6:=a6 _ _ _ _ e
    by_cases hlt:i<us.length
    · rw [getD_lt hlt] at e'
      have:=(h.oc i hlt).belowB _ _ _ _ e'
      omega
    · have:i=us.length:=by omega
      subst this
      rw [getD_last rfl] at e'
      have:=h.ow.belowB _ _ _ _ e'
      omega
theorem sg_def (hok:CapOk c)(hf:alf (lsN c) s=s):sgN (nsN c.P) (nxN c.P) (lsN c) s=itN (nuP c) (rnN (nsN c.P) (nxN c.P) (lsN c) (nuP c s)) (nuP c s):=by
  rw [sgN,if_pos hf];rfl
theorem r02_loops {vs:List V} (hn:NetV H vs c) (hok:CapOk c) (hlim:lim≤H.length) (hK:∀H' v,HX H H'→LlsV H.length H' v ((loopP c).map natL)→K v H'):VCall tbl lim 68 [.agg vs] H K:=by
  obtain ⟨va,vb,vp,vx,vq,rfl,h1,h2,h3,h4,h5⟩:=hn.ex
  have hns:=hok.ns
  have hnu:=hok.nu
  have hsm:=hok.sm_ok
  have hsg:=sg_pr hnu
  have hl0:vlenS va=some (.int .i64 (nsN c.P)):=by rw [h1.len,upM_len]
  have hmk:=fun L=>mk_bools (H:=H) (L:=L) (n:=nsN c.P) (by omega)
  refine VCall_fn tbl_at68 rfl ?_
  simp [vf68,rd5_0,hl0,hmk]
  refine wLoop_up (nsN c.P) (fun i fr L H'=>∃M u us,(fr 1=.lp 0 0∧fr 3=.sl H.length 0 (nsN c.P) 1∧fr 4=u∧fr 5=.int .i64 i)∧L=[[va,vb,vp,vx,vq]]∧M.length=nsN c.P∧LqS H.length H M u us ((frsA c i).map fun f=>natL (lpP c f)) .snil [] H'∧∀k:Nat,M.getD k false=true↔∃r,r∈frsA c i∧k∈lpP c r) ⟨List.replicate (nsN c.P) false,.snil,[],by simp,rfl,by simp,⟨⟨_,rfl⟩,rfl,by simp,.nil,by simp [frsA],fun i hi=>(by simp at hi),.nil,fun i hi=>(by simp at hi),fun b o z y o' z' y' e _=>(by cases e),fun i hi=>(by simp at hi)⟩,fun k => ?_⟩ ?_
  · have:(List.replicate (nsN c.P) false).getD k false=false:=by
      simp only [List.getD_eq_getElem?_getD,List.getElem?_replicate];split<;>rfl
    simp [this,frsA]
  rintro i hi fr L H1 ⟨M,u,us,⟨f1,f3,f4,f5⟩,rfl,hml,hS,hM⟩
  simp [f1,f3,f4,f5]
  refine cond_dec (fun ht => ?_) fun hfl => ?_
  · have ht : i < nsN c.P:=by omega
    have x1:HX H H1:=hS.hx
    have ad:=rw_addr (b:=H.length) ht
    have ld:=bl_ld hS.b1 (x:=i) (by omega)
    have q5:=(h5.mono x1).up ht
    cases hlo:M.getD i false with
    | true =>
      have hnf:¬FrsP c i:=by
        intro hfr
        exact (seen_iff hok ht hfr.2).1 ((hM i).1 hlo) hfr
      rw [hlo] at ld
      simp (disch:=omega) [f1,f3,f4,f5,ad,ld,wrap_i64]
      rw [frs_no hnf]
      exact ⟨ht,M,hml,⟨_,hS⟩,hM⟩
    | false =>
      rw [hlo] at ld
      by_cases hf:alf (lsN c) i=i
      case neg =>
        have hnf:¬FrsP c i:=fun h=>hf h.2
        have e5:ptL (lsN c) i=(alf (lsN c) i:Nat):=by rw [ptL,if_neg hf]
        rw [e5] at q5
        generalize alf (lsN c) i=p at *
        have dn:((0:Int)≤(p:Int))=True:=eq_true (by omega)
        simp (disch:=omega) [f1,f3,f4,f5,ad,ld,rd5_4,q5.1,q5.2,dn,wrap_i64]
        rw [frs_no hnf]
        exact ⟨ht,M,hml,⟨_,hS⟩,hM⟩
      have e5:ptL (lsN c) i = -1:=by rw [ptL,if_pos hf]
      rw [e5] at q5
      have hsn:=(hM i).trans (seen_iff hok ht hf)
      have hfr:FrsP c i:=by
        apply Classical.byContradiction
        intro hn
        have:=hsn.2 hn
        rw [hlo] at this;cases this
      simp [f1,f3,f4,f5,ad,ld,rd5_4,q5.1,q5.2]
      obtain ⟨p1,⟨p2,p3⟩,p4⟩:=per_spec hsg ht
      have hlp:lpP c i=lpN (nsN c.P) (sgN (nsN c.P) (nxN c.P) (lsN c)) i:=rfl
      have hlall:=lpL_all (c:=c) (f:=i)
      generalize hm:perN (nsN c.P) (sgN (nsN c.P) (nxN c.P) (lsN c)) i=m at *
      refine wLoop_up m (fun j fr L H'=>∃M' cv,(fr 1=.lp 0 0∧fr 3=.sl H.length 0 (nsN c.P) 1∧fr 4=u∧fr 5=.int .i64 i∧fr 6=cv∧fr 7=.int .i64 (itN (sgN (nsN c.P) (nxN c.P) (lsN c)) j i:Nat))∧L=[[va,vb,vp,vx,vq]]∧M'.length=nsN c.P∧LqS H.length H M' u us ((frsA c i).map fun f=>natL (lpP c f)) cv (lpL c i j) H'∧∀k:Nat,M'.getD k false=true↔M.getD k false=true∨∃t,t<j∧k=itN (sgN (nsN c.P) (nxN c.P) (lsN c)) t i) ⟨M,.snil,by simp [f1,f3,f4,f5,itN],rfl,hml,by simpa [lpL] using hS,fun k=>by simp⟩ ?_
      clear f1 f3 f4 f5 ad ld hlo q5 x1 fr
      rintro j hj fr L H2 ⟨M',cv,⟨f1,f3,f4,f5,f6,f7⟩,rfl,hml2,hS2,hM2⟩
      have hq:=hsg.it ht j
      have hqf:=sg_stays hnu hf (hsg.orb ht j)
      have ad:=rw_addr (b:=H.length) hq
      have ld:=bl_ld hS2.b1 (x:=itN (sgN (nsN c.P) (nxN c.P) (lsN c)) j i) (by omega)
      have hsee:=hM2 (itN (sgN (nsN c.P) (nxN c.P) (lsN c)) j i)
      by_cases hjm:j=m
      · have hseen:M'.getD (itN (sgN (nsN c.P) (nxN c.P) (lsN c)) j i) false=true:=by
          rw [hsee];right;exact ⟨0,by omega,by rw [hjm,p3];rfl⟩
        rw [hseen] at ld
        subst hjm
        obtain ⟨u2,H3,b1,hS3⟩:=hS2.pushU (lim:=lim) hlim (by
          have h1:=hS2.len
          rw [List.length_map] at h1
          have h2:(frsA c i).length≤i:=by
            unfold frsA;exact Nat.le_trans (List.length_filter_le _ _) (by simp)
          omega)
        simp (disch:=omega) [f1,f3,f4,f5,f6,f7,ad,ld,hS2.ow.sl.stor,hS2.ow.sl.one,splice,b1,wrap_i64]
        refine ⟨ht,M',hml2,⟨us++[cv],?_⟩,fun k => ?_⟩
        · rw [frs_yes hfr,List.map_append,List.map_cons,List.map_nil,←hlall]
          exact hS3
        · rw [hM2 k,hM k,frs_yes hfr]
          constructor
          · rintro (⟨r,h1,h2⟩ | ⟨t,h1,h2⟩)
            · exact ⟨r,List.mem_append_left _ h1,h2⟩
            · refine ⟨i,by simp,?_⟩
              rw [hlp,lp_mem hsg ht,h2]
              exact hsg.orb ht t
          · rintro ⟨r,h1,h2⟩
            rcases List.mem_append.1 h1 with h1 | h1
            · exact Or.inl ⟨r,h1,h2⟩
            · rw [List.mem_singleton] at h1
              subst h1
              right
              rw [hlp,lpN,hm] at h2
              obtain ⟨t,h3,h4⟩:=List.mem_map.1 h2
              exact ⟨t,List.mem_range.1 h3,h4.symm⟩
      · have hlt:j<m:=by omega
        have hseen:M'.getD (itN (sgN (nsN c.P) (nxN c.P) (lsN c)) j i) false=false:=by
          cases hb:M'.getD (itN (sgN (nsN c.P) (nxN c.P) (lsN c)) j i) false with
          | false=>rfl
          | true =>
            rcases hsee.1 hb with h | ⟨t,h1,h2⟩
            · obtain ⟨r,h1,h2⟩:=(hM _).1 h
              obtain ⟨r1,r2,r3⟩:=mem_frs.1 h1
              rw [lpP,lp_mem hsg (by omega)] at h2
              exact absurd (hsg.eqv.tr (hsg.orb ht j) (hsg.eqv.sy h2)) (hfr.1 r r1)
            · have:=hsg.back ht t (j-t) (by rw [show t+(j-t)=j by omega];exact h2)
              exact absurd ⟨by omega,this⟩ (p4 (j-t) (by omega))
        rw [hseen] at ld
        have hnx:itN (sgN (nsN c.P) (nxN c.P) (lsN c)) (j+1) i=sgN (nsN c.P) (nxN c.P) (lsN c) (itN (sgN (nsN c.P) (nxN c.P) (lsN c)) j i):=rfl
        generalize hqe:itN (sgN (nsN c.P) (nxN c.P) (lsN c)) j i=q at *
        have hsd:=sg_def hok hqf
        have st:=bl_st (lim:=lim) (y:=true) hS2.b1 hlim (x:=q) (by omega)
        have hS3:=hS2.put (k:=q)
        generalize hH3:H2.set H.length (.row (boolL (M'.set q true)) true)=H3 at *
        obtain ⟨cv2,H4,b1,hS4⟩:=hS3.pushC (lim:=lim) (x:=(q:Int)) hlim (by rw [lpL_len];omega)
        have hb4:=hS4.big
        have x4:HX H H4:=hS4.hx
        have q4:=(h4.mono x4).up hq
        have e4:nxN c.P q=nuP c q:=by
          show _=nxN c.P (alf (lsN c) q)
          rw [hqf]
        simp only [e4] at q4
        simp [f1,f3,f4,f5,f6,f7,ad,ld,st,b1,rd5_3,q4.1,q4.2,-vstore]
        have hc0:nuP c q<nsN c.P:=hnu.lt q hq
        obtain ⟨w1,w2,w3⟩:=rn_spec hnu hc0
        refine wLoop_up (rnN (nsN c.P) (nxN c.P) (lsN c) (nuP c q)) (fun t fr L H'=>(fr 1=.lp 0 0∧fr 3=.sl H.length 0 (nsN c.P) 1∧fr 4=u∧fr 5=.int .i64 i∧fr 6=cv2∧fr 7=.int .i64 (itN (nuP c) t (nuP c q):Nat))∧L=[[va,vb,vp,vx,vq]]∧H'=H4) ⟨by simp [f1,f3,f4,f5,itN],rfl,rfl⟩ ?_
        clear f1 f3 f4 f5 f6 f7 ad ld st q4 fr
        rintro t htr fr L H5 ⟨⟨f1,f3,f4,f5,f6,f7⟩,rfl,rfl⟩
        have hqt:=hnu.it hc0 t
        have q5:=(h5.mono x4).up hqt
        by_cases htl:t=rnN (nsN c.P) (nxN c.P) (lsN c) (nuP c q)
        · subst htl
          have hfe:alf (lsN c) (itN (nuP c) (rnN (nsN c.P) (nxN c.P) (lsN c) (nuP c q)) (nuP c q))=itN (nuP c) (rnN (nsN c.P) (nxN c.P) (lsN c) (nuP c q)) (nuP c q):=by
            have:=sg_free hnu hq hqf
            rw [hsd] at this;exact this
          have e5:ptL (lsN c) (itN (nuP c) (rnN (nsN c.P) (nxN c.P) (lsN c) (nuP c q)) (nuP c q)) = -1:=by rw [ptL,if_pos hfe]
          rw [e5] at q5
          rw [←hsd] at f7 q5
          generalize hsq:sgN (nsN c.P) (nxN c.P) (lsN c) q=sq at *
          simp [f1,f3,f4,f5,f6,f7,rd5_4,q5.1,q5.2]
          refine ⟨hlt,M'.set q true,cv2,⟨rfl,?_⟩,by simp [hml2],?_,fun k => ?_⟩
          · rw [hnx]
          · rw [lpL_snoc,hqe];exact hS4
          · rw [getD_setX (by omega)]
            by_cases e:k=q
            · subst e
              rw [if_pos rfl]
              simp only [true_iff]
              exact Or.inr ⟨j,by omega,hqe.symm⟩
            · rw [if_neg e,hM2 k]
              constructor
              · rintro (h | ⟨t,h1,h2⟩)
                · exact Or.inl h
                · exact Or.inr ⟨t,by omega,h2⟩
              · rintro (h | ⟨t,h1,h2⟩)
                · exact Or.inl h
                · rcases Nat.lt_or_ge t j with h3 | h3
                  · exact Or.inr ⟨t,h3,h2⟩
                  · have:t=j:=by omega
                    subst this
                    rw [hqe] at h2
                    exact absurd h2 e
        · have htl':t<rnN (nsN c.P) (nxN c.P) (lsN c) (nuP c q):=by omega
          have hne:alf (lsN c) (itN (nuP c) t (nuP c q))≠itN (nuP c) t (nuP c q):=(w3 t htl').1
          have hal:=hsm.pr.lt _ hqt
          have e5:ptL (lsN c) (itN (nuP c) t (nuP c q))=(alf (lsN c) (itN (nuP c) t (nuP c q)):Nat):=by rw [ptL,if_neg hne]
          rw [e5] at q5
          have q4:=(h4.mono x4).up hal
          have e4:nxN c.P (alf (lsN c) (itN (nuP c) t (nuP c q)))=itN (nuP c) (t+1) (nuP c q):=rfl
          simp only [e4] at q4
          generalize itN (nuP c) (t+1) (nuP c q)=z1 at *
          generalize itN (nuP c) t (nuP c q)=z0 at *
          generalize alf (lsN c) z0=p at *
          have dn:((0:Int)≤(p:Int))=True:=eq_true (by omega)
          simp [f1,f3,f4,f5,f6,f7,rd5_3,rd5_4,q5.1,q5.2,q4.1,q4.2,dn]
          exact htl'
  · have:i=nsN c.P:=by omega
    subst this
    simp [f4,hS.ou.lst.stor]
    refine hK _ _ hS.hx ⟨us,hS.ou.le (by omega),?_,fun i hi => ?_⟩
    · rw [hS.len,frs_all,List.length_map,List.length_map,loopP,loopsN,List.length_map]
    · have e:(loopP c).map natL=(frsA c (nsN c.P)).map fun f=>natL (lpP c f):=by
        rw [frs_all,loopP,loopsN,List.map_map];rfl
      rw [e] at hi ⊢
      exact (hS.oc i (by rw [hS.len];exact hi)).le (by omega)
end
end Go.Proofs.Ytclghkegfpcdpaa.Vm
namespace Go.Proofs.Ytclghkegfpcdpaa.Vm
open Go
set_option maxRecDepth 100000
set_option maxHeartbeats 1000000
set_option linter.unusedSimpArgs false
set_option linter.unusedVariables false
attribute [-simp] List.getD_eq_getElem?_getD Bool.exists_bool
section
variable {n lim:Nat}{H H0 H':Hp}{K:V→Hp→Prop}{v w:V}{ws vs:List V}{c:Cp}
theorem ShortC.vb (hsh:ShortC c):c.P.length≤1000000∧c.S.length≤1000000∧∀q,q<c.P.length→(c.P.getD q default).s.length≤100000 :=
  ⟨by have:=hsh.np;omega,by have:=hsh.ns;omega,fun q hq=>by have:=(hsh.pc q hq).1;omega⟩
theorem PtlV.le {m:Nat}{q:List Ptt}(h:PtlV m H v q)(hnm:n≤m):PtlV n H v q:=by
  obtain ⟨pts,o1,o2,o3⟩:=h.ex
  exact ⟨⟨pts,o1.le hnm,o2,fun i hi=>⟨(o3 i hi).1,(o3 i hi).2.1,(o3 i hi).2.2.1,(o3 i hi).2.2.2.le hnm⟩⟩⟩
theorem PtlV.mono {q:List Ptt}(hx:HX H H')(h:PtlV n H v q):PtlV n H' v q:=by
  obtain ⟨pts,o1,o2,o3⟩:=h.ex
  exact ⟨⟨pts,o1.mono hx,o2,fun i hi=>⟨(o3 i hi).1,(o3 i hi).2.1,(o3 i hi).2.2.1,(o3 i hi).2.2.2.mono hx⟩⟩⟩
theorem PtlV.nil:PtlV n H .snil []:=⟨⟨[],.nil,rfl,fun i hi=>by simp at hi⟩⟩
theorem LlsV.le {m:Nat}{q:List (List Int)}(h:LlsV m H v q)(hnm:n≤m):LlsV n H v q:=by
  obtain ⟨us,o1,o2,o3⟩:=h.ex
  exact ⟨⟨us,o1.le hnm,o2,fun i hi=>(o3 i hi).le hnm⟩⟩
theorem LlsV.mono {q:List (List Int)}(hx:HX H H')(h:LlsV n H v q):LlsV n H' v q:=by
  obtain ⟨us,o1,o2,o3⟩:=h.ex
  exact ⟨⟨us,o1.mono hx,o2,fun i hi=>(o3 i hi).mono hx⟩⟩
theorem LlsV.nil:LlsV n H .snil []:=⟨⟨[],.nil,rfl,fun i hi=>by simp at hi⟩⟩
theorem r02_euler (hc:CapV H ws c)(hok:CapOk c)(hlim:lim≤H.length)(hK:∀H',HX H H'→K (.int .i64 (eulP c)) H'):VCall tbl lim 66 [.agg ws] H K:=by
  obtain ⟨pv,sv,ps,rfl,hp,hs,z1,z2,z3,z4⟩:=hc.form
  refine VCall_fn tbl_at66 rfl ?_
  simp [vf66,z1,z2,z3,z4,rdA3]
  refine r02_open hc hok hlim fun H2 vs x2 hn => ?_
  replace x2:HX H H2:=x2
  have l2:=x2.len
  have hn0:=hn
  obtain ⟨va,vb,vp,vx,vq,rfl,h1,h2,h3,h4,h5⟩:=hn.ex
  simp [splice,rdA5]
  refine r02_points hn0 hok (Nat.le_refl _) fun H3 v x3 hv => ?_
  replace x3:HX H2 H3:=x3
  obtain ⟨pts,o1,o2,o3⟩:=hv.ex
  have:=hK H3 (x2.trans x3)
  have hv1:vlenS v=some (.int .i64 (ptsP c).length):=by rw [←o2];exact o1.lst.len
  have hv2:vlenS va=some (.int .i64 (nsN c.P)):=by rw [h1.len,upM_len]
  have b1:=pts_le (c:=c)
  have b2:=hok.ns
  have b3:=ls_bd hok
  have b4:=hok.np
  have e1:((ptsP c).length:Int)-((nsN c.P:Int)-(c.S.length:Int))+(c.P.length:Int)=eulP c:=rfl
  simp (disch:=omega) [hv1,hv2,rd0,rd1',rd5_0,hp.vlen,hs.len,wrap_i64,e1]
  exact this
theorem r02_handles (hc:CapV H ws c)(hok:CapOk c)(hlim:lim≤H.length)(hK:∀H',HX H H'→K (.int .i64 (handP c)) H'):VCall tbl lim 67 [.agg ws] H K:=by
  obtain ⟨pv,sv,ps,rfl,hp,hs,z1,z2,z3,z4⟩:=hc.form
  refine VCall_fn tbl_at67 rfl ?_
  simp [vf67,z1,z2,z3,z4,rdA3]
  refine r02_open hc hok hlim fun H2 vs x2 hn => ?_
  replace x2:HX H H2:=x2
  have l2:=x2.len
  have hn0:=hn
  obtain ⟨va,vb,vp,vx,vq,rfl,h1,h2,h3,h4,h5⟩:=hn.ex
  simp [splice,rdA5,rd0,hp.vlen]
  refine r02_parts hn0 hok (Nat.le_refl _) fun H3 x3 => ?_
  replace x3:HX H2 H3:=x3
  have l3:=x3.len
  have b1:=pts_le (c:=c)
  have b2:=hok.ns
  have b3:=ls_bd hok
  have b4:=hok.np
  have b5:=part_le (c:=c)
  have b6:=loop_le (c:=c)
  have e1:eulP c=((ptsP c).length:Int)-((nsN c.P:Int)-(c.S.length:Int))+(c.P.length:Int):=rfl
  have e2:(2*(partP c:Int)-eulP c-((loopP c).length:Int)).tdiv 2=handP c:=rfl
  simp (disch:=omega) [rdA3,z1,z2,z3,z4,wrap_i64]
  refine r02_euler (hc.mono (x2.trans x3)) hok (Nat.le_refl _) fun H4 x4 => ?_
  replace x4:HX H3 H4:=x4
  have l4:=x4.len
  simp (disch:=omega) [rdA5,wrap_i64]
  refine r02_loops (hn0.mono (x3.trans x4)) hok (Nat.le_refl _) fun H5 v x5 hv => ?_
  replace x5:HX H4 H5:=x5
  obtain ⟨us,o1,o2,o3⟩:=hv.ex
  have hvl:vlenS v=some (.int .i64 (loopP c).length):=by rw [o1.lst.len,o2,List.length_map]
  obtain ⟨g,g1,g2,_⟩:=handles_ex hok
  have hw:IntKind.wrap .i64 (handP c)=handP c:=wrap_i64 (by omega) (by omega)
  have:=hK H5 ((x2.trans x3).trans (x4.trans x5))
  simp (disch:=omega) [hvl,wrap_i64,e2,hw]
  exact this
end
end Go.Proofs.Ytclghkegfpcdpaa.Vm
namespace Go.Proofs.Ytclghkegfpcdpaa.Vm
open Go
set_option maxRecDepth 100000
set_option maxHeartbeats 1000000
set_option linter.unusedSimpArgs false
set_option linter.unusedVariables false
attribute [-simp] List.getD_eq_getElem?_getD Bool.exists_bool
section
variable {n m lim:Nat}{H H0 H':Hp}{K:V→Hp→Prop}{v w:V}{ws vs:List V}{c:Cp}
theorem loop_mem (hok:CapOk c){i:Nat}(ht:i<(loopP c).length):(∀x∈(loopP c).getD i [],x<nsN c.P)∧((loopP c).getD i []).length≤nsN c.P:=by
  have hmem:(loopP c).getD i []∈loopP c:=by
    rw [List.getD_eq_getElem?_getD,List.getElem?_eq_getElem ht];exact List.getElem_mem ht
  have hlt:∀x∈(loopP c).getD i [],x<nsN c.P:=by
    intro x hx
    have:x∈freesN (lsN c) (nsN c.P):=(loops_perm hok.nu).mem_iff.1 (List.mem_flatten.2 ⟨_,hmem,hx⟩)
    exact (mem_frees.1 this).1
  refine ⟨hlt,?_⟩
  have hp:=loops_perm hok.nu
  have hnd:((loopP c).getD i []).Nodup:=by
    have:((loopsN (nsN c.P) (nxN c.P) (lsN c)).flatten).Nodup:=hp.nodup_iff.2 frees_nodup
    rw [List.Nodup,List.pairwise_flatten] at this
    exact this.1 _ hmem
  exact few_below _ _ hnd hlt
theorem r02_hairline (hc:CapV H ws c) (hok:CapOk c) (hlim:lim≤H.length) (hK:∀H' v,HX H H'→OwnV H.length H' v (hairP c)→K v H'):VCall tbl lim 69 [.agg ws] H K:=by
  obtain ⟨pv,sv,ps,rfl,hp,hs,z1,z2,z3,z4⟩:=hc.form
  refine VCall_fn tbl_at69 rfl ?_
  simp [vf69,z1,z2,z3,z4,rdA3]
  refine r02_open hc hok hlim fun H2 vs x2 hn => ?_
  replace x2:HX H H2:=x2
  have l2:=x2.len
  have hn0:=hn
  obtain ⟨va,vb,vp,vx,vq,rfl,h1,h2,h3,h4,h5⟩:=hn.ex
  simp [splice,rdA5]
  refine r02_loops hn0 hok (by omega) fun H3 v x3 hv => ?_
  replace x3:HX H2 H3:=x3
  have l3:=x3.len
  obtain ⟨us,o1,o2,o3⟩:=hv.ex
  have hvl:vlenS v=some (.int .i64 (loopP c).length):=by rw [o1.lst.len,o2,List.length_map]
  have b1:=loop_le (c:=c)
  have b2:=hok.ns
  have hhl:(hairP c).length=(loopP c).length:=by simp [hairP]
  simp [hvl]
  refine wLoop_up (loopP c).length (fun i fr L H'=>∃ov,(fr 3=.lp 1 0∧fr 4=v∧fr 5=ov∧fr 6=.int .i64 i)∧L=[[pv,sv,.int .i64 c.e],[va,vb,vp,vx,vq]]∧HX H3 H'∧OwnV H3.length H' ov ((hairP c).take i)) ⟨.snil,by simp,rfl,.refl,by simpa using OwnV.nil⟩ ?_
  rintro i hi fr L H4 ⟨ov,⟨f3,f4,f5,f6⟩,rfl,x4,hov⟩
  have l4:=x4.len
  simp [f3,f4,f5,f6,hvl]
  refine cond_dec (fun ht => ?_) fun hfl => ?_
  · have ht:i<(loopP c).length:=by omega
    have ad:=(o1.lst.mono x4).at (i:=i) (by rw [o2,List.length_map];exact ht)
    have ld:∀L,vload none L H4 (ept 1 v i)=some (us.getD i dv):=fun L=>by
      have:=(o1.lst.mono x4).load1 (i:=i) (by rw [o2,List.length_map];exact ht) (L:=L)
      rw [this]
      show some (us.getD i default)=_
      rw [getD_any (by rw [o2,List.length_map];exact ht)]
    have ow:=(o3 i (by rw [List.length_map];exact ht)).mono x4
    have eg:((loopP c).map natL).getD i []=natL ((loopP c).getD i []):=by
      simp [List.getD_eq_getElem?_getD,ht]
    rw [eg] at ow
    obtain ⟨hlt,hll⟩:=loop_mem hok ht
    generalize hlo:(loopP c).getD i []=lo at *
    generalize huv:us.getD i dv=uv at *
    have hol:vlenS uv=some (.int .i64 lo.length):=by rw [ow.sl.len,natL_len]
    simp [f3,f4,f5,f6]
    refine wLoop_up lo.length (fun j fr L H'=>(fr 3=.lp 1 0∧fr 4=v∧fr 5=ov∧fr 6=.int .i64 i∧fr 7=.int .i64 (lnUp c lo j)∧fr 8=.int .i64 j)∧L=[[pv,sv,.int .i64 c.e],[va,vb,vp,vx,vq]]∧H'=H4∧0≤(lnUp c lo j)∧(lnUp c lo j)≤200*j) ⟨by simp [f3,f4,f5,f6,lnUp],rfl,rfl,by simp [lnUp],by simp [lnUp]⟩ ?_
    clear f3 f4 f5 f6 fr
    rintro j hj fr L H5 ⟨⟨f3,f4,f5,f6,f7,f8⟩,rfl,rfl,g1,g2⟩
    simp [f3,f4,f5,f6,f7,f8,ad,ld,hol]
    refine cond_dec (fun hjt => ?_) fun hjf => ?_
    · have hjt:j<lo.length:=by omega
      have hx:=hlt _ (getD_mem (l:=lo) hjt)
      have a1:=ow.sl.addr (i:=(j:Int)) (by rw [natL_len];omega)
      simp only [Int.toNat_natCast] at a1
      have b1:∀L,vload none L H5 (ept 1 uv j)=some (.int .i64 (lo.getD j default:Nat)):=fun L=>by
        rw [ow.sl.load (by rw [natL_len];exact hjt)]
        simp [natL,List.getD_eq_getElem?_getD,hjt]
      have a2:=(h1.mono (x3.trans x4)).up hx
      have hln:=ln_bd hok hx
      have hsn:=lnUp_snoc (c:=c) hjt
      generalize lo.getD j default=q at *
      simp (disch:=omega) [f3,f4,f5,f6,f7,f8,ad,ld,a1,b1,a2.1,a2.2,rd5_0,wrap_i64]
      exact ⟨hjt,by rw [hsn],by omega,by omega⟩
    · have:j=lo.length:=by omega
      subst this
      rw [lnUp_all] at f7 g1 g2
      obtain ⟨ov2,H6,c1,c2,c3,c4,c5,c6⟩:=hov.appendF (lim:=lim) (x:=(lo.map (lnN c.P)).sum) ⟨by omega,l4⟩ (by rw [List.length_take];omega)
      simp (disch:=omega) [f3,f4,f5,f6,f7,f8,c1,splice,wrap_i64]
      refine ⟨ht,c3 _ x4 (Nat.le_refl _),?_⟩
      rw [take_snoc (by omega)]
      have:(hairP c).getD i 0=(lo.map (lnN c.P)).sum:=by
        rw [←hlo]
        simp [hairP,List.getD_eq_getElem?_getD,ht]
      rw [this];exact c2
  · have:i=(loopP c).length:=by omega
    subst this
    rw [←hhl,List.take_length] at hov
    have:=hK H4 ov ((x2.trans x3).trans x4) (hov.le (by omega))
    simp [f5,hov.sl.stor]
    exact this
end
end Go.Proofs.Ytclghkegfpcdpaa.Vm
namespace Go.Proofs.Ytclghkegfpcdpaa.Vm
open Go
set_option maxRecDepth 100000
set_option maxHeartbeats 1000000
set_option linter.unusedSimpArgs false
set_option linter.unusedVariables false
attribute [-simp] List.getD_eq_getElem?_getD Bool.exists_bool
def hdOk (l:List Int)(i:Nat):Bool:=decide (1≤l.getD i 0∧l.getD i 0≤200)
def ruleB (r f e b k n:Int):Prop:=r≤f∨r≤e∨r≤b∨r≤k∨k≤n∨b+k<r∨2*f<r
instance {r f e b k n:Int}:Decidable (ruleB r f e b k n):=by unfold ruleB;infer_instance
def headE (r f e b k n:Int):Int:=if (List.range 6).all (hdOk [r,f,e,b,k,n])=true then (if ruleB r f e b k n then 14 else 0) else 1
abbrev headV (r f e b k n:Int):List V:=[.int .i64 r,.int .i64 f,.int .i64 e,.int .i64 b,.int .i64 k,.int .i64 n]
section
variable {m lim:Nat}{H H0 H':Hp}{K:V→Hp→Prop}{v w:V}{ws vs:List V}{c:Cp}{r f e b k n:Int}{s:List Int}
theorem hd_bad {i:Nat}(hi:i<6)(h:hdOk [r,f,e,b,k,n] i=false):headE r f e b k n=1:=by
  unfold headE
  rw [if_neg]
  intro g
  have:=List.all_eq_true.1 g i (List.mem_range.2 hi)
  rw [h] at this;cases this
theorem hd_all (h:∀i,i<6→hdOk [r,f,e,b,k,n] i=true):(1≤r∧r≤200)∧(1≤f∧f≤200)∧(1≤e∧e≤200)∧(1≤b∧b≤200)∧(1≤k∧k≤200)∧(1≤n∧n≤200):=by
  have g:=fun i hi=>of_decide_eq_true (h i hi)
  exact ⟨g 0 (by omega),g 1 (by omega),g 2 (by omega),g 3 (by omega),g 4 (by omega),g 5 (by omega)⟩
theorem hd_rule (h:∀i,i<6→hdOk [r,f,e,b,k,n] i=true):headE r f e b k n=if ruleB r f e b k n then 14 else 0:=by
  unfold headE
  rw [if_pos (List.all_eq_true.2 fun i hi=>h i (List.mem_range.1 hi))]
theorem six {i:Nat}{p:Nat→Prop}(hi:i<6)(h:p 0∧p 1∧p 2∧p 3∧p 4∧p 5):p i:=by
  have:i=0∨i=1∨i=2∨i=3∨i=4∨i=5:=by omega
  rcases this with rfl | rfl | rfl | rfl | rfl | rfl
  · exact h.1
  · exact h.2.1
  · exact h.2.2.1
  · exact h.2.2.2.1
  · exact h.2.2.2.2.1
  · exact h.2.2.2.2.2
theorem rdf {i:Nat}(hi:i<6):rd none (headV r f e b k n) i=some (.int .i64 ([r,f,e,b,k,n].getD i 0)):=six (p:=fun i=>rd none (headV r f e b k n) i=some (.int .i64 ([r,f,e,b,k,n].getD i 0))) hi ⟨rfl,rfl,rfl,rfl,rfl,rfl⟩
theorem rd6:rd (some 6) (headV r f e b k n) 0=some (.agg (headV r f e b k n)):=Eq.trans rfl rfl
theorem rd6_0:rd none (headV r f e b k n) 0=some (.int .i64 r):=Eq.trans rfl rfl
theorem rd6_1:rd none (headV r f e b k n) 1=some (.int .i64 f):=Eq.trans rfl rfl
theorem rd6_2:rd none (headV r f e b k n) 2=some (.int .i64 e):=Eq.trans rfl rfl
theorem rd6_3:rd none (headV r f e b k n) 3=some (.int .i64 b):=Eq.trans rfl rfl
theorem rd6_4:rd none (headV r f e b k n) 4=some (.int .i64 k):=Eq.trans rfl rfl
theorem rd6_5:rd none (headV r f e b k n) 5=some (.int .i64 n):=Eq.trans rfl rfl
theorem surf_ValidateHead (hK:K (.int .i64 (headE r f e b k n)) H):VCall tbl lim 46 [.agg (headV r f e b k n)] H K:=by
  refine VCall_fn tbl_at46 rfl ?_
  have hz:ints (zs 6)=[.int .i64 0,.int .i64 0,.int .i64 0,.int .i64 0,.int .i64 0,.int .i64 0]:=Eq.trans rfl rfl
  have hix:∀i:Nat,i<6→vidxA 6 1 none (.agg (headV r f e b k n)) (.int .i64 (i:Int))=some (.int .i64 ([r,f,e,b,k,n].getD i 0)):=fun i hi=>six (p:=fun i=>vidxA 6 1 none (.agg (headV r f e b k n)) (.int .i64 (i:Int))=some (.int .i64 ([r,f,e,b,k,n].getD i 0))) hi ⟨rfl,rfl,rfl,rfl,rfl,rfl⟩
  simp [vf46,rd6_0,rd6_1,rd6_2,rd6_3,rd6_4,rd6_5,hz,splice]
  refine wLoop_up 6 (fun i fr L H'=>(fr 1=.lp 0 0∧fr 17=.agg (headV r f e b k n)∧fr 18=.int .i64 i)∧L=[headV r f e b k n]∧H'=H∧∀j,j<i→hdOk [r,f,e,b,k,n] j=true) ⟨by simp,rfl,rfl,fun j h=>absurd h (by omega)⟩ ?_
  rintro i hi fr L H1 ⟨⟨f1,f17,f18⟩,rfl,rfl,hall⟩
  simp [f1,f17,f18]
  refine cond_dec (fun ht => ?_) fun hfl => ?_
  · have ht:i<6:=by omega
    have hx:=hix i ht
    simp [f1,f17,f18,hx]
    have ek:hdOk [r,f,e,b,k,n] i=decide (1≤[r,f,e,b,k,n].getD i 0∧[r,f,e,b,k,n].getD i 0≤200):=rfl
    have hbad:=hd_bad (r:=r) (f:=f) (e:=e) (b:=b) (k:=k) (n:=n) ht
    generalize [r,f,e,b,k,n].getD i 0=x at *
    refine surf_isSide ?_
    rw [←ek]
    cases hb:hdOk [r,f,e,b,k,n] i with
    | false =>
      rw [hbad hb] at hK
      simp
      exact hK
    | true =>
      simp (disch:=omega) [f1,f17,f18,wrap_i64]
      exact ⟨ht,fun j hj=>by
        by_cases e':j=i
        · rw [e'];exact hb
        · exact hall j (by omega)⟩
  · have:i=6:=by omega
    subst this
    rw [hd_rule hall] at hK
    obtain ⟨g1,g2,g3,g4,g5,g6⟩:=hd_all hall
    simp (disch:=omega) [f1,rd6_0,rd6_1,rd6_2,rd6_3,rd6_4,rd6_5,wrap_i64]
    refine cond_bool (fun h1 => ?_) fun h1 => ?_
    · have hr:ruleB r f e b k n:=by
        simp only [Bool.or_eq_true,decide_eq_true_eq] at h1
        unfold ruleB;omega
      rw [if_pos hr] at hK
      simp
      exact hK
    · simp only [Bool.or_eq_false_iff,decide_eq_false_iff_not] at h1
      simp (disch:=omega) [f1,rd6_0,rd6_1,rd6_2,rd6_3,rd6_4,rd6_5,wrap_i64]
      refine cond_bool (fun h2 => ?_) fun h2 => ?_
      · have hr:ruleB r f e b k n:=by
          simp only [Bool.or_eq_true,decide_eq_true_eq] at h2
          unfold ruleB;omega
        rw [if_pos hr] at hK
        simp
        exact hK
      · simp only [Bool.or_eq_false_iff,decide_eq_false_iff_not] at h2
        have hr:¬ruleB r f e b k n:=by unfold ruleB;omega
        rw [if_neg hr] at hK
        simp
        exact hK
theorem r02_ValidateHead (hK:K (.int .i64 (headE r f e b k n)) H):VCall tbl lim 47 [.agg (headV r f e b k n)] H K:=by
  refine VCall_fn tbl_at47 rfl ?_
  have hz:ints (zs 6)=[.int .i64 0,.int .i64 0,.int .i64 0,.int .i64 0,.int .i64 0,.int .i64 0]:=Eq.trans rfl rfl
  simp [vf47,rd6_0,rd6_1,rd6_2,rd6_3,rd6_4,rd6_5,hz,splice]
  refine wLoop_up 6 (fun i fr L H'=>(fr 1=.lp 0 0∧fr 3=.lp 1 0∧fr 4=.int .i64 i)∧L=[headV r f e b k n,headV r f e b k n]∧H'=H∧∀j,j<i→hdOk [r,f,e,b,k,n] j=true) ⟨by simp,rfl,rfl,fun j h=>absurd h (by omega)⟩ ?_
  rintro i hi fr L H1 ⟨⟨f1,f3,f4⟩,rfl,rfl,hall⟩
  simp [f1,f3,f4]
  refine cond_dec (fun ht => ?_) fun hfl => ?_
  · have ht:i<6:=by omega
    have hx:=rdf (r:=r) (f:=f) (e:=e) (b:=b) (k:=k) (n:=n) ht
    have ek:hdOk [r,f,e,b,k,n] i=decide (1≤[r,f,e,b,k,n].getD i 0∧[r,f,e,b,k,n].getD i 0≤200):=rfl
    have hbad:=hd_bad (r:=r) (f:=f) (e:=e) (b:=b) (k:=k) (n:=n) ht
    generalize [r,f,e,b,k,n].getD i 0=x at *
    simp (disch:=omega) [f1,f3,f4,hx]
    refine r02_within ?_
    rw [←ek]
    cases hb:hdOk [r,f,e,b,k,n] i with
    | false =>
      rw [hbad hb] at hK
      simp
      exact hK
    | true =>
      simp (disch:=omega) [f1,f3,f4,wrap_i64]
      exact ⟨ht,fun j hj=>by
        by_cases e':j=i
        · rw [e'];exact hb
        · exact hall j (by omega)⟩
  · have:i=6:=by omega
    subst this
    rw [hd_rule hall] at hK
    obtain ⟨g1,g2,g3,g4,g5,g6⟩:=hd_all hall
    have step:∀{x:Int},(ruleB r f e b k n→x=14)→(¬ruleB r f e b k n→x=0)→K (.int .i64 x) H1:=fun {x} h1 h2=>by
      by_cases hr:ruleB r f e b k n
      · rw [if_pos hr] at hK;rw [h1 hr];exact hK
      · rw [if_neg hr] at hK;rw [h2 hr];exact hK
    have w1:IntKind.wrap .i64 (b+k)=b+k:=wrap_i64 (by omega) (by omega)
    have w2:IntKind.wrap .i64 (2*f)=2*f:=wrap_i64 (by omega) (by omega)
    by_cases c1:r≤f
    · simp [f1,rd6_0,rd6_1,rd6_2,rd6_3,rd6_4,rd6_5,c1]
      exact step (fun _=>rfl) fun h=>absurd (Or.inl c1) h
    by_cases c2:r≤e
    · simp [f1,rd6_0,rd6_1,rd6_2,rd6_3,rd6_4,rd6_5,c1,c2]
      exact step (fun _=>rfl) fun h=>absurd (by unfold ruleB;omega) h
    by_cases c3:r≤b
    · simp [f1,rd6_0,rd6_1,rd6_2,rd6_3,rd6_4,rd6_5,c1,c2,c3]
      exact step (fun _=>rfl) fun h=>absurd (by unfold ruleB;omega) h
    by_cases c4:r≤k
    · simp [f1,rd6_0,rd6_1,rd6_2,rd6_3,rd6_4,rd6_5,c1,c2,c3,c4]
      exact step (fun _=>rfl) fun h=>absurd (by unfold ruleB;omega) h
    by_cases c5:k≤n
    · simp [f1,rd6_0,rd6_1,rd6_2,rd6_3,rd6_4,rd6_5,c1,c2,c3,c4,c5]
      exact step (fun _=>rfl) fun h=>absurd (by unfold ruleB;omega) h
    by_cases c6:b+k<r
    · simp [f1,rd6_0,rd6_1,rd6_2,rd6_3,rd6_4,rd6_5,c1,c2,c3,c4,c5,w1,c6]
      exact step (fun _=>rfl) fun h=>absurd (by unfold ruleB;omega) h
    by_cases c7:2*f<r
    · simp [f1,rd6_0,rd6_1,rd6_2,rd6_3,rd6_4,rd6_5,c1,c2,c3,c4,c5,w1,c6,w2,c7]
      exact step (fun _=>rfl) fun h=>absurd (by unfold ruleB;omega) h
    · simp [f1,rd6_0,rd6_1,rd6_2,rd6_3,rd6_4,rd6_5,c1,c2,c3,c4,c5,w1,c6,w2,c7]
      exact step (fun h=>absurd h (by unfold ruleB;omega)) fun _=>rfl
def okS (s:List Int)(i:Nat):Bool:=decide (1≤s.getD i 0∧s.getD i 0≤200)&&(decide (i=0)||decide (s.getD (i-1) 0<s.getD i 0))
def bstS (s:List Int)(r:Int):Nat→Int
  | 0=>0
  | i+1=>if s.getD i 0≤r then s.getD i 0 else bstS s r i
def blkP (s:List Int)(r h:Int):Int×Int×Int :=
  if h≠0 then (0,0,h) else if (List.range s.length).all (okS s)=true then (if bstS s r s.length=0 then (0,0,5) else (bstS s r s.length,r-bstS s r s.length,0)) else (0,0,1)
def befS (s:List Int)(i:Nat):Int:=if i=0 then 0 else s.getD (i-1) 0
theorem head_zero (h:headE r f e b k n=0):1≤r∧r≤200:=by
  by_cases g:(List.range 6).all (hdOk [r,f,e,b,k,n])=true
  · exact (hd_all fun i hi=>List.all_eq_true.1 g i (List.mem_range.2 hi)).1
  · unfold headE at h
    rw [if_neg g] at h;cases h
end
end Go.Proofs.Ytclghkegfpcdpaa.Vm
namespace Go.Proofs.Ytclghkegfpcdpaa.Vm
open Go
set_option maxRecDepth 100000
set_option maxHeartbeats 1000000
set_option linter.unusedSimpArgs false
set_option linter.unusedVariables false
attribute [-simp] List.getD_eq_getElem?_getD Bool.exists_bool
def mxU (l:List Int):Nat→Int
  | 0=>0
  | i+1=>max (mxU l i) (l.getD i 0)
noncomputable def wearB (c:Cp)(r:Int):Bool:=decide (partP c=1)&&(decide (handP c=0)&&(decide (0<(loopP c).length)&&decide (r≤mxU (hairP c) (hairP c).length∧mxU (hairP c) (hairP c).length≤r+5)))
noncomputable def wearP (c:Cp)(r h:Int):Bool×Int:=if capE c≠0 then (false,capE c) else if h≠0 then (false,h) else (wearB c r,0)
section
variable {m lim:Nat}{H H0 H':Hp}{K:V→Hp→Prop}{v w:V}{ws vs:List V}{c:Cp}{r f e b k n:Int}{s:List Int}
theorem hair_bd (hok:CapOk c){i:Nat}(hi:i<(hairP c).length):0≤(hairP c).getD i 0∧(hairP c).getD i 0≤9600:=by
  have hi':i<(loopP c).length:=by simpa [hairP] using hi
  have e1:(hairP c).getD i 0=(((loopP c).getD i []).map (lnN c.P)).sum:=by simp [hairP,List.getD_eq_getElem?_getD,hi']
  obtain ⟨h1,h2⟩:=loop_mem hok hi'
  have b2:=hok.ns
  rw [e1]
  have key:∀l:List Nat,(∀x∈l,x<nsN c.P)→0≤(l.map (lnN c.P)).sum∧(l.map (lnN c.P)).sum≤200*l.length:=by
    intro l
    induction l with
    | nil=>intro _;simp
    | cons x l ih =>
      intro hl
      have:=ln_bd hok (hl x (by simp))
      have:=ih fun y hy=>hl y (by simp [hy])
      simp only [List.map_cons,List.sum_cons,List.length_cons]
      omega
  have:=key _ h1
  omega
theorem mx_bd {l:List Int}(h:∀i,i<l.length→0≤l.getD i 0∧l.getD i 0≤9600):∀{i:Nat},i≤l.length→0≤mxU l i∧mxU l i≤9600
  | 0,_=>by simp [mxU]
  | i+1,hi=>by
    have:=mx_bd h (i:=i) (by omega)
    have:=h i (by omega)
    simp only [mxU];omega
theorem sl_Max (hs:SlV H v s)(h0:0<s.length)(hl:s.length≤1000)(hp:0≤s.getD 0 0)(hK:K (.int .i64 (mxU s s.length)) H):VCall tbl lim 82 [v] H K:=by
  refine VCall_fn tbl_at82 rfl ?_
  have d:((s.length:Int)<1)=False:=eq_false (by omega)
  have d2:(s.length<1)=False:=eq_false (by omega)
  have d3:(s.length=0)=False:=eq_false (by omega)
  have d4:(s=[])=False:=eq_false (by intro e;rw [e] at h0;simp at h0)
  have a0:=hs.addr (i:=0) (by omega)
  have l0:=fun L=>hs.load (i:=0) h0 (L:=L)
  have a0':viaddrS 1 v (.int .i64 0)=some (ept 1 v 0):=a0
  simp [vf82,hs.len,d,d2,d3,d4,a0',l0]
  refine wLoop_up (s.length-1) (fun i fr L H'=>(fr 0=v∧fr 3=.int .i64 (mxU s (i+1))∧fr 4=.int .i64 ((i+1:Nat):Int))∧H'=H) ⟨by simp [mxU];omega,rfl⟩ ?_
  rintro i hi fr L H1 ⟨⟨f0,f3,f4⟩,rfl⟩
  have q1:((i:Int)+1)=((i+1:Nat):Int):=by omega
  generalize hj:i+1=j at *
  simp [f0,f3,f4,hs.len]
  refine cond_dec (fun ht => ?_) fun hf => ?_
  · have ht:j<s.length:=by omega
    have a1:=hs.addr (i:=(j:Int)) (by omega)
    simp only [Int.toNat_natCast] at a1
    have l1:=fun L=>hs.load (i:=j) ht (L:=L)
    have em:mxU s (j+1)=max (mxU s j) (s.getD j 0):=rfl
    simp (disch:=omega) [f0,f3,f4,a1,l1,wrap_i64,em]
    omega
  · have:j=s.length:=by omega
    subst this
    simp [f0,f3,f4]
    exact hK
theorem surf_Wears (hc:CapV H ws c)(hsh:ShortC c)(hlim:lim≤H.length)(hK:∀H',HX H H'→K (.tup [.bool (wearP c r (headE r f e b k n)).1,.int .i64 (wearP c r (headE r f e b k n)).2]) H'):VCall tbl lim 48 [.agg ws,.agg (headV r f e b k n)] H K:=by
  have s2:=hsh.ns
  obtain ⟨pv,sv,ps,rfl,hp,hs,z1,z2,z3,z4⟩:=hc.form
  refine VCall_fn tbl_at48 rfl ?_
  simp [vf48,z1,z2,z3,z4,rdA3]
  refine surf_Parts hc (by omega) hlim fun H1 x1 => ?_
  replace x1:HX H H1:=x1
  have l1:=x1.len
  by_cases he:capE c=0
  case neg =>
    have:=hK H1 x1
    have e0:wearP c r (headE r f e b k n)=(false,capE c):=if_pos he
    rw [e0] at this
    simp [he]
    exact this
  have hok:=capE_ok.1 he
  simp [he,rd6]
  refine surf_ValidateHead ?_
  have hr0:=head_zero (r:=r) (f:=f) (e:=e) (b:=b) (k:=k) (n:=n)
  generalize headE r f e b k n=hh at *
  by_cases h0:hh=0
  case neg =>
    have:=hK H1 x1
    have e0:wearP c r hh=(false,hh):=by unfold wearP;rw [if_neg (fun g=>g he),if_pos h0]
    rw [e0] at this
    simp [h0]
    exact this
  subst h0
  have hr:=hr0 rfl
  have e0:wearP c r 0=(wearB c r,0):=by unfold wearP;rw [if_neg (fun g=>g he),if_neg (fun g=>g rfl)]
  rw [e0] at hK
  simp [rdA3,z1,z2,z3,z4]
  refine surf_Handles (hc.mono x1) (by omega) (by omega) fun H2 x2 => ?_
  replace x2:HX H1 H2:=x2
  have l2:=x2.len
  simp [he,rdA3,z1,z2,z3,z4]
  refine surf_Hairline (hc.mono (x1.trans x2)) (by omega) (by omega) fun H3 v x3 v1 v2 => ?_
  replace x3:HX H2 H3:=x3
  have l3:=x3.len
  have ov:=v1 he
  have hhl:(hairP c).length=(loopP c).length:=by simp [hairP]
  have hres:=hK H3 ((x1.trans x2).trans x3)
  unfold wearB at hres
  have hb:=mx_bd (fun i hi=>hair_bd hok hi) (Nat.le_refl (hairP c).length)
  have b3:=loop_le (c:=c)
  have b4:=hok.ns
  have hmx:=fun K' (g:0<(hairP c).length) (hK':K' (.int .i64 (mxU (hairP c) (hairP c).length)) H3)=>sl_Max (lim:=lim) (K:=K') ov.sl g (by omega) (hair_bd hok g).1 hK'
  have hvl:vlenS v=some (.int .i64 ((hairP c).length:Nat)):=ov.sl.len
  rw [hhl] at hvl
  clear hK e0
  by_cases c1:partP c=1
  case neg =>
    have d1:((partP c:Int)=1)=False:=eq_false (by omega)
    have d2:decide (partP c=1)=false:=decide_eq_false c1
    rw [d2] at hres
    simp [d1,c1]
    exact hres
  have d1:((partP c:Int)=1)=True:=eq_true (by omega)
  by_cases c2:handP c=0
  case neg =>
    have d2:decide (handP c=0)=false:=decide_eq_false c2
    rw [d2,Bool.false_and,Bool.and_false] at hres
    simp [c1,c2]
    exact hres
  by_cases c3:0<(loopP c).length
  case neg =>
    have c4:(loopP c).length=0:=by omega
    rw [decide_eq_false c3,Bool.false_and,Bool.and_false,Bool.and_false] at hres
    rw [c4] at hvl
    simp [c1,c2,hvl]
    exact hres
  have c4:((loopP c).length=0)=False:=eq_false (by omega)
  have c5:(((loopP c).length:Int)=0)=False:=eq_false (by omega)
  have c6:(loopP c=[])=False:=eq_false (by intro g;rw [g] at c3;simp at c3)
  simp [c1,c2,hvl,c4,c5,c6,ov.sl.stor]
  refine hmx _ (by omega) ?_
  rw [decide_eq_true c1,decide_eq_true c2,decide_eq_true c3,Bool.true_and,Bool.true_and,Bool.true_and] at hres
  generalize mxU (hairP c) (hairP c).length=mx at *
  by_cases c7:r≤mx
  · by_cases c8:mx≤r+5
    · rw [decide_eq_true ⟨c7,c8⟩] at hres
      simp (disch:=omega) [rd6_0,wrap_i64,c7,c8]
      exact hres
    · rw [decide_eq_false (fun g=>c8 g.2)] at hres
      simp (disch:=omega) [rd6_0,wrap_i64,c7,c8]
      exact hres
  · rw [decide_eq_false (fun g=>c7 g.1)] at hres
    simp (disch:=omega) [rd6_0,wrap_i64,c7]
    exact hres
theorem r02_Wears (hc:CapV H ws c) (hsh:ShortC c) (hlim:lim≤H.length) (hK:∀H',HX H H'→K (.tup [.bool (wearP c r (headE r f e b k n)).1,.int .i64 (wearP c r (headE r f e b k n)).2]) H'):VCall tbl lim 49 [.agg ws,.agg (headV r f e b k n)] H K:=by
  obtain ⟨pv,sv,ps,rfl,hp,hs,z1,z2,z3,z4⟩:=hc.form
  refine VCall_fn tbl_at49 rfl ?_
  simp [vf49,z1,z2,z3,z4,rdA3]
  refine r02_Validate hc hsh.vb ?_
  by_cases he:capE c=0
  case neg =>
    have:=hK H .refl
    have e0:wearP c r (headE r f e b k n)=(false,capE c):=if_pos he
    rw [e0] at this
    simp [he]
    exact this
  have hok:=capE_ok.1 he
  simp [he,rd6]
  refine r02_ValidateHead ?_
  have hr0:=head_zero (r:=r) (f:=f) (e:=e) (b:=b) (k:=k) (n:=n)
  generalize headE r f e b k n=hh at *
  by_cases h0:hh=0
  case neg =>
    have:=hK H .refl
    have e0:wearP c r hh=(false,hh):=by unfold wearP;rw [if_neg (fun g=>g he),if_pos h0]
    rw [e0] at this
    simp [h0]
    exact this
  subst h0
  have hr:=hr0 rfl
  have e0:wearP c r 0=(wearB c r,0):=by unfold wearP;rw [if_neg (fun g=>g he),if_neg (fun g=>g rfl)]
  rw [e0] at hK
  simp [rdA3,z1,z2,z3,z4]
  refine r02_hairline hc hok hlim fun H1 v x1 ov => ?_
  replace x1:HX H H1:=x1
  have l1:=x1.len
  have hhl:(hairP c).length=(loopP c).length:=by simp [hairP]
  have hb0:=fun i (hi:i<(hairP c).length)=>hair_bd hok hi
  have hb:=fun i=>mx_bd (l:=hairP c) hb0 (i:=i)
  have b3:=loop_le (c:=c)
  have b4:=hok.ns
  have hvl:vlenS v=some (.int .i64 ((hairP c).length:Nat)):=ov.sl.len
  simp
  refine wLoop_up (hairP c).length (fun i fr L H'=>(fr 2=.lp 0 0∧fr 3=.lp 1 0∧fr 8=.int .i64 (mxU (hairP c) i)∧fr 9=v∧fr 10=.int .i64 i)∧L=[[pv,sv,.int .i64 c.e],headV r f e b k n]∧H'=H1) ⟨by simp [mxU],rfl,rfl⟩ ?_
  rintro i hi fr L H2 ⟨⟨f2,f3,f8,f9,f10⟩,rfl,rfl⟩
  simp [f2,f3,f8,f9,f10,hvl]
  refine cond_dec (fun ht => ?_) fun hfl => ?_
  · have ht:i<(hairP c).length:=by omega
    have a1:=ov.sl.addr (i:=(i:Int)) (by omega)
    simp only [Int.toNat_natCast] at a1
    have l1:=fun L=>ov.sl.load (i:=i) ht (L:=L)
    have em:mxU (hairP c) (i+1)=max (mxU (hairP c) i) ((hairP c).getD i 0):=rfl
    simp (disch:=omega) [f2,f3,f8,f9,f10,a1,l1,wrap_i64,em]
    exact ht
  · have : i=(hairP c).length:=by omega
    subst this
    have hbm:=hb (hairP c).length (Nat.le_refl _)
    simp [f2,f3,f8,f9,f10,rdA3,rd0,hp.vlen,z1,z2,z3,z4]
    refine r02_open (hc.mono x1) hok (Nat.le_refl _) fun H3 vs x3 hn => ?_
    replace x3:HX H2 H3:=x3
    have l3:=x3.len
    simp [f2,f3,f8,f9,f10,rdA3,rd0,hp.vlen,z1,z2,z3,z4]
    refine r02_parts hn hok (Nat.le_refl _) fun H4 x4 => ?_
    replace x4:HX H3 H4:=x4
    have l4:=x4.len
    have x04:HX H H4:=(x1.trans x3).trans x4
    unfold wearB at hK
    by_cases c1:partP c=1
    case neg =>
      have d1:((partP c:Int)=1)=False:=eq_false (by omega)
      have hres:=hK H4 x04
      rw [decide_eq_false c1,Bool.false_and] at hres
      simp [d1,c1]
      exact hres
    have d1:((partP c:Int)=1)=True:=eq_true (by omega)
    simp [d1,c1,f2,f3,f8,f9,f10,rdA3,z1,z2,z3,z4]
    refine r02_handles (hc.mono x04) hok (Nat.le_refl _) fun H5 x5 => ?_
    replace x5:HX H4 H5:=x5
    have l5:=x5.len
    have hres:=hK H5 (x04.trans x5)
    rw [decide_eq_true c1,Bool.true_and] at hres
    by_cases c2:handP c=0
    case neg =>
      rw [decide_eq_false c2,Bool.false_and] at hres
      simp [c2]
      exact hres
    rw [decide_eq_true c2,Bool.true_and] at hres
    by_cases c3:0<(loopP c).length
    case neg =>
      have c4:(hairP c).length=0:=by omega
      rw [decide_eq_false c3,Bool.false_and] at hres
      rw [c4] at hvl
      simp [c2,f9,hvl]
      exact hres
    have c5:((0:Int)<((hairP c).length:Int))=True:=eq_true (by omega)
    have c6:(0<(hairP c).length)=True:=eq_true (by omega)
    rw [decide_eq_true c3,Bool.true_and] at hres
    generalize mxU (hairP c) (hairP c).length=mx at *
    generalize (hairP c).length=nh at *
    simp (disch:=omega) [c2,f2,f3,f8,f9,hvl,c5,c6,rd6_0,wrap_i64]
    refine r02_within ?_
    simp
    by_cases c7:r≤mx∧mx≤r+5
    · rw [decide_eq_true c7] at hres
      simp [c7]
      exact hres
    · rw [decide_eq_false c7] at hres
      first
        | (rw [decide_eq_false c7];exact hres)
        | (simp [c7];exact hres)
        | (have e7:(decide (r≤mx)&&decide (mx≤r+5))=false:=by rw [←Bool.decide_and,decide_eq_false c7]
           simp [e7];exact hres)
theorem law_CapWears (ha:CapA H ws c)(hlim:lim≤H.length)(i0:I64 r)(i1:I64 f)(i2:I64 e)(i3:I64 b)(i4:I64 k)(i5:I64 n)(hK:∀H',K (.bool true) H'):VCall tbl lim 14 [.agg ws,.agg (headV r f e b k n)] H K:=by
  have hc:=ha.cap
  obtain ⟨pv,sv,ps,rfl,hp,hs,z1,z2,z3,z4⟩:=hc.form
  refine VCall_fn tbl_at14 rfl ?_
  simp [vf14,z1,z2,z3,z4,rdA3]
  refine l02_Long hc ?_
  cases hl:longB c with
  | true =>
    simp
    refine cp_known hlim fun H' _ => ?_
    simp
    exact hK _
  | false =>
  have hsh:=short_of hl
  have s2:=hsh.ns
  simp [rdA3,rd6,z1,z2,z3,z4]
  refine surf_Wears hc hsh hlim fun H1 x1 => ?_
  replace x1:HX H H1:=x1
  have l1:=x1.len
  simp [rdA3,rd6,z1,z2,z3,z4]
  refine r02_Wears (hc.mono x1) hsh (by omega) fun H2 x2 => ?_
  replace x2:HX H1 H2:=x2
  have l2:=x2.len
  cases hw:(wearP c r (headE r f e b k n)).1 with
  | false =>
    simp
    refine cp_known (by omega) fun H' _ => ?_
    simp
    exact hK _
  | true =>
    have he:capE c=0:=by
      apply Classical.byContradiction
      intro he
      unfold wearP at hw
      rw [if_pos he] at hw;cases hw
    have hok:=capE_ok.1 he
    have hb:wearB c r=true:=by
      unfold wearP at hw
      rw [if_neg (fun g=>g he)] at hw
      split at hw
      · cases hw
      · exact hw
    simp only [wearB,Bool.and_eq_true,decide_eq_true_eq] at hb
    obtain ⟨q1,q2,q3,q4⟩:=hb
    obtain ⟨g,_,g2,g3⟩:=handles_ex hok
    have hme:=miss_euler hok
    have b1:=pts_le (c:=c)
    have b2:=hok.ns
    have b3:=ls_bd hok
    have b4:=hok.np
    have b5:=loop_le (c:=c)
    have e1:eulP c=((ptsP c).length:Int)-((nsN c.P:Int)-(c.S.length:Int))+(c.P.length:Int):=rfl
    simp [rdA3,z1,z2,z3,z4]
    refine surf_Missing (hc.mono (x1.trans x2)) (by omega) (by omega) fun H3 x3 => ?_
    replace x3:HX H2 H3:=x3
    have l3:=x3.len
    simp [he,rdA3,z1,z2,z3,z4]
    refine surf_Loops (hc.mono ((x1.trans x2).trans x3)) (by omega) (by omega) fun H4 v x4 v1 v2 => ?_
    replace x4:HX H3 H4:=x4
    have l4:=x4.len
    obtain ⟨us,o1,o2,o3⟩:=(v1 he).ex
    have hvl:vlenS v=some (.int .i64 (loopP c).length):=by rw [o1.lst.len,o2,List.length_map]
    have em:missP c=360*(2-((loopP c).length:Int)):=by rw [hme];omega
    have w1:IntKind.wrap .i64 (2-((loopP c).length:Int))=2-((loopP c).length:Int):=wrap_i64 (by omega) (by omega)
    have w2:IntKind.wrap .i64 (360*(2-((loopP c).length:Int)))=360*(2-((loopP c).length:Int)):=wrap_i64 (by omega) (by omega)
    simp [he,hvl,w1,w2,em]
    refine cp_known (by omega) fun H' _ => ?_
    simp
    exact hK _
end
end Go.Proofs.Ytclghkegfpcdpaa.Vm
