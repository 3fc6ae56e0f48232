/- The reference's points. -/
import Derived.Test.YtclghkegfpcdpaaQCapMissesC
namespace Go.Proofs.Ytclghkegfpcdpaa.Vm
open Go
set_option maxRecDepth 100000
set_option maxHeartbeats 1000000
set_option linter.unusedSimpArgs false
set_option linter.unusedVariables false
attribute [-simp] List.getD_eq_getElem?_getD Bool.exists_bool
section
variable {c:Cp}{f i:Nat}
theorem memE_yes {E:Nat→Nat→Prop}{n d:Nat}(h:E d n):memE E (n+1) d=memE E n d++[n]:=by
  unfold memE
  rw [List.range_succ,List.filter_append]
  simp [h]
theorem memE_no {E:Nat→Nat→Prop}{n d:Nat}(h:¬E d n):memE E (n+1) d=memE E n d:=by
  unfold memE
  rw [List.range_succ,List.filter_append]
  simp [h]
theorem memE_low {E:Nat→Nat→Prop}{d:Nat}(h:LeE E d):memE E d d=[]:=by
  unfold memE
  rw [List.filter_eq_nil_iff]
  intro x hx
  simpa using h x (List.mem_range.1 hx)
def edgB (c:Cp)(d:Nat):Bool:=decide (alf (lsN c) d≠d)&&decide (alf (lsN c) (bfN c.P d)≠bfN c.P d)
noncomputable def innA (c:Cp)(f i:Nat):Bool:=(memE (PtR c) i f).all (edgB c)
noncomputable def sumA (c:Cp)(f i:Nat):Int:=((memE (PtR c) i f).map (anN c.P)).sum
theorem innA_all (hok:CapOk c)(hf:f<nsN c.P):innA c f (nsN c.P)=innB c f:=by
  rw [Bool.eq_iff_iff]
  unfold innA innB edgB
  simp only [List.all_eq_true,decide_eq_true_eq,Bool.and_eq_true,mem_memE]
  constructor
  · intro h d hd
    exact (h d ⟨ptE_lt hd hf,hd⟩).1
  · rintro h d ⟨hd,he⟩
    refine ⟨h d he,fun e => ?_⟩
    exact sta_free hok.nu hd ((sta_bf hok hd).1 e) ((InnN.iff hok.nu he).1 h)
theorem sumA_bd (hok:CapOk c)(hi:i≤nsN c.P):0≤sumA c f i∧sumA c f i≤17232:=by
  have h1:=sum_le hok (l:=memE (PtR c) i f) fun x hx=>by
    have:=(mem_memE.1 hx).1;omega
  have h2:(memE (PtR c) i f).length≤i:=by
    unfold memE;exact Nat.le_trans (List.length_filter_le _ _) (by simp)
  have:=hok.ns
  unfold sumA
  refine ⟨h1.1,Int.le_trans h1.2 ?_⟩
  omega
open Classical in
noncomputable def ptsA (c:Cp)(b:Nat):List Ptt:=((List.range b).filter fun k=>decide (LeE (PtR c) k)).map (ptOf c)
theorem ptsA_yes {b:Nat}(h:LeE (PtR c) b):ptsA c (b+1)=ptsA c b++[ptOf c b]:=by
  unfold ptsA
  rw [List.range_succ,List.filter_append]
  simp [h]
theorem ptsA_no {b:Nat}(h:¬LeE (PtR c) b):ptsA c (b+1)=ptsA c b:=by
  unfold ptsA
  rw [List.range_succ,List.filter_append]
  simp [h]
theorem ptsA_all:ptsA c (nsN c.P)=ptsP c:=rfl
theorem ptsA_len {b:Nat}:(ptsA c b).length≤b:=by
  unfold ptsA
  rw [List.length_map]
  exact Nat.le_trans (List.length_filter_le _ _) (by simp)
theorem low_iff (hok:CapOk c){k:Nat}:lowE (PtR c) k=k↔LeE (PtR c) k :=
  ⟨fun e=>by have:=(lowE_spec hok.ptE k).2.2;rwa [e] at this,fun h=>lowE_min hok.ptE h⟩
theorem low_eq (hok:CapOk c)(hf:LeE (PtR c) f):lowE (PtR c) i=f↔PtR c f i:=by
  constructor
  · intro e;rw [←e];exact hok.ptE.sy (lowE_spec hok.ptE i).2.1
  · intro h;rw [←lowE_eq hok.ptE h,lowE_min hok.ptE hf]
end
structure PpS (n:Nat)(H0:Hp)(u:V)(pts:List Pnt)(q:List Ptt)(cv:V)(cur:List Int)(H:Hp):Prop where
  hx:HX H0 H
  ou:OwnT n pntC H u pts
  len:pts.length=q.length
  eq:∀i,i<q.length→(pts.getD i default).i=(q.getD i default).inn∧(pts.getD i default).a=(q.getD i default).ang∧(pts.getD i default).d=(q.getD i default).df
  oc:∀i,i<q.length→OwnV n H (pts.getD i default).v (natL (q.getD i default).cs)
  ow:OwnV n H cv cur
  ap:∀i,i<q.length→∀b o z y o' z' y',u=.sl b o z y→(pts.getD i default).v=.sl b o' z' y'→False
  aw:∀b o z y o' z' y',u=.sl b o z y→cv=.sl b o' z' y'→False
  ac:∀i,i<q.length→∀b o z y o' z' y',cv=.sl b o z y→(pts.getD i default).v=.sl b o' z' y'→False
section
variable {n lim:Nat}{H H0 H':Hp}{K:V→Hp→Prop}{u cv v:V}{pts:List Pnt}{q:List Ptt}{cur:List Int}{ws vs:List V}{c:Cp}
theorem PpS.pushC (h:PpS n H0 u pts q cv cur H){x:Int}(hn:lim≤n∧H0.length≤n∧n≤H.length)(hl:cur.length<1000000) :
    ∃cv' H',vappend lim 1 8 (H++[.row [.int .i64 x] true]) cv (.sl H.length 0 1 1)=some (cv',H')∧PpS n H0 u pts q cv' (cur++[x]) H'∧H.length≤H'.length:=by
  obtain ⟨v',H',a1,a2,a3,a4,a5,a6⟩:=h.ow.appendF (lim:=lim) (x:=x) ⟨hn.1,hn.2.2⟩ hl
  refine ⟨v',H',a1,⟨a3 _ h.hx hn.2.1,h.ou.keepB fun b o m z e=>a5 b (h.ou.belowB _ _ _ _ e).2 fun o' z' y' e'=>h.aw _ _ _ _ _ _ _ e e',h.len,h.eq,
    fun i hi=>(h.oc i hi).keepB fun b o m z e=>a5 b ((h.oc i hi).belowB _ _ _ _ e).2 fun o' z' y' e'=>h.ac i hi _ _ _ _ _ _ _ e' e,a2,h.ap,fun b o z y o' z' y' e e' => ?_,fun i hi b o z y o' z' y' e e' => ?_⟩,a4⟩
  · have:=(h.ou.belowB _ _ _ _ e).2
    have:=a6 _ _ _ _ e'
    omega
  · have:=((h.oc i hi).belowB _ _ _ _ e').2
    have:=a6 _ _ _ _ e
    omega
theorem PpS.pushU {p:Ptt}(h:PpS n H0 u pts q cv (natL p.cs) H){k:Int}(hn:lim≤n∧H0.length≤n∧n≤H.length)(hl:q.length<1000000) :
    ∃u' H',vappend lim 4 48 (H++[.row [cv,.bool p.inn,.int .i64 p.ang,.int .i64 p.df] true]) u (.sl H.length 0 1 4)=some (u',H')∧PpS n H0 u' (pts++[⟨cv,p.inn,p.ang,p.df,k⟩]) (q++[p]) .snil [] H'∧H.length≤H'.length:=by
  obtain ⟨v',H',a1,a2,a3,a4,a5,a6⟩:=h.ou.appendF2 (lim:=lim) (bytes:=48) (x:=⟨cv,p.inn,p.ang,p.df,k⟩) (cs:=[cv,.bool p.inn,.int .i64 p.ang,.int .i64 p.df]) rfl ⟨hn.1,hn.2.2⟩ (by omega) (by rw [h.len];exact hl)
  have hlen:=h.len
  refine ⟨v',H',a1,⟨a3 _ h.hx hn.2.1,a2,by simp [h.len],fun i hi => ?_,fun i hi => ?_,.nil,fun i hi b o z y o' z' y' e e' => ?_,fun b o z y o' z' y' _ e=>(by cases e),fun i hi b o z y o' z' y' e _=>(by cases e)⟩,a4⟩
  · rw [List.length_append,List.length_singleton] at hi
    by_cases hlt:i<q.length
    · rw [getD_lt (by omega),getD_lt (l:=q) hlt];exact h.eq i hlt
    · have:i=q.length:=by omega
      subst this
      rw [getD_last hlen.symm,getD_last rfl]
      exact ⟨rfl,rfl,rfl⟩
  · rw [List.length_append,List.length_singleton] at hi
    by_cases hlt:i<q.length
    · rw [getD_lt (by omega),getD_lt (l:=q) hlt]
      exact (h.oc i hlt).keepB fun b o m z e=>a5 b ((h.oc i hlt).belowB _ _ _ _ e).2 fun o' z' y' e'=>h.ap i hlt _ _ _ _ _ _ _ e' e
    · have:i=q.length:=by omega
      subst this
      rw [getD_last hlen.symm,getD_last rfl]
      exact h.ow.keepB fun b o m z e=>a5 b (h.ow.belowB _ _ _ _ e).2 fun o' z' y' e'=>h.aw _ _ _ _ _ _ _ e' e
  · rw [List.length_append,List.length_singleton] at hi
    have h6:=a6 _ _ _ _ e
    by_cases hlt:i<q.length
    · rw [getD_lt (by omega)] at e'
      have:=(h.oc i hlt).belowB _ _ _ _ e'
      omega
    · have:i=q.length:=by omega
      subst this
      rw [getD_last hlen.symm] at e'
      have:=h.ow.belowB _ _ _ _ e'
      omega
theorem r02_points (hn:NetV H vs c) (hok:CapOk c) (hlim:lim≤H.length) (hK:∀H' v,HX H H'→PtlV H.length H' v (ptsP c)→K v H'):VCall tbl lim 61 [.agg vs] H K:=by
  have hn0:=hn
  obtain ⟨va,vb,vp,vx,vq,rfl,h1,h2,h3,h4,h5⟩:=hn.ex
  have hns:=hok.ns
  have hsm:=hok.sm_ok
  have hE:=hok.ptE
  refine VCall_fn tbl_at61 rfl ?_
  simp [vf61,rdA5,h1.stor,h1.one,h2.stor,h2.one,h3.stor,h3.one,h4.stor,h4.one,h5.stor,h5.one]
  refine r02_meets hn0 hok hlim fun H1 lw l x1 o1 hll hlo => ?_
  replace x1:HX H H1:=x1
  have l1:=x1.len
  have hll2:(natL l).length=nsN c.P:=by simp [natL,hll]
  have hvl:vlenS lw=some (.int .i64 (nsN c.P)):=by rw [o1.sl.len,hll2]
  have lwG:∀{H2:Hp} {k:Nat},HX H1 H2→k<nsN c.P→viaddrS 1 lw (.int .i64 (k:Int))=some (ept 1 lw k)∧∀L,vload none L H2 (ept 1 lw k)=some (.int .i64 (lowE (PtR c) k:Nat)):=by
    intro H2 k hx hk
    have a:=o1.sl.addr (i:=(k:Int)) (by rw [hll2];omega)
    rw [Int.toNat_natCast] at a
    refine ⟨a,fun L => ?_⟩
    rw [(o1.sl.mono hx).load (by rw [hll2];exact hk),natL_get,hlo k hk]
  simp [hvl]
  refine wLoop_up (nsN c.P) (fun i fr L H'=>∃u X pts,(fr 1=.lp 0 0∧fr 3=lw∧fr 4=u∧fr 5=.int .i64 i)∧L=[va,vb,vp,vx,vq] :: X∧PpS H1.length H1 u pts (ptsA c i) .snil [] H') ⟨.snil,[],[],by simp,rfl,.refl,.nil,rfl,fun i hi=>by simp [ptsA] at hi,fun i hi=>by simp [ptsA] at hi,.nil,fun i hi=>by simp [ptsA] at hi,fun b o z y o' z' y' e _=>(by cases e),fun i hi=>by simp [ptsA] at hi⟩ ?_
  rintro f hf fr L H2 ⟨u,X,pts,⟨f1,f3,f4,f5⟩,rfl,hS⟩
  simp [f1,f3,f4,f5,hvl]
  have x2:HX H1 H2:=hS.hx
  have l2:=x2.len
  refine cond_dec (fun ht => ?_) fun hfl => ?_
  · have ht : f<nsN c.P:=by omega
    have g0:=lwG x2 ht
    by_cases hlow:LeE (PtR c) f
    case neg =>
      have hne:lowE (PtR c) f≠f:=fun e=>hlow ((low_iff hok).1 e)
      have hd:decide (((lowE (PtR c) f:Nat):Int)=(f:Int))=false:=decide_eq_false (by omega)
      have hd2:(((lowE (PtR c) f:Nat):Int)=(f:Int))=False:=eq_false (by omega)
      generalize lowE (PtR c) f=lf at *
      have hd3:(lf=f)=False:=eq_false (by omega)
      simp (disch:=omega) [f1,f3,f4,f5,g0.1,g0.2,hd,hd2,hd3,wrap_i64]
      exact ⟨ht,pts,by rw [ptsA_no hlow];exact hS⟩
    have hlf:lowE (PtR c) f=f:=(low_iff hok).2 hlow
    rw [hlf] at g0
    simp (disch:=omega) [f1,f3,f4,f5,g0.1,g0.2,wrap_i64,splice,lastO,lastS]
    refine wLoop_up (nsN c.P-f) (fun k fr L H'=>∃cv,(fr 1=.lp 0 0∧fr 3=lw∧fr 4=u∧fr 5=.int .i64 f∧fr 6=.lp (X.length+1) 0∧fr 7=.int .i64 (f+k:Nat))∧L=[va,vb,vp,vx,vq] :: (X++[[cv,.bool (innA c f (f+k)),.int .i64 (sumA c f (f+k)),.int .i64 0]])∧PpS H1.length H1 u pts (ptsA c f) cv (natL (memE (PtR c) (f+k) f)) H') ⟨.snil,by simp [f1,f3,f4,f5],by simp [innA,sumA,memE_low hlow],by rw [Nat.add_zero,memE_low hlow];exact hS⟩ ?_
    clear f1 f3 f4 f5 hS x2 l2 g0 fr
    rintro k hk fr L H3 ⟨cv,⟨f1,f3,f4,f5,f6,f7⟩,rfl,hS⟩
    have x3:HX H1 H3:=hS.hx
    have l3:=x3.len
    simp [f1,f3,f4,f5,f6,f7,hvl]
    refine cond_dec (fun hkt => ?_) fun hkf => ?_
    · have hkt:f+k<nsN c.P:=by omega
      have hk':k<nsN c.P-f:=by omega
      have g1:=lwG x3 hkt
      have q1:((f:Int)+(k:Int))=((f+k:Nat):Int):=by omega
      rw [show f+(k+1)=f+k+1 by omega]
      have hsb:=sumA_bd (f:=f) hok (i:=f+k) (by omega)
      generalize hj:f+k=j at *
      by_cases hin:PtR c f j
      case neg =>
        have hne:lowE (PtR c) j≠f:=fun e=>hin ((low_eq hok hlow).1 e)
        generalize lowE (PtR c) j=lj at *
        have hd1:(lj=f)=False:=eq_false hne
        have hd2:((lj:Int)=(f:Int))=False:=eq_false (by omega)
        simp (disch:=omega) [f1,f3,f4,f5,f6,f7,q1,g1.1,g1.2,hd1,hd2,wrap_i64]
        refine ⟨hk',by omega,cv,?_,?_⟩
        · simp [innA,sumA,memE_no hin]
        · rw [memE_no hin];exact hS
      have hlj:lowE (PtR c) j=f:=(low_eq hok hlow).2 hin
      rw [hlj] at g1
      obtain ⟨cv2,H4,b1,hS4,l4⟩:=hS.pushC (lim:=lim) (x:=(j:Int)) ⟨by omega,Nat.le_refl _,by omega⟩ (by
        have:(memE (PtR c) j f).length≤j:=by unfold memE;exact Nat.le_trans (List.length_filter_le _ _) (by simp)
        simp only [natL,List.length_map];omega)
      have x4:HX H1 H4:=hS4.hx
      have x04:HX H H4:=x1.trans x4
      have zc:=hS.ow.sl
      have zc2:=hS4.ow.sl
      have a2:=(h2.mono x04).up hkt
      have a5:=(h5.mono x04).up hkt
      have hbf:=nx_bf hkt
      have a6:=(h5.mono x04).up hbf.2
      have hab:=an_bd hok hkt
      have es:sumA c f (j+1)=sumA c f j+anN c.P j:=by unfold sumA;rw [memE_yes hin];simp
      have ei:innA c f (j+1)=(innA c f j&&edgB c j):=by unfold innA;rw [memE_yes hin];simp
      have em:natL (memE (PtR c) (j+1) f)=natL (memE (PtR c) j f)++[(j:Int)]:=by rw [memE_yes hin];simp [natL]
      rw [em,ei,es]
      have hnv:NetV H4 [va,vb,vp,vx,vq] c:=hn0.mono x04
      cases hb:innA c f j with
      | false =>
        simp (disch:=omega) [f1,f3,f4,f5,f6,f7,q1,g1.1,g1.2,wrap_i64,lastO,lastS,rd0,rd1',rd2',rd5_1,rd5_4,zc.stor,zc.one,zc2.stor,zc2.one,splice,b1,a2.1,a2.2,isLp_ept,hb]
        first | exact ⟨hk',hS4⟩ | exact ⟨hk',by omega,hS4⟩
      | true =>
        by_cases hfr:alf (lsN c) j=j
        · have e5:ptL (lsN c) j = -1:=by rw [ptL,if_pos hfr]
          rw [e5] at a5
          have eb:edgB c j=false:=by simp [edgB,hfr]
          simp (disch:=omega) [f1,f3,f4,f5,f6,f7,q1,g1.1,g1.2,wrap_i64,lastO,lastS,rd0,rd1',rd2',rd5_1,rd5_4,zc.stor,zc.one,zc2.stor,zc2.one,splice,b1,a2.1,a2.2,a5.1,a5.2,isLp_ept,hb,eb]
          first | exact ⟨hk',hS4⟩ | exact ⟨hk',by omega,hS4⟩
        · have e5:ptL (lsN c) j=(alf (lsN c) j:Nat):=by rw [ptL,if_neg hfr]
          rw [e5] at a5
          generalize hal:alf (lsN c) j=al at a5
          have d5:((0:Int)≤(al:Int))=True:=eq_true (by omega)
          simp (disch:=omega) [f1,f3,f4,f5,f6,f7,q1,g1.1,g1.2,wrap_i64,lastO,lastS,rd0,rd1',rd2',rd5_1,rd5_4,rdA5,zc.stor,zc.one,zc2.stor,zc2.one,splice,b1,a2.1,a2.2,a5.1,a5.2,d5,isLp_ept,hb,h1.stor,h1.one,h2.stor,h2.one,h3.stor,h3.one,h4.stor,h4.one,h5.stor,h5.one]
          refine r02_previous hnv hok hkt ?_
          by_cases hfb:alf (lsN c) (bfN c.P j)=bfN c.P j
          · have e6:ptL (lsN c) (bfN c.P j) = -1:=by rw [ptL,if_pos hfb]
            rw [e6] at a6
            have eb:edgB c j=false:=by simp [edgB,hfb]
            generalize bfN c.P j=bj at *
            simp (disch:=omega) [f1,f3,f4,f5,f6,f7,wrap_i64,lastO,lastS,rd0,rd1',rd2',splice,a6.1,a6.2,eb]
            first | exact ⟨hk',hS4⟩ | exact ⟨hk',by omega,hS4⟩
          · have e6:ptL (lsN c) (bfN c.P j)=(alf (lsN c) (bfN c.P j):Nat):=by rw [ptL,if_neg hfb]
            rw [e6] at a6
            have eb:edgB c j=true:=by unfold edgB;rw [decide_eq_true hfr,decide_eq_true hfb];rfl
            generalize alf (lsN c) (bfN c.P j)=a7 at *
            have d6:((0:Int)≤(a7:Int))=True:=eq_true (by omega)
            generalize bfN c.P j=bj at *
            simp (disch:=omega) [f1,f3,f4,f5,f6,f7,wrap_i64,lastO,lastS,rd0,rd1',rd2',splice,a6.1,a6.2,eb,d6]
            first | exact ⟨hk',hS4⟩ | exact ⟨hk',by omega,hS4⟩
    · have hkN:f+k=nsN c.P:=by omega
      rw [hkN] at hS
      have zc:=hS.ow.sl
      have hsb:=sumA_bd (f:=f) hok (Nat.le_refl (nsN c.P))
      have hA:=innA_all hok ht
      have hps:(ptOf c f).cs=memE (PtR c) (nsN c.P) f∧(ptOf c f).inn=innB c f∧(ptOf c f).ang=sumA c f (nsN c.P)∧(ptOf c f).df=(if innB c f then 360 else 180)-sumA c f (nsN c.P):=⟨rfl,rfl,rfl,rfl⟩
      obtain ⟨p1,p2,p3,p4⟩:=hps
      rw [←p1] at hS
      obtain ⟨u2,H4,b1,hS4,l4⟩:=hS.pushU (lim:=lim) (k:=0) ⟨by omega,Nat.le_refl _,by omega⟩ (by have:=ptsA_len (c:=c) (b:=f);omega)
      rw [p2,p3,p4] at b1
      rw [←ptsA_yes hlow] at hS4
      cases hb:innB c f with
      | false =>
        rw [hb] at b1 hA
        simp only [Bool.false_eq_true,if_false] at b1
        simp (disch:=omega) [f1,f3,f4,f5,f6,f7,hkN,hA,wrap_i64,lastO,lastS,rd0,rd1',rd2',rd3',rdA4,zc.stor,zc.one,splice,b1]
        exact ⟨ht,_,hS4⟩
      | true =>
        rw [hb] at b1 hA
        simp only [if_true] at b1
        simp (disch:=omega) [f1,f3,f4,f5,f6,f7,hkN,hA,wrap_i64,lastO,lastS,rd0,rd1',rd2',rd3',rdA4,zc.stor,zc.one,splice,b1]
        exact ⟨ht,_,hS4⟩
  · have:f=nsN c.P:=by omega
    subst this
    simp [f1,f3,f4,f5,hS.ou.lst.stor]
    rw [ptsA_all] at hS
    exact hK _ _ (x1.trans x2) ⟨pts,hS.ou.le (by omega),hS.len,fun i hi=>⟨(hS.eq i hi).1,(hS.eq i hi).2.1,(hS.eq i hi).2.2,(hS.oc i hi).le (by omega)⟩⟩
end
end Go.Proofs.Ytclghkegfpcdpaa.Vm
namespace Go.Proofs.Ytclghkegfpcdpaa.Vm
open Go
set_option maxRecDepth 100000
set_option maxHeartbeats 1000000
set_option linter.unusedSimpArgs false
set_option linter.unusedVariables false
attribute [-simp] List.getD_eq_getElem?_getD Bool.exists_bool
structure PassP (c:Cp)(l0:List Nat)(a:Nat)(l:List Nat):Prop where
  low:LowM (PrtR c) c.P.length l
  le:∀x,l.getD x 0≤l0.getD x 0
  sm:∀i,i<a→alf (lsN c) i≠i→l.getD (pcN c.P i) 0≤l0.getD (pcN c.P (alf (lsN c) i)) 0
section
variable {n lim:Nat}{H H0 H':Hp}{K:V→Hp→Prop}{v:V}{ws vs:List V}{c:Cp}{a:Nat}{l l0:List Nat}
theorem PassP.skip (h:PassP c l0 a l)(hf:alf (lsN c) a=a):PassP c l0 (a+1) l where
  low:=h.low
  le:=h.le
  sm:=fun i hi hne=>by
    by_cases e:i=a
    · subst e;exact absurd hf hne
    · exact h.sm i (by omega) hne
theorem PassP.step (hok:CapOk c)(h:PassP c l0 a l)(ha:a<nsN c.P):PassP c l0 (a+1) (lowS l (pcN c.P a) (pcN c.P (alf (lsN c) a))):=by
  have hal:=hok.sm_ok.pr.lt a ha
  have h1:pcN c.P a<l.length:=by rw [h.low.len];exact pc_lt ha
  have h2:pcN c.P (alf (lsN c) a)<l.length:=by rw [h.low.len];exact pc_lt hal
  refine ⟨h.low.step prtE_eqv (pc_lt ha) (pc_lt hal) prtE_sewn,fun x=>Nat.le_trans (lowS_le h1 h2) (h.le x),fun i hi hne => ?_⟩
  by_cases e:i=a
  · subst e
    rw [lowS_get h1 h2,if_pos (Or.inr rfl)]
    exact Nat.le_trans (Nat.min_le_right _ _) (h.le _)
  · exact Nat.le_trans (lowS_le h1 h2) (h.sm i (by omega) hne)
theorem r02_parts (hn:NetV H vs c) (hok:CapOk c) (hlim:lim≤H.length) (hK:∀H',HX H H'→K (.int .i64 (partP c:Nat)) H'):VCall tbl lim 65 [.agg vs,.int .i64 (c.P.length:Nat)] H K:=by
  obtain ⟨va,vb,vp,vx,vq,rfl,h1,h2,h3,h4,h5⟩:=hn.ex
  have hns:=hok.ns
  have hnp:=hok.np
  have hsm:=hok.sm_ok
  refine VCall_fn tbl_at65 rfl ?_
  simp [vf65]
  refine wLoop_up c.P.length (fun i fr L H'=>∃v,(fr 1=.int .i64 (c.P.length:Nat)∧fr 2=.lp 0 0∧fr 5=v∧fr 6=.int .i64 i)∧L=[[va,vb,vp,vx,vq]]∧HX H H'∧OwnV H.length H' v (natL (List.range i))) ⟨.snil,by simp,rfl,.refl,.nil⟩ ?_
  rintro i hi fr L H1 ⟨v,⟨f1,f2,f5,f6⟩,rfl,x1,o1⟩
  simp [f1,f2,f5,f6]
  refine cond_dec (fun ht => ?_) fun hfl => ?_
  · have ht:i<c.P.length:=by omega
    have l1:=x1.len
    obtain ⟨v2,H2,b1,b2,b3,b4,_⟩:=o1.appendF (lim:=lim) (x:=(i:Int)) ⟨hlim,by omega⟩ (by simp [natL];omega)
    simp (disch:=omega) [f1,f2,f5,f6,splice,b1,wrap_i64]
    refine ⟨ht,b3 _ x1 (Nat.le_refl _),?_⟩
    have:natL (List.range (i+1))=natL (List.range i)++[(i:Int)]:=by simp [natL,List.range_succ]
    rw [this];exact b2
  · have:i=c.P.length:=by omega
    subst this
    simp [f1,f2,f5,f6]
    refine wLoop_up c.P.length (fun r fr L H'=>∃l,(fr 1=.int .i64 (c.P.length:Nat)∧fr 2=.lp 0 0∧fr 5=v∧fr 7=.int .i64 r)∧L=[[va,vb,vp,vx,vq]]∧HX H H'∧OwnV H.length H' v (natL l)∧LowM (PrtR c) c.P.length l∧RndP c r l) ⟨List.range c.P.length,by simp [f1,f2,f5],rfl,x1,o1,LowM.start prtE_eqv,RndP.start⟩ ?_
    clear f1 f2 f5 f6 o1 x1 hi hfl fr
    rintro r hr fr L H2 ⟨l,⟨f1,f2,f5,f7⟩,rfl,x2,o2,hl,hrd⟩
    simp [f1,f2,f5,f7]
    refine cond_dec (fun hrt => ?_) fun hrf => ?_
    · have hrt:r<c.P.length:=by omega
      simp [f1,f2,f5,f7]
      refine wLoop_up (nsN c.P) (fun a fr L H'=>∃l',(fr 1=.int .i64 (c.P.length:Nat)∧fr 2=.lp 0 0∧fr 5=v∧fr 7=.int .i64 r∧fr 8=.int .i64 a)∧L=[[va,vb,vp,vx,vq]]∧HX H H'∧OwnV H.length H' v (natL l')∧PassP c l a l') ⟨l,by simp [f1,f2,f5,f7],rfl,x2,o2,hl,fun _=>Nat.le_refl _,fun i h=>absurd h (by omega)⟩ ?_
      clear f1 f2 f5 f7 o2 x2 fr
      rintro a ha fr L H3 ⟨l',⟨f1,f2,f5,f7,f8⟩,rfl,x3,o3,hp⟩
      have l3:=x3.len
      have hl':=hp.low
      have hlen:(natL l').length=c.P.length:=by simp [natL,hl'.len]
      have hq0:vlenS vq=some (.int .i64 (nsN c.P)):=by rw [h5.len,upM_len]
      simp [f1,f2,f5,f7,f8,rd5_4,hq0]
      refine cond_dec (fun ht => ?_) fun hf => ?_
      · have ht:a<nsN c.P:=by omega
        have q5:=(h5.mono x3).up ht
        by_cases hfr:alf (lsN c) a=a
        · have e5:ptL (lsN c) a = -1:=by rw [ptL,if_pos hfr]
          rw [e5] at q5
          simp (disch:=omega) [f1,f2,f5,f7,f8,rd5_4,q5.1,q5.2,wrap_i64]
          exact ⟨ht,x3,l',o3,hp.skip hfr⟩
        · have e5:ptL (lsN c) a=(alf (lsN c) a:Nat):=by rw [ptL,if_neg hfr]
          have hal:=hsm.pr.lt a ht
          have hpa:pcN c.P a<c.P.length:=pc_lt ht
          have hpb:pcN c.P (alf (lsN c) a)<c.P.length:=pc_lt hal
          have q3:=(h3.mono x3).up ht
          have q4:=(h3.mono x3).up hal
          rw [e5] at q5
          have hstep:=hp.step hok ht
          have g1:=o3.sl.addr (i:=((pcN c.P a:Nat):Int)) (by rw [hlen];omega)
          have g2:=o3.sl.addr (i:=((pcN c.P (alf (lsN c) a):Nat):Int)) (by rw [hlen];omega)
          simp only [Int.toNat_natCast] at g1 g2
          have d1:=fun L=>o3.sl.load (i:=pcN c.P a) (by rw [hlen];exact hpa) (L:=L)
          have d2:=fun L=>o3.sl.load (i:=pcN c.P (alf (lsN c) a)) (by rw [hlen];exact hpb) (L:=L)
          simp only [natL_get] at d1 d2
          have hx1:=hl'.lt hpa
          have hx2:=hl'.lt hpb
          generalize pcN c.P (alf (lsN c) a)=pb at *
          generalize pcN c.P a=pa at *
          have em:min ((l'.getD pa 0:Nat):Int) ((l'.getD pb 0:Nat):Int)=((min (l'.getD pa 0) (l'.getD pb 0):Nat):Int):=by omega
          have hmb:min (l'.getD pa 0) (l'.getD pb 0)<1000:=by omega
          have st1:=fun L=>o3.store (lim:=lim) (i:=pa) (x:=((min (l'.getD pa 0) (l'.getD pb 0):Nat):Int)) (L:=L) ⟨hlim,by rw [hlen];exact hpa⟩
          have o4:OwnV H.length (setH H3 v (ints ((natL l').set pa ((min (l'.getD pa 0) (l'.getD pb 0):Nat):Int)))) v ((natL l').set pa ((min (l'.getD pa 0) (l'.getD pb 0):Nat):Int)):=o3.put (by simp)
          have x4:=setH_X x3 o3 (Nat.le_refl _) (cs:=ints ((natL l').set pa ((min (l'.getD pa 0) (l'.getD pb 0):Nat):Int)))
          have st2:=fun L=>o4.store (lim:=lim) (i:=pb) (x:=((min (l'.getD pa 0) (l'.getD pb 0):Nat):Int)) (L:=L) ⟨hlim,by rw [List.length_set,hlen];exact hpb⟩
          have o5:=o4.put (l':=((natL l').set pa ((min (l'.getD pa 0) (l'.getD pb 0):Nat):Int)).set pb ((min (l'.getD pa 0) (l'.getD pb 0):Nat):Int)) (by simp)
          have x5:=setH_X x4 o4 (Nat.le_refl _) (cs:=ints (((natL l').set pa ((min (l'.getD pa 0) (l'.getD pb 0):Nat):Int)).set pb ((min (l'.getD pa 0) (l'.getD pb 0):Nat):Int)))
          have es:((natL l').set pa ((min (l'.getD pa 0) (l'.getD pb 0):Nat):Int)).set pb ((min (l'.getD pa 0) (l'.getD pb 0):Nat):Int)=natL (lowS l' pa pb):=by rw [natL_set,natL_set];rfl
          rw [es] at st2 o5 x5
          have ip1:=o3.isP (i:=pa) (by rw [hlen];exact hpa)
          have ip2:=o3.isP (i:=pb) (by rw [hlen];exact hpb)
          generalize hpp:alf (lsN c) a=p at *
          generalize hm:min (l'.getD pa 0) (l'.getD pb 0)=m at *
          generalize lowS l' pa pb=l2 at *
          generalize l'.getD pa 0=xa at *
          generalize l'.getD pb 0=xb at *
          have dn:((0:Int)≤(p:Int))=True:=eq_true (by omega)
          simp (disch:=omega) [f1,f2,f5,f7,f8,rd5_2,rd5_4,q5.1,q5.2,q3.1,q3.2,q4.1,q4.2,g1,g2,d1,d2,dn,em,st1,st2,ip1,ip2,isLp_ept,-vstore,wrap_i64]
          exact ⟨ht,x5,_,o5,hstep⟩
      · have:a=nsN c.P:=by omega
        subst this
        simp (disch:=omega) [f1,f2,f5,f7,f8,wrap_i64]
        exact ⟨hrt,x3,l',o3,hl',RndP.next hok hl hl' hp.le (fun i hi=>hp.sm i hi) hrd⟩
    · have:r=c.P.length:=by omega
      subst this
      have hend:=fun x hx=>hrd.end hl (x:=x) hx
      have hlen:(natL l).length=c.P.length:=by simp [natL,hl.len]
      simp [f1,f2,f5,f7]
      refine wLoop_up c.P.length (fun i fr L H'=>(fr 1=.int .i64 (c.P.length:Nat)∧fr 5=v∧fr 11=.int .i64 (ownL l i:Nat)∧fr 12=.int .i64 i)∧L=[[va,vb,vp,vx,vq]]∧H'=H2) ⟨by simp [f1,f5,ownL],rfl,rfl⟩ ?_
      clear f1 f2 f5 f7 fr
      rintro i hi fr L H3 ⟨⟨f1,f5,f11,f12⟩,rfl,rfl⟩
      simp [f1,f5,f11,f12]
      refine cond_dec (fun ht => ?_) fun hf => ?_
      · have ht:i<c.P.length:=by omega
        have g1:=o2.sl.addr (i:=(i:Int)) (by rw [hlen];omega)
        simp only [Int.toNat_natCast] at g1
        have d1:=fun L=>o2.sl.load (i:=i) (by rw [hlen];exact ht) (L:=L)
        simp only [natL_get] at d1
        have hob:ownL l i≤i:=by unfold ownL;exact Nat.le_trans (List.length_filter_le _ _) (by simp)
        rw [ownL_next]
        by_cases e:l.getD i 0=i
        · rw [e] at d1
          rw [if_pos e]
          simp (disch:=omega) [f1,f5,f11,f12,g1,d1,wrap_i64]
          exact ht
        · rw [if_neg e]
          generalize l.getD i 0=li at *
          have dn:(li=i)=False:=eq_false e
          have dn2:((li:Int)=(i:Int))=False:=eq_false (by omega)
          simp (disch:=omega) [f1,f5,f11,f12,g1,d1,dn,dn2,wrap_i64]
          exact ht
      · have:i=c.P.length:=by omega
        subst this
        simp [f1,f5,f11,f12]
        rw [own_parts hend]
        exact hK _ x2
end
end Go.Proofs.Ytclghkegfpcdpaa.Vm
namespace Go.Proofs.Ytclghkegfpcdpaa.Vm
open Go
set_option maxRecDepth 100000
set_option maxHeartbeats 1000000
set_option linter.unusedSimpArgs false
set_option linter.unusedVariables false
attribute [-simp] List.getD_eq_getElem?_getD Bool.exists_bool
structure LqS (n0:Nat)(H0:Hp)(M:List Bool)(u:V)(us:List V)(ls:List (List Int))(cv:V)(cur:List Int)(H:Hp):Prop where
  hx:HX H0 H
  hn:H0.length=n0
  b1:H[n0]? = some (.row (boolL M) true)
  ou:OwnT (n0+1) vC H u us
  len:us.length=ls.length
  oc:∀i,i<us.length→OwnV (n0+1) H (us.getD i dv) (ls.getD i [])
  ow:OwnV (n0+1) H cv cur
  ap:∀i,i<us.length→∀b o z y o' z' y',u=.sl b o z y→us.getD i dv=.sl b o' z' y'→False
  aw:∀b o z y o' z' y',u=.sl b o z y→cv=.sl b o' z' y'→False
  ac:∀i,i<us.length→∀b o z y o' z' y',cv=.sl b o z y→us.getD i dv=.sl b o' z' y'→False
section
variable {n0 lim:Nat}{H H0 H':Hp}{K:V→Hp→Prop}{lv u cv v:V}{M M':List Bool}{us:List V}{ls:List (List Int)}{cur:List Int}{c:Cp}{s:Nat}
theorem LqS.big (h:LqS n0 H0 M u us ls cv cur H):n0+1≤H.length:=(List.getElem?_eq_some_iff.1 h.b1).1
theorem LqS.move (h:LqS n0 H0 M u us ls cv cur H)(ho:OthM n0 H H')(hm:H'[n0]? = some (.row (boolL M') true)):LqS n0 H0 M' u us ls cv cur H' where
  hx:=HX.of (by have:=h.hx.len;have:=ho.1;omega) fun b hb=>by
    have:=h.hx.len
    have:=h.hn
    rw [ho.2 b (by omega) (by omega),h.hx.same hb]
  hn:=h.hn
  b1:=hm
  ou:=h.ou.keepB fun b o m z e=>by have:=h.ou.belowB _ _ _ _ e;exact ho.2 b (by omega) (by omega)
  len:=h.len
  oc:=fun i hi=>(h.oc i hi).keepB fun b o m z e=>by have:=(h.oc i hi).belowB _ _ _ _ e;exact ho.2 b (by omega) (by omega)
  ow:=h.ow.keepB fun b o m z e=>by have:=h.ow.belowB _ _ _ _ e;exact ho.2 b (by omega) (by omega)
  ap:=h.ap
  aw:=h.aw
  ac:=h.ac
theorem LqS.grow (h:LqS n0 H0 M u us ls cv cur H)(hx:HX H H'):LqS n0 H0 M u us ls cv cur H':=h.move ⟨hx.len,fun b hb _=>hx.same hb⟩ (hx.get h.b1)
theorem LqS.put (h:LqS n0 H0 M u us ls cv cur H){k:Nat}:LqS n0 H0 (M.set k true) u us ls cv cur (H.set n0 (.row (boolL (M.set k true)) true)) :=
  h.move ⟨by simp,fun b hb hne=>List.getElem?_set_ne (fun e=>hne e.symm)⟩ (List.getElem?_set_self h.big)
theorem LqS.pushC (h:LqS n0 H0 M u us ls cv cur H){x:Int}(hlim:lim≤n0)(hl:cur.length<1000000) :
    ∃cv' H',vappend lim 1 8 (H++[.row [.int .i64 x] true]) cv (.sl H.length 0 1 1)=some (cv',H')∧LqS n0 H0 M u us ls cv' (cur++[x]) H':=by
  have hb:=h.big
  obtain ⟨v',H',a1,a2,a3,a4,a5,a6⟩:=h.ow.appendF (lim:=lim) (x:=x) ⟨by omega,by omega⟩ hl
  have bo:∀b,b<n0+1→∀o z y,cv≠.sl b o z y:=fun b hb o z y e=>by have:=h.ow.belowB _ _ _ _ e;omega
  have hh:=h.hn
  refine ⟨v',H',a1,⟨a3 _ h.hx (by omega),h.hn,(a5 n0 (by omega) (bo _ (by omega))).trans h.b1,h.ou.keepB fun b o m z e=>a5 b (h.ou.belowB _ _ _ _ e).2 fun o' z' y' e'=>h.aw _ _ _ _ _ _ _ e e',h.len,
    fun i hi=>(h.oc i hi).keepB fun b o m z e=>a5 b ((h.oc i hi).belowB _ _ _ _ e).2 fun o' z' y' e'=>h.ac i hi _ _ _ _ _ _ _ e' e,a2,h.ap,fun b o z y o' z' y' e e' => ?_,fun i hi b o z y o' z' y' e e' => ?_⟩⟩
  · have:=(h.ou.belowB _ _ _ _ e).2
    have:=a6 _ _ _ _ e'
    omega
  · have:=((h.oc i hi).belowB _ _ _ _ e').2
    have:=a6 _ _ _ _ e
    omega
theorem LqS.pushU (h:LqS n0 H0 M u us ls cv cur H)(hlim:lim≤n0)(hl:us.length<1000000) :
    ∃u' H',vappend lim 1 24 (H++[.row [cv] true]) u (.sl H.length 0 1 1)=some (u',H')∧LqS n0 H0 M u' (us++[cv]) (ls++[cur]) .snil [] H':=by
  have hb:=h.big
  obtain ⟨v',H',a1,a2,a3,a4,a5,a6⟩:=h.ou.appendF2 (lim:=lim) (bytes:=24) (x:=cv) (cs:=[cv]) rfl ⟨by omega,by omega⟩ (by omega) hl
  have bo:∀b,b<n0+1→∀o z y,u≠.sl b o z y:=fun b hb o z y e=>by have:=h.ou.belowB _ _ _ _ e;omega
  have hh:=h.hn
  refine ⟨v',H',a1,⟨a3 _ h.hx (by omega),h.hn,(a5 n0 (by omega) (bo _ (by omega))).trans h.b1,a2,by simp [h.len],fun i hi => ?_,.nil,fun i hi b o z y o' z' y' e e' => ?_,fun b o z y o' z' y' _ e=>(by cases e),fun i hi b o z y o' z' y' e _=>(by cases e)⟩⟩
  · rw [List.length_append,List.length_singleton] at hi
    by_cases hlt:i<us.length
    · rw [getD_lt hlt,getD_lt (l:=ls) (by rw [←h.len];exact hlt)]
      exact (h.oc i hlt).keepB fun b o m z e=>a5 b ((h.oc i hlt).belowB _ _ _ _ e).2 fun o' z' y' e'=>h.ap i hlt _ _ _ _ _ _ _ e' e
    · have:i=us.length:=by omega
      subst this
      rw [getD_last rfl,getD_last h.len]
      exact h.ow.keepB fun b o m z e=>a5 b (h.ow.belowB _ _ _ _ e).2 fun o' z' y' e'=>h.aw _ _ _ _ _ _ _ e' e
  · rw [List.length_append,List.length_singleton] at hi
    have h6:=a6 _ _ _ _ e
    by_cases hlt:i<us.length
    · rw [getD_lt hlt] at e'
      have:=(h.oc i hlt).belowB _ _ _ _ e'
      omega
    · have:i=us.length:=by omega
      subst this
      rw [getD_last rfl] at e'
      have:=h.ow.belowB _ _ _ _ e'
      omega
theorem sg_def (hok:CapOk c)(hf:alf (lsN c) s=s):sgN (nsN c.P) (nxN c.P) (lsN c) s=itN (nuP c) (rnN (nsN c.P) (nxN c.P) (lsN c) (nuP c s)) (nuP c s):=by
  rw [sgN,if_pos hf];rfl
theorem r02_loops {vs:List V} (hn:NetV H vs c) (hok:CapOk c) (hlim:lim≤H.length) (hK:∀H' v,HX H H'→LlsV H.length H' v ((loopP c).map natL)→K v H'):VCall tbl lim 68 [.agg vs] H K:=by
  obtain ⟨va,vb,vp,vx,vq,rfl,h1,h2,h3,h4,h5⟩:=hn.ex
  have hns:=hok.ns
  have hnu:=hok.nu
  have hsm:=hok.sm_ok
  have hsg:=sg_pr hnu
  have hl0:vlenS va=some (.int .i64 (nsN c.P)):=by rw [h1.len,upM_len]
  have hmk:=fun L=>mk_bools (H:=H) (L:=L) (n:=nsN c.P) (by omega)
  refine VCall_fn tbl_at68 rfl ?_
  simp [vf68,rd5_0,hl0,hmk]
  refine wLoop_up (nsN c.P) (fun i fr L H'=>∃M u us,(fr 1=.lp 0 0∧fr 3=.sl H.length 0 (nsN c.P) 1∧fr 4=u∧fr 5=.int .i64 i)∧L=[[va,vb,vp,vx,vq]]∧M.length=nsN c.P∧LqS H.length H M u us ((frsA c i).map fun f=>natL (lpP c f)) .snil [] H'∧∀k:Nat,M.getD k false=true↔∃r,r∈frsA c i∧k∈lpP c r) ⟨List.replicate (nsN c.P) false,.snil,[],by simp,rfl,by simp,⟨⟨_,rfl⟩,rfl,by simp,.nil,by simp [frsA],fun i hi=>(by simp at hi),.nil,fun i hi=>(by simp at hi),fun b o z y o' z' y' e _=>(by cases e),fun i hi=>(by simp at hi)⟩,fun k => ?_⟩ ?_
  · have:(List.replicate (nsN c.P) false).getD k false=false:=by
      simp only [List.getD_eq_getElem?_getD,List.getElem?_replicate];split<;>rfl
    simp [this,frsA]
  rintro i hi fr L H1 ⟨M,u,us,⟨f1,f3,f4,f5⟩,rfl,hml,hS,hM⟩
  simp [f1,f3,f4,f5]
  refine cond_dec (fun ht => ?_) fun hfl => ?_
  · have ht : i < nsN c.P:=by omega
    have x1:HX H H1:=hS.hx
    have ad:=rw_addr (b:=H.length) ht
    have ld:=bl_ld hS.b1 (x:=i) (by omega)
    have q5:=(h5.mono x1).up ht
    cases hlo:M.getD i false with
    | true =>
      have hnf:¬FrsP c i:=by
        intro hfr
        exact (seen_iff hok ht hfr.2).1 ((hM i).1 hlo) hfr
      rw [hlo] at ld
      simp (disch:=omega) [f1,f3,f4,f5,ad,ld,wrap_i64]
      rw [frs_no hnf]
      exact ⟨ht,M,hml,⟨_,hS⟩,hM⟩
    | false =>
      rw [hlo] at ld
      by_cases hf:alf (lsN c) i=i
      case neg =>
        have hnf:¬FrsP c i:=fun h=>hf h.2
        have e5:ptL (lsN c) i=(alf (lsN c) i:Nat):=by rw [ptL,if_neg hf]
        rw [e5] at q5
        generalize alf (lsN c) i=p at *
        have dn:((0:Int)≤(p:Int))=True:=eq_true (by omega)
        simp (disch:=omega) [f1,f3,f4,f5,ad,ld,rd5_4,q5.1,q5.2,dn,wrap_i64]
        rw [frs_no hnf]
        exact ⟨ht,M,hml,⟨_,hS⟩,hM⟩
      have e5:ptL (lsN c) i = -1:=by rw [ptL,if_pos hf]
      rw [e5] at q5
      have hsn:=(hM i).trans (seen_iff hok ht hf)
      have hfr:FrsP c i:=by
        apply Classical.byContradiction
        intro hn
        have:=hsn.2 hn
        rw [hlo] at this;cases this
      simp [f1,f3,f4,f5,ad,ld,rd5_4,q5.1,q5.2]
      obtain ⟨p1,⟨p2,p3⟩,p4⟩:=per_spec hsg ht
      have hlp:lpP c i=lpN (nsN c.P) (sgN (nsN c.P) (nxN c.P) (lsN c)) i:=rfl
      have hlall:=lpL_all (c:=c) (f:=i)
      generalize hm:perN (nsN c.P) (sgN (nsN c.P) (nxN c.P) (lsN c)) i=m at *
      refine wLoop_up m (fun j fr L H'=>∃M' cv,(fr 1=.lp 0 0∧fr 3=.sl H.length 0 (nsN c.P) 1∧fr 4=u∧fr 5=.int .i64 i∧fr 6=cv∧fr 7=.int .i64 (itN (sgN (nsN c.P) (nxN c.P) (lsN c)) j i:Nat))∧L=[[va,vb,vp,vx,vq]]∧M'.length=nsN c.P∧LqS H.length H M' u us ((frsA c i).map fun f=>natL (lpP c f)) cv (lpL c i j) H'∧∀k:Nat,M'.getD k false=true↔M.getD k false=true∨∃t,t<j∧k=itN (sgN (nsN c.P) (nxN c.P) (lsN c)) t i) ⟨M,.snil,by simp [f1,f3,f4,f5,itN],rfl,hml,by simpa [lpL] using hS,fun k=>by simp⟩ ?_
      clear f1 f3 f4 f5 ad ld hlo q5 x1 fr
      rintro j hj fr L H2 ⟨M',cv,⟨f1,f3,f4,f5,f6,f7⟩,rfl,hml2,hS2,hM2⟩
      have hq:=hsg.it ht j
      have hqf:=sg_stays hnu hf (hsg.orb ht j)
      have ad:=rw_addr (b:=H.length) hq
      have ld:=bl_ld hS2.b1 (x:=itN (sgN (nsN c.P) (nxN c.P) (lsN c)) j i) (by omega)
      have hsee:=hM2 (itN (sgN (nsN c.P) (nxN c.P) (lsN c)) j i)
      by_cases hjm:j=m
      · have hseen:M'.getD (itN (sgN (nsN c.P) (nxN c.P) (lsN c)) j i) false=true:=by
          rw [hsee];right;exact ⟨0,by omega,by rw [hjm,p3];rfl⟩
        rw [hseen] at ld
        subst hjm
        obtain ⟨u2,H3,b1,hS3⟩:=hS2.pushU (lim:=lim) hlim (by
          have h1:=hS2.len
          rw [List.length_map] at h1
          have h2:(frsA c i).length≤i:=by
            unfold frsA;exact Nat.le_trans (List.length_filter_le _ _) (by simp)
          omega)
        simp (disch:=omega) [f1,f3,f4,f5,f6,f7,ad,ld,hS2.ow.sl.stor,hS2.ow.sl.one,splice,b1,wrap_i64]
        refine ⟨ht,M',hml2,⟨us++[cv],?_⟩,fun k => ?_⟩
        · rw [frs_yes hfr,List.map_append,List.map_cons,List.map_nil,←hlall]
          exact hS3
        · rw [hM2 k,hM k,frs_yes hfr]
          constructor
          · rintro (⟨r,h1,h2⟩ | ⟨t,h1,h2⟩)
            · exact ⟨r,List.mem_append_left _ h1,h2⟩
            · refine ⟨i,by simp,?_⟩
              rw [hlp,lp_mem hsg ht,h2]
              exact hsg.orb ht t
          · rintro ⟨r,h1,h2⟩
            rcases List.mem_append.1 h1 with h1 | h1
            · exact Or.inl ⟨r,h1,h2⟩
            · rw [List.mem_singleton] at h1
              subst h1
              right
              rw [hlp,lpN,hm] at h2
              obtain ⟨t,h3,h4⟩:=List.mem_map.1 h2
              exact ⟨t,List.mem_range.1 h3,h4.symm⟩
      · have hlt:j<m:=by omega
        have hseen:M'.getD (itN (sgN (nsN c.P) (nxN c.P) (lsN c)) j i) false=false:=by
          cases hb:M'.getD (itN (sgN (nsN c.P) (nxN c.P) (lsN c)) j i) false with
          | false=>rfl
          | true =>
            rcases hsee.1 hb with h | ⟨t,h1,h2⟩
            · obtain ⟨r,h1,h2⟩:=(hM _).1 h
              obtain ⟨r1,r2,r3⟩:=mem_frs.1 h1
              rw [lpP,lp_mem hsg (by omega)] at h2
              exact absurd (hsg.eqv.tr (hsg.orb ht j) (hsg.eqv.sy h2)) (hfr.1 r r1)
            · have:=hsg.back ht t (j-t) (by rw [show t+(j-t)=j by omega];exact h2)
              exact absurd ⟨by omega,this⟩ (p4 (j-t) (by omega))
        rw [hseen] at ld
        have hnx:itN (sgN (nsN c.P) (nxN c.P) (lsN c)) (j+1) i=sgN (nsN c.P) (nxN c.P) (lsN c) (itN (sgN (nsN c.P) (nxN c.P) (lsN c)) j i):=rfl
        generalize hqe:itN (sgN (nsN c.P) (nxN c.P) (lsN c)) j i=q at *
        have hsd:=sg_def hok hqf
        have st:=bl_st (lim:=lim) (y:=true) hS2.b1 hlim (x:=q) (by omega)
        have hS3:=hS2.put (k:=q)
        generalize hH3:H2.set H.length (.row (boolL (M'.set q true)) true)=H3 at *
        obtain ⟨cv2,H4,b1,hS4⟩:=hS3.pushC (lim:=lim) (x:=(q:Int)) hlim (by rw [lpL_len];omega)
        have hb4:=hS4.big
        have x4:HX H H4:=hS4.hx
        have q4:=(h4.mono x4).up hq
        have e4:nxN c.P q=nuP c q:=by
          show _=nxN c.P (alf (lsN c) q)
          rw [hqf]
        simp only [e4] at q4
        simp [f1,f3,f4,f5,f6,f7,ad,ld,st,b1,rd5_3,q4.1,q4.2,-vstore]
        have hc0:nuP c q<nsN c.P:=hnu.lt q hq
        obtain ⟨w1,w2,w3⟩:=rn_spec hnu hc0
        refine wLoop_up (rnN (nsN c.P) (nxN c.P) (lsN c) (nuP c q)) (fun t fr L H'=>(fr 1=.lp 0 0∧fr 3=.sl H.length 0 (nsN c.P) 1∧fr 4=u∧fr 5=.int .i64 i∧fr 6=cv2∧fr 7=.int .i64 (itN (nuP c) t (nuP c q):Nat))∧L=[[va,vb,vp,vx,vq]]∧H'=H4) ⟨by simp [f1,f3,f4,f5,itN],rfl,rfl⟩ ?_
        clear f1 f3 f4 f5 f6 f7 ad ld st q4 fr
        rintro t htr fr L H5 ⟨⟨f1,f3,f4,f5,f6,f7⟩,rfl,rfl⟩
        have hqt:=hnu.it hc0 t
        have q5:=(h5.mono x4).up hqt
        by_cases htl:t=rnN (nsN c.P) (nxN c.P) (lsN c) (nuP c q)
        · subst htl
          have hfe:alf (lsN c) (itN (nuP c) (rnN (nsN c.P) (nxN c.P) (lsN c) (nuP c q)) (nuP c q))=itN (nuP c) (rnN (nsN c.P) (nxN c.P) (lsN c) (nuP c q)) (nuP c q):=by
            have:=sg_free hnu hq hqf
            rw [hsd] at this;exact this
          have e5:ptL (lsN c) (itN (nuP c) (rnN (nsN c.P) (nxN c.P) (lsN c) (nuP c q)) (nuP c q)) = -1:=by rw [ptL,if_pos hfe]
          rw [e5] at q5
          rw [←hsd] at f7 q5
          generalize hsq:sgN (nsN c.P) (nxN c.P) (lsN c) q=sq at *
          simp [f1,f3,f4,f5,f6,f7,rd5_4,q5.1,q5.2]
          refine ⟨hlt,M'.set q true,cv2,⟨rfl,?_⟩,by simp [hml2],?_,fun k => ?_⟩
          · rw [hnx]
          · rw [lpL_snoc,hqe];exact hS4
          · rw [getD_setX (by omega)]
            by_cases e:k=q
            · subst e
              rw [if_pos rfl]
              simp only [true_iff]
              exact Or.inr ⟨j,by omega,hqe.symm⟩
            · rw [if_neg e,hM2 k]
              constructor
              · rintro (h | ⟨t,h1,h2⟩)
                · exact Or.inl h
                · exact Or.inr ⟨t,by omega,h2⟩
              · rintro (h | ⟨t,h1,h2⟩)
                · exact Or.inl h
                · rcases Nat.lt_or_ge t j with h3 | h3
                  · exact Or.inr ⟨t,h3,h2⟩
                  · have:t=j:=by omega
                    subst this
                    rw [hqe] at h2
                    exact absurd h2 e
        · have htl':t<rnN (nsN c.P) (nxN c.P) (lsN c) (nuP c q):=by omega
          have hne:alf (lsN c) (itN (nuP c) t (nuP c q))≠itN (nuP c) t (nuP c q):=(w3 t htl').1
          have hal:=hsm.pr.lt _ hqt
          have e5:ptL (lsN c) (itN (nuP c) t (nuP c q))=(alf (lsN c) (itN (nuP c) t (nuP c q)):Nat):=by rw [ptL,if_neg hne]
          rw [e5] at q5
          have q4:=(h4.mono x4).up hal
          have e4:nxN c.P (alf (lsN c) (itN (nuP c) t (nuP c q)))=itN (nuP c) (t+1) (nuP c q):=rfl
          simp only [e4] at q4
          generalize itN (nuP c) (t+1) (nuP c q)=z1 at *
          generalize itN (nuP c) t (nuP c q)=z0 at *
          generalize alf (lsN c) z0=p at *
          have dn:((0:Int)≤(p:Int))=True:=eq_true (by omega)
          simp [f1,f3,f4,f5,f6,f7,rd5_3,rd5_4,q5.1,q5.2,q4.1,q4.2,dn]
          exact htl'
  · have:i=nsN c.P:=by omega
    subst this
    simp [f4,hS.ou.lst.stor]
    refine hK _ _ hS.hx ⟨us,hS.ou.le (by omega),?_,fun i hi => ?_⟩
    · rw [hS.len,frs_all,List.length_map,List.length_map,loopP,loopsN,List.length_map]
    · have e:(loopP c).map natL=(frsA c (nsN c.P)).map fun f=>natL (lpP c f):=by
        rw [frs_all,loopP,loopsN,List.map_map];rfl
      rw [e] at hi ⊢
      exact (hS.oc i (by rw [hS.len];exact hi)).le (by omega)
end
end Go.Proofs.Ytclghkegfpcdpaa.Vm
namespace Go.Proofs.Ytclghkegfpcdpaa.Vm
open Go
set_option maxRecDepth 100000
set_option maxHeartbeats 1000000
set_option linter.unusedSimpArgs false
set_option linter.unusedVariables false
attribute [-simp] List.getD_eq_getElem?_getD Bool.exists_bool
section
variable {n lim:Nat}{H H0 H':Hp}{K:V→Hp→Prop}{v w:V}{ws vs:List V}{c:Cp}
theorem ShortC.vb (hsh:ShortC c):c.P.length≤1000000∧c.S.length≤1000000∧∀q,q<c.P.length→(c.P.getD q default).s.length≤100000 :=
  ⟨by have:=hsh.np;omega,by have:=hsh.ns;omega,fun q hq=>by have:=(hsh.pc q hq).1;omega⟩
theorem PtlV.le {m:Nat}{q:List Ptt}(h:PtlV m H v q)(hnm:n≤m):PtlV n H v q:=by
  obtain ⟨pts,o1,o2,o3⟩:=h.ex
  exact ⟨⟨pts,o1.le hnm,o2,fun i hi=>⟨(o3 i hi).1,(o3 i hi).2.1,(o3 i hi).2.2.1,(o3 i hi).2.2.2.le hnm⟩⟩⟩
theorem PtlV.mono {q:List Ptt}(hx:HX H H')(h:PtlV n H v q):PtlV n H' v q:=by
  obtain ⟨pts,o1,o2,o3⟩:=h.ex
  exact ⟨⟨pts,o1.mono hx,o2,fun i hi=>⟨(o3 i hi).1,(o3 i hi).2.1,(o3 i hi).2.2.1,(o3 i hi).2.2.2.mono hx⟩⟩⟩
theorem PtlV.nil:PtlV n H .snil []:=⟨⟨[],.nil,rfl,fun i hi=>by simp at hi⟩⟩
theorem LlsV.le {m:Nat}{q:List (List Int)}(h:LlsV m H v q)(hnm:n≤m):LlsV n H v q:=by
  obtain ⟨us,o1,o2,o3⟩:=h.ex
  exact ⟨⟨us,o1.le hnm,o2,fun i hi=>(o3 i hi).le hnm⟩⟩
theorem LlsV.mono {q:List (List Int)}(hx:HX H H')(h:LlsV n H v q):LlsV n H' v q:=by
  obtain ⟨us,o1,o2,o3⟩:=h.ex
  exact ⟨⟨us,o1.mono hx,o2,fun i hi=>(o3 i hi).mono hx⟩⟩
theorem LlsV.nil:LlsV n H .snil []:=⟨⟨[],.nil,rfl,fun i hi=>by simp at hi⟩⟩
theorem r02_Points (hc:CapV H ws c)(hsh:ShortC c)(hlim:lim≤H.length)(hK:∀H' v,HX H H'→(capE c=0→PtlV H.length H' v (ptsP c))→(capE c≠0→v=.snil)→K (.tup [v,.int .i64 (capE c)]) H'):VCall tbl lim 22 [.agg ws] H K:=by
  obtain ⟨pv,sv,ps,rfl,hp,hs,z1,z2,z3,z4⟩:=hc.form
  refine VCall_fn tbl_at22 rfl ?_
  simp [vf22,z1,z2,z3,z4,rdA3]
  refine r02_Validate hc hsh.vb ?_
  by_cases he:capE c=0
  case neg =>
    have:=hK H .snil .refl (fun h=>absurd h he) (fun _=>rfl)
    simp [he,z1,z2,z3,z4]
    exact this
  have hok:=capE_ok.1 he
  simp [he,rdA3,z1,z2,z3,z4]
  refine r02_open hc hok hlim fun H2 vs x2 hn => ?_
  replace x2:HX H H2:=x2
  have l2:=x2.len
  simp
  refine r02_points hn hok (by omega) fun H3 v x3 hv => ?_
  replace x3:HX H2 H3:=x3
  have:=hK H3 v (x2.trans x3) (fun _=>hv.le (by omega)) (fun h=>absurd he h)
  obtain ⟨pts,o1,o2,o3⟩:=hv.ex
  rw [he] at this
  simp [o1.lst.stor]
  exact this
theorem r02_Parts (hc:CapV H ws c)(hsh:ShortC c)(hlim:lim≤H.length)(hK:∀H',HX H H'→K (.tup [.int .i64 (if capE c=0 then (partP c:Int) else 0),.int .i64 (capE c)]) H'):VCall tbl lim 26 [.agg ws] H K:=by
  obtain ⟨pv,sv,ps,rfl,hp,hs,z1,z2,z3,z4⟩:=hc.form
  refine VCall_fn tbl_at26 rfl ?_
  simp [vf26,z1,z2,z3,z4,rdA3]
  refine r02_Validate hc hsh.vb ?_
  by_cases he:capE c=0
  case neg =>
    have:=hK H .refl
    rw [if_neg he] at this
    simp [he,z1,z2,z3,z4]
    exact this
  have hok:=capE_ok.1 he
  simp [he,rdA3,z1,z2,z3,z4]
  refine r02_open hc hok (Nat.le_refl _) fun H2 vs x2 hn => ?_
  replace x2:HX H H2:=x2
  have l2:=x2.len
  simp [rd0,rdA3,hp.vlen]
  refine r02_parts hn hok (Nat.le_refl _) fun H3 x3 => ?_
  replace x3:HX H2 H3:=x3
  have:=hK H3 (x2.trans x3)
  rw [if_pos he,he] at this
  simp
  exact this
theorem r02_euler (hc:CapV H ws c)(hok:CapOk c)(hlim:lim≤H.length)(hK:∀H',HX H H'→K (.int .i64 (eulP c)) H'):VCall tbl lim 66 [.agg ws] H K:=by
  obtain ⟨pv,sv,ps,rfl,hp,hs,z1,z2,z3,z4⟩:=hc.form
  refine VCall_fn tbl_at66 rfl ?_
  simp [vf66,z1,z2,z3,z4,rdA3]
  refine r02_open hc hok hlim fun H2 vs x2 hn => ?_
  replace x2:HX H H2:=x2
  have l2:=x2.len
  have hn0:=hn
  obtain ⟨va,vb,vp,vx,vq,rfl,h1,h2,h3,h4,h5⟩:=hn.ex
  simp [splice,rdA5]
  refine r02_points hn0 hok (Nat.le_refl _) fun H3 v x3 hv => ?_
  replace x3:HX H2 H3:=x3
  obtain ⟨pts,o1,o2,o3⟩:=hv.ex
  have:=hK H3 (x2.trans x3)
  have hv1:vlenS v=some (.int .i64 (ptsP c).length):=by rw [←o2];exact o1.lst.len
  have hv2:vlenS va=some (.int .i64 (nsN c.P)):=by rw [h1.len,upM_len]
  have b1:=pts_le (c:=c)
  have b2:=hok.ns
  have b3:=ls_bd hok
  have b4:=hok.np
  have e1:((ptsP c).length:Int)-((nsN c.P:Int)-(c.S.length:Int))+(c.P.length:Int)=eulP c:=rfl
  simp (disch:=omega) [hv1,hv2,rd0,rd1',rd5_0,hp.vlen,hs.len,wrap_i64,e1]
  exact this
theorem r02_Euler (hc:CapV H ws c)(hsh:ShortC c)(hlim:lim≤H.length)(hK:∀H',HX H H'→K (.tup [.int .i64 (if capE c=0 then eulP c else 0),.int .i64 (capE c)]) H'):VCall tbl lim 27 [.agg ws] H K:=by
  obtain ⟨pv,sv,ps,rfl,hp,hs,z1,z2,z3,z4⟩:=hc.form
  refine VCall_fn tbl_at27 rfl ?_
  simp [vf27,z1,z2,z3,z4,rdA3]
  refine r02_Validate hc hsh.vb ?_
  by_cases he:capE c=0
  case neg =>
    have:=hK H .refl
    rw [if_neg he] at this
    simp [he,z1,z2,z3,z4]
    exact this
  have hok:=capE_ok.1 he
  simp [he,rdA3,z1,z2,z3,z4]
  refine r02_euler hc hok hlim fun H2 x2 => ?_
  replace x2:HX H H2:=x2
  have:=hK H2 x2
  rw [if_pos he,he] at this
  simp
  exact this
theorem r02_handles (hc:CapV H ws c)(hok:CapOk c)(hlim:lim≤H.length)(hK:∀H',HX H H'→K (.int .i64 (handP c)) H'):VCall tbl lim 67 [.agg ws] H K:=by
  obtain ⟨pv,sv,ps,rfl,hp,hs,z1,z2,z3,z4⟩:=hc.form
  refine VCall_fn tbl_at67 rfl ?_
  simp [vf67,z1,z2,z3,z4,rdA3]
  refine r02_open hc hok hlim fun H2 vs x2 hn => ?_
  replace x2:HX H H2:=x2
  have l2:=x2.len
  have hn0:=hn
  obtain ⟨va,vb,vp,vx,vq,rfl,h1,h2,h3,h4,h5⟩:=hn.ex
  simp [splice,rdA5,rd0,hp.vlen]
  refine r02_parts hn0 hok (Nat.le_refl _) fun H3 x3 => ?_
  replace x3:HX H2 H3:=x3
  have l3:=x3.len
  have b1:=pts_le (c:=c)
  have b2:=hok.ns
  have b3:=ls_bd hok
  have b4:=hok.np
  have b5:=part_le (c:=c)
  have b6:=loop_le (c:=c)
  have e1:eulP c=((ptsP c).length:Int)-((nsN c.P:Int)-(c.S.length:Int))+(c.P.length:Int):=rfl
  have e2:(2*(partP c:Int)-eulP c-((loopP c).length:Int)).tdiv 2=handP c:=rfl
  simp (disch:=omega) [rdA3,z1,z2,z3,z4,wrap_i64]
  refine r02_euler (hc.mono (x2.trans x3)) hok (Nat.le_refl _) fun H4 x4 => ?_
  replace x4:HX H3 H4:=x4
  have l4:=x4.len
  simp (disch:=omega) [rdA5,wrap_i64]
  refine r02_loops (hn0.mono (x3.trans x4)) hok (Nat.le_refl _) fun H5 v x5 hv => ?_
  replace x5:HX H4 H5:=x5
  obtain ⟨us,o1,o2,o3⟩:=hv.ex
  have hvl:vlenS v=some (.int .i64 (loopP c).length):=by rw [o1.lst.len,o2,List.length_map]
  obtain ⟨g,g1,g2,_⟩:=handles_ex hok
  have hw:IntKind.wrap .i64 (handP c)=handP c:=wrap_i64 (by omega) (by omega)
  have:=hK H5 ((x2.trans x3).trans (x4.trans x5))
  simp (disch:=omega) [hvl,wrap_i64,e2,hw]
  exact this
theorem r02_Handles (hc:CapV H ws c)(hsh:ShortC c)(hlim:lim≤H.length)(hK:∀H',HX H H'→K (.tup [.int .i64 (if capE c=0 then handP c else 0),.int .i64 (capE c)]) H'):VCall tbl lim 29 [.agg ws] H K:=by
  obtain ⟨pv,sv,ps,rfl,hp,hs,z1,z2,z3,z4⟩:=hc.form
  refine VCall_fn tbl_at29 rfl ?_
  simp [vf29,z1,z2,z3,z4,rdA3]
  refine r02_Validate hc hsh.vb ?_
  by_cases he:capE c=0
  case neg =>
    have:=hK H .refl
    rw [if_neg he] at this
    simp [he,z1,z2,z3,z4]
    exact this
  have hok:=capE_ok.1 he
  simp [he,rdA3,z1,z2,z3,z4]
  refine r02_handles hc hok hlim fun H2 x2 => ?_
  replace x2:HX H H2:=x2
  have:=hK H2 x2
  rw [if_pos he,he] at this
  simp
  exact this
theorem r02_Missing (hc:CapV H ws c)(hsh:ShortC c)(hlim:lim≤H.length)(hK:∀H',HX H H'→K (.tup [.int .i64 (if capE c=0 then missP c else 0),.int .i64 (capE c)]) H'):VCall tbl lim 28 [.agg ws] H K:=by
  obtain ⟨pv,sv,ps,rfl,hp,hs,z1,z2,z3,z4⟩:=hc.form
  refine VCall_fn tbl_at28 rfl ?_
  simp [vf28,z1,z2,z3,z4,rdA3]
  refine r02_Points hc hsh hlim fun H1 v x1 hv hn => ?_
  replace x1:HX H H1:=x1
  have hres:=hK H1 x1
  by_cases he:capE c=0
  case neg =>
    have hv:=hn he
    subst hv
    rw [if_neg he] at hres
    simp
    refine wLoop_round ?_
    simp
    exact hres
  have hok:=capE_ok.1 he
  obtain ⟨pts,o1,o2,o3⟩:=(hv he).ex
  have hvl:vlenS v=some (.int .i64 (ptsP c).length):=by rw [←o2];exact o1.lst.len
  have b1:=pts_le (c:=c)
  have b2:=hok.ns
  rw [if_pos he] at hres
  simp [hvl]
  refine wLoop_up (ptsP c).length (fun i fr L H'=>(fr 4=v∧fr 5=.int .i64 (capE c)∧fr 6=.int .i64 (msUp c i)∧fr 7=.int .i64 i)∧H'=H1) ⟨by simp [msUp],rfl⟩ ?_
  rintro i hi fr L H2 ⟨⟨f4,f5,f6,f7⟩,rfl⟩
  simp [f4,f5,f6,f7,hvl]
  refine cond_dec (fun ht => ?_) fun hfl => ?_
  · have ht:i<(ptsP c).length:=by omega
    have ad:=o1.lst.at (i:=i) (by omega)
    have fa:vfaddr 3 (ept 4 v i)=some (eptf 4 v i 3):=o1.lst.faddr (by omega)
    have ld:∀L,vload none L H2 (eptf 4 v i 3)=some (.int .i64 (pts.getD i default).d):=fun L=>o1.lst.rd1 (by omega) (by omega)
    obtain ⟨q1,q2,q3,q4⟩:=o3 i ht
    have hb1:=msUp_bd hok (i:=i) (by omega)
    have hb2:=msUp_bd hok (i:=i+1) (by omega)
    have hsn:=msUp_snoc ht
    rw [q3] at ld
    have hw:IntKind.wrap .i64 (msUp c i+((ptsP c).getD i default).df)=msUp c (i+1):=by rw [←hsn];exact wrap_i64 (by omega) (by omega)
    simp (disch:=omega) [f4,f5,f6,f7,ad,fa,ld,hw,wrap_i64]
    exact ht
  · have:i=(ptsP c).length:=by omega
    subst this
    have hall:msUp c (ptsP c).length=missP c:=by
      unfold msUp missP;rw [List.take_of_length_le (by simp)]
    rw [hall] at f6
    simp [f4,f5,f6,f7]
    exact hres
end
end Go.Proofs.Ytclghkegfpcdpaa.Vm
namespace Go.Proofs.Ytclghkegfpcdpaa.Vm
open Go
set_option maxRecDepth 100000
set_option maxHeartbeats 1000000
set_option linter.unusedSimpArgs false
set_option linter.unusedVariables false
attribute [-simp] List.getD_eq_getElem?_getD Bool.exists_bool
section
variable {n m lim:Nat}{H H0 H':Hp}{K:V→Hp→Prop}{v w:V}{ws vs:List V}{c:Cp}
theorem law_CapMisses (ha:CapA H ws c)(hlim:lim≤H.length)(hK:∀H',K (.bool true) H'):VCall tbl lim 6 [.agg ws] H K:=by
  have hc:=ha.cap
  obtain ⟨pv,sv,ps,rfl,hp,hs,z1,z2,z3,z4⟩:=hc.form
  refine VCall_fn tbl_at6 rfl ?_
  simp [vf6,z1,z2,z3,z4,rdA3]
  refine l02_Long hc ?_
  cases hl:longB c with
  | true =>
    simp
    refine cp_known hlim fun H' _ => ?_
    simp
    exact hK _
  | false =>
  have hsh:=short_of hl
  have s2:=hsh.ns
  simp [rdA3,z1,z2,z3,z4]
  refine l02_measure hc (by omega) hlim fun H1 x1 => ?_
  replace x1:HX H H1:=x1
  have l1:=x1.len
  obtain ⟨m1,m2,m3,m4,m5,hm⟩:∃m1 m2 m3 m4 m5,measL c=[.int .i64 m1,.int .i64 m2,.int .i64 m3,.int .i64 m4,.int .i64 m5]∧m1=(if capE c=0 then (partP c:Int) else 0)∧m2=(if capE c=0 then eulP c else 0)∧m3=(if capE c=0 then missP c else 0)∧m4=(if capE c=0 then handP c else 0)∧m5=capE c∧m3=360*m2∧0≤m4∧-100000≤m2∧m2≤100000:=by
    unfold measL
    by_cases he:capE c=0
    · have hok:=capE_ok.1 he
      obtain ⟨g,_,g2,_⟩:=handles_ex hok
      have b1:=pts_le (c:=c)
      have b2:=hok.ns
      have b3:=ls_bd hok
      have b4:=hok.np
      have e1:eulP c=((ptsP c).length:Int)-((nsN c.P:Int)-(c.S.length:Int))+(c.P.length:Int):=rfl
      rw [if_pos he,if_pos he,if_pos he,if_pos he,if_pos he]
      exact ⟨_,_,_,_,_,rfl,rfl,rfl,rfl,rfl,he.symm,miss_euler hok,by omega,by omega,by omega⟩
    · rw [if_neg he,if_neg he,if_neg he,if_neg he,if_neg he]
      exact ⟨_,_,_,_,_,rfl,rfl,rfl,rfl,rfl,rfl,by omega,by omega,by omega,by omega⟩
  obtain ⟨hm,n1,n2,n3,n4,n5,k1,k2,k3,k4⟩:=hm
  rw [hm]
  simp [splice,zs5,rdA3,z1,z2,z3,z4]
  refine r02_Parts (hc.mono x1) hsh (by omega) fun H2 x2 => ?_
  replace x2:HX H1 H2:=x2
  have l2:=x2.len
  rw [←n1,←n5]
  simp [rdA3,z1,z2,z3,z4]
  refine r02_Euler (hc.mono (x1.trans x2)) hsh (by omega) fun H3 x3 => ?_
  replace x3:HX H2 H3:=x3
  have l3:=x3.len
  rw [←n2,←n5]
  simp [rdA3,z1,z2,z3,z4]
  refine r02_Missing (hc.mono ((x1.trans x2).trans x3)) hsh (by omega) fun H4 x4 => ?_
  replace x4:HX H3 H4:=x4
  have l4:=x4.len
  rw [←n3,←n5]
  simp [rdA3,z1,z2,z3,z4]
  refine r02_Handles (hc.mono ((x1.trans x2).trans (x3.trans x4))) hsh (by omega) fun H5 x5 => ?_
  replace x5:HX H4 H5:=x5
  have l5:=x5.len
  rw [←n4,←n5]
  clear n1 n2 n3 n4 n5
  have e5:veqA false [.int .i64,.int .i64,.int .i64,.int .i64,.int .i64] (.agg [.int .i64 m1,.int .i64 m2,.int .i64 m3,.int .i64 m4,.int .i64 m5]) (.agg [.int .i64 m1,.int .i64 m2,.int .i64 m3,.int .i64 m4,.int .i64 m5])=some (.bool true):=by simp [veqA,eqCells,eqCell]
  have d1:decide (m3=360*m2)=true:=decide_eq_true k1
  have d2:decide (0≤m4)=true:=decide_eq_true k2
  have d3:(0≤m4)=True:=eq_true k2
  subst k1
  simp (disch:=omega) [splice,rdA5,e5,rd5_1,rd5_2,rd5_3,wrap_i64,d2,d3]
  refine cp_known (by omega) fun H' _ => ?_
  simp
  exact hK _
end
end Go.Proofs.Ytclghkegfpcdpaa.Vm
