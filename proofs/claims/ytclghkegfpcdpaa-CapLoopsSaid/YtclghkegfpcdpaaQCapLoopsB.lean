/- Points over the machine: all points of a layout. -/
import Derived.Test.YtclghkegfpcdpaaQCapLoopsA
namespace Go.Proofs.Ytclghkegfpcdpaa.Vm
open Go
set_option maxRecDepth 100000
set_option maxHeartbeats 1000000
set_option linter.unusedSimpArgs false
set_option linter.unusedVariables false
attribute [-simp] List.getD_eq_getElem?_getD
section
variable {c:Cp}{k s:Nat}
open Classical in
noncomputable def repsA (c:Cp)(a b:Nat):List Nat:=((List.range a).filter fun k=>decide (StaN (nsN c.P) (nxN c.P) (lsN c) k))++((List.range b).filter fun k=>decide (LeE (PtR c) k∧InnN (nsN c.P) (nxN c.P) (lsN c) k))
end
structure PtsC (c:Cp)(R:List Nat)(pts:List Pnt)(cl:List (List Int)):Prop where
  len:pts.length=R.length
  lc:cl.length=R.length
  at':∀i,i<R.length→cl.getD i []=csP c (R.getD i 0)∧∃v,pts.getD i default=pntP c (R.getD i 0) (innB c (R.getD i 0)) v
theorem PtsC.snoc {c:Cp}{R:List Nat}{pts:List Pnt}{cl:List (List Int)}{r:Nat}{v:V}{b:Bool}(h:PtsC c R pts cl)(hb:b=innB c r):PtsC c (R++[r]) (pts++[pntP c r b v]) (cl++[csP c r]) where
  len:=by simp [h.len]
  lc:=by simp [h.lc]
  at' := fun i hi=>by
    rw [List.length_append,List.length_singleton] at hi
    by_cases hlt:i<R.length
    · rw [getD_lt hlt,getD_lt (l:=pts) (by rw [h.len];exact hlt),getD_lt (l:=cl) (by rw [h.lc];exact hlt)];exact h.at' i hlt
    · have:i=R.length:=by omega
      subst this
      rw [getD_last rfl,getD_last h.len.symm,getD_last h.lc.symm]
      exact ⟨rfl,v,by rw [hb]⟩
structure PtlV (n:Nat)(H:Hp)(v:V)(q:List Ptt):Prop where
  ex:∃pts,OwnT n pntC H v pts∧pts.length=q.length∧∀i,i<q.length→(pts.getD i default).i=(q.getD i default).inn∧(pts.getD i default).a=(q.getD i default).ang∧(pts.getD i default).d=(q.getD i default).df∧OwnV n H (pts.getD i default).v (natL (q.getD i default).cs)
def cfP (x y:Pnt):Int:=x.k-y.k
section
variable {n0 lim:Nat}{H H0 Hc H':Hp}{K:V→Hp→Prop}{lv u v:V}{M:List (Int×Bool)}{pts:List Pnt}{cl:List (List Int)}{c:Cp}{s:Nat}
end
end Go.Proofs.Ytclghkegfpcdpaa.Vm
namespace Go.Proofs.Ytclghkegfpcdpaa.Vm
open Go
set_option maxRecDepth 100000
set_option maxHeartbeats 1000000
set_option linter.unusedSimpArgs false
set_option linter.unusedVariables false
attribute [-simp] List.getD_eq_getElem?_getD
section
variable {c:Cp}{k s:Nat}
def sgP (c:Cp):Nat→Nat:=fun s=>s
noncomputable def sg (c:Cp)(s:Nat):Nat:=sgN (nsN c.P) (nxN c.P) (lsN c) s
def FrsP (c:Cp)(k:Nat):Prop:=LeE (Orb (nsN c.P) (sgN (nsN c.P) (nxN c.P) (lsN c))) k∧alf (lsN c) k=k
open Classical in
noncomputable def frsA (c:Cp)(b:Nat):List Nat:=(List.range b).filter fun k=>decide (FrsP c k)
theorem mem_frs {b r:Nat}:r∈frsA c b↔r<b∧FrsP c r:=by simp [frsA]
theorem frs_all:frsA c (nsN c.P)=firstsN (nsN c.P) (nxN c.P) (lsN c):=by
  unfold frsA firstsN minsE
  rw [List.filter_filter]
  refine List.filter_congr fun k _ => ?_
  rw [Bool.eq_iff_iff]
  simp only [decide_eq_true_eq,Bool.and_eq_true,freeN_iff]
  unfold FrsP
  exact ⟨fun h=>⟨h.2,h.1⟩,fun h=>⟨h.2,h.1⟩⟩
theorem frs_yes {b:Nat}(h:FrsP c b):frsA c (b+1)=frsA c b++[b]:=by
  unfold frsA
  rw [List.range_succ,List.filter_append]
  simp [h]
theorem frs_no {b:Nat}(h:¬FrsP c b):frsA c (b+1)=frsA c b:=by
  unfold frsA
  rw [List.range_succ,List.filter_append]
  simp [h]
noncomputable def lpP (c:Cp)(f:Nat):List Nat:=lpN (nsN c.P) (sgN (nsN c.P) (nxN c.P) (lsN c)) f
theorem seen_iff (hok:CapOk c)(hk:k<nsN c.P)(hf:alf (lsN c) k=k):(∃r,r∈frsA c k∧k∈lpP c r)↔¬FrsP c k:=by
  have hsg:=sg_pr hok.nu
  have hE:=hsg.eqv
  constructor
  · rintro ⟨r,hr,hm⟩ ⟨h1,h2⟩
    obtain ⟨r1,r2,r3⟩:=mem_frs.1 hr
    rw [lpP,lp_mem hsg (by omega)] at hm
    exact h1 r r1 (hE.sy hm)
  · intro h
    apply Classical.byContradiction
    intro hn
    refine h ⟨fun d hd he => ?_,hf⟩
    obtain ⟨a1,a2,a3⟩:=lowE_spec hE d
    have hfd:=sg_stays hok.nu hf (hE.tr he a2)
    exact hn ⟨_,mem_frs.2 ⟨by omega,a3,hfd⟩,by rw [lpP,lp_mem hsg (by omega)];exact hE.sy (hE.tr he a2)⟩
noncomputable def lpL (c:Cp)(f j:Nat):List Int:=(List.range j).map fun t=>((itN (sgN (nsN c.P) (nxN c.P) (lsN c)) t f:Nat):Int)
theorem lpL_snoc {f j:Nat}:lpL c f (j+1)=lpL c f j++[((itN (sgN (nsN c.P) (nxN c.P) (lsN c)) j f:Nat):Int)]:=by simp [lpL,List.range_succ]
theorem lpL_len {f j:Nat}:(lpL c f j).length=j:=by simp [lpL]
theorem lpL_all {f:Nat}:lpL c f (perN (nsN c.P) (sgN (nsN c.P) (nxN c.P) (lsN c)) f)=natL (lpP c f):=by
  rw [lpL,natL,lpP,lpN,List.map_map];rfl
end
def vC:Cod V 1:=⟨fun x=>[x],fun _=>rfl⟩
structure LpsS (n0:Nat)(H0:Hp)(M:List (Int×Bool))(u:V)(us:List V)(ls:List (List Int))(cv:V)(cur:List Int)(H:Hp):Prop where
  hx:HX H0 H
  hn:H0.length=n0
  b1:H[n0]? = some (.map (mE kI .bool M))
  ou:OwnT (n0+1) vC H u us
  len:us.length=ls.length
  oc:∀i,i<us.length→OwnV (n0+1) H (us.getD i dv) (ls.getD i [])
  ow:OwnV (n0+1) H cv cur
  ap:∀i,i<us.length→∀b o z y o' z' y',u=.sl b o z y→us.getD i dv=.sl b o' z' y'→False
  aw:∀b o z y o' z' y',u=.sl b o z y→cv=.sl b o' z' y'→False
  ac:∀i,i<us.length→∀b o z y o' z' y',cv=.sl b o z y→us.getD i dv=.sl b o' z' y'→False
section
variable {n0 lim:Nat}{H H0 H':Hp}{K:V→Hp→Prop}{lv u cv v:V}{M M':List (Int×Bool)}{us:List V}{ls:List (List Int)}{cur:List Int}{c:Cp}{s:Nat}
theorem LpsS.big (h:LpsS n0 H0 M u us ls cv cur H):n0+1≤H.length:=(List.getElem?_eq_some_iff.1 h.b1).1
theorem LpsS.move (h:LpsS n0 H0 M u us ls cv cur H)(ho:OthM n0 H H')(hm:H'[n0]? = some (.map (mE kI .bool M'))):LpsS n0 H0 M' u us ls cv cur H' where
  hx:=HX.of (by have:=h.hx.len;have:=ho.1;omega) fun b hb=>by
    have:=h.hx.len
    have:=h.hn
    rw [ho.2 b (by omega) (by omega),h.hx.same hb]
  hn:=h.hn
  b1:=hm
  ou:=h.ou.keepB fun b o m z e=>by have:=h.ou.belowB _ _ _ _ e;exact ho.2 b (by omega) (by omega)
  len:=h.len
  oc:=fun i hi=>(h.oc i hi).keepB fun b o m z e=>by have:=(h.oc i hi).belowB _ _ _ _ e;exact ho.2 b (by omega) (by omega)
  ow:=h.ow.keepB fun b o m z e=>by have:=h.ow.belowB _ _ _ _ e;exact ho.2 b (by omega) (by omega)
  ap:=h.ap
  aw:=h.aw
  ac:=h.ac
theorem LpsS.grow (h:LpsS n0 H0 M u us ls cv cur H)(hx:HX H H'):LpsS n0 H0 M u us ls cv cur H':=h.move ⟨hx.len,fun b hb _=>hx.same hb⟩ (hx.get h.b1)
theorem LpsS.put (h:LpsS n0 H0 M u us ls cv cur H){k:Int}:LpsS n0 H0 (putA k true M) u us ls cv cur (H.set n0 (.map (mE kI .bool (putA k true M)))) :=
  h.move ⟨by simp,fun b hb hne=>List.getElem?_set_ne (fun e=>hne e.symm)⟩ (List.getElem?_set_self h.big)
theorem LpsS.pushC (h:LpsS n0 H0 M u us ls cv cur H){x:Int}(hlim:lim≤n0)(hl:cur.length<1000000) :
    ∃cv' H',vappend lim 1 8 (H++[.row [.int .i64 x] true]) cv (.sl H.length 0 1 1)=some (cv',H')∧LpsS n0 H0 M u us ls cv' (cur++[x]) H':=by
  have hb:=h.big
  obtain ⟨v',H',a1,a2,a3,a4,a5,a6⟩:=h.ow.appendF (lim:=lim) (x:=x) ⟨by omega,by omega⟩ hl
  have bo:∀b,b<n0+1→∀o z y,cv≠.sl b o z y:=fun b hb o z y e=>by have:=h.ow.belowB _ _ _ _ e;omega
  have hh:=h.hn
  refine ⟨v',H',a1,⟨a3 _ h.hx (by omega),h.hn,(a5 n0 (by omega) (bo _ (by omega))).trans h.b1,h.ou.keepB fun b o m z e=>a5 b (h.ou.belowB _ _ _ _ e).2 fun o' z' y' e'=>h.aw _ _ _ _ _ _ _ e e',h.len,
    fun i hi=>(h.oc i hi).keepB fun b o m z e=>a5 b ((h.oc i hi).belowB _ _ _ _ e).2 fun o' z' y' e'=>h.ac i hi _ _ _ _ _ _ _ e' e,a2,h.ap,fun b o z y o' z' y' e e' => ?_,fun i hi b o z y o' z' y' e e' => ?_⟩⟩
  · have:=(h.ou.belowB _ _ _ _ e).2
    have:=a6 _ _ _ _ e'
    omega
  · have:=((h.oc i hi).belowB _ _ _ _ e').2
    have:=a6 _ _ _ _ e
    omega
theorem LpsS.pushU (h:LpsS n0 H0 M u us ls cv cur H)(hlim:lim≤n0)(hl:us.length<1000000) :
    ∃u' H',vappend lim 1 24 (H++[.row [cv] true]) u (.sl H.length 0 1 1)=some (u',H')∧LpsS n0 H0 M u' (us++[cv]) (ls++[cur]) .snil [] H':=by
  have hb:=h.big
  obtain ⟨v',H',a1,a2,a3,a4,a5,a6⟩:=h.ou.appendF2 (lim:=lim) (bytes:=24) (x:=cv) (cs:=[cv]) rfl ⟨by omega,by omega⟩ (by omega) hl
  have bo:∀b,b<n0+1→∀o z y,u≠.sl b o z y:=fun b hb o z y e=>by have:=h.ou.belowB _ _ _ _ e;omega
  have hh:=h.hn
  refine ⟨v',H',a1,⟨a3 _ h.hx (by omega),h.hn,(a5 n0 (by omega) (bo _ (by omega))).trans h.b1,a2,by simp [h.len],fun i hi => ?_,.nil,fun i hi b o z y o' z' y' e e' => ?_,fun b o z y o' z' y' _ e=>(by cases e),fun i hi b o z y o' z' y' e _=>(by cases e)⟩⟩
  · rw [List.length_append,List.length_singleton] at hi
    by_cases hlt:i<us.length
    · rw [getD_lt hlt,getD_lt (l:=ls) (by rw [←h.len];exact hlt)]
      exact (h.oc i hlt).keepB fun b o m z e=>a5 b ((h.oc i hlt).belowB _ _ _ _ e).2 fun o' z' y' e'=>h.ap i hlt _ _ _ _ _ _ _ e' e
    · have:i=us.length:=by omega
      subst this
      rw [getD_last rfl,getD_last h.len]
      exact h.ow.keepB fun b o m z e=>a5 b (h.ow.belowB _ _ _ _ e).2 fun o' z' y' e'=>h.aw _ _ _ _ _ _ _ e' e
  · rw [List.length_append,List.length_singleton] at hi
    have h6:=a6 _ _ _ _ e
    by_cases hlt:i<us.length
    · rw [getD_lt hlt] at e'
      have:=(h.oc i hlt).belowB _ _ _ _ e'
      omega
    · have:i=us.length:=by omega
      subst this
      rw [getD_last rfl] at e'
      have:=h.ow.belowB _ _ _ _ e'
      omega
structure LlsV (n:Nat)(H:Hp)(v:V)(q:List (List Int)):Prop where
  ex:∃us,OwnT n vC H v us∧us.length=q.length∧∀i,i<q.length→OwnV n H (us.getD i dv) (q.getD i [])
theorem after_sg (hok:CapOk c)(hs:s<nsN c.P)(hf:alf (lsN c) s=s)(hlv:LstV sdC H lv (layL c.P (lsN c)))(hlim:lim≤H.length)(hK:∀H',HX H H'→K (.int .i64 (sgN (nsN c.P) (nxN c.P) (lsN c) s:Nat)) H') :
    VCall tbl lim 92 [lv,.int .i64 s] H K:=by
  have hnu:=hok.nu
  have hns:=hok.ns
  have hc:nuP c s<nsN c.P:=hnu.lt s hs
  have e1:nuP c s=((layL c.P (lsN c)).getD s default).n.toNat:=by
    rw [layL_get hs]
    show nxN c.P (alf (lsN c) s)=_
    rw [hf];rfl
  obtain ⟨w1,w2,w3⟩:=walk_conds hok hc
  refine layout_after (n:=rnN (nsN c.P) (nxN c.P) (lsN c) (nuP c s)) hlv (lay_ok hok.sm_ok (by omega)) (by rw [layL_len];exact hs) e1 w2 w3 hlim fun H' hx => ?_
  have e2:wlk (layL c.P (lsN c)) (nuP c s) (rnN (nsN c.P) (nxN c.P) (lsN c) (nuP c s))=sgN (nsN c.P) (nxN c.P) (lsN c) s:=by
    rw [w1 _ (Nat.le_refl _),sgN,if_pos hf];rfl
  rw [e2]
  exact hK _ hx
theorem surf_loops (hok:CapOk c) (hlim:lim≤H.length) (hlv:LstV sdC H lv (layL c.P (lsN c))) (hK:∀H' v,HX H H'→LlsV H.length H' v ((loopP c).map natL)→K v H') :
    VCall tbl lim 62 [lv] H K:=by
  refine VCall_fn tbl_at62 rfl ?_
  have hns:=hok.ns
  have hnu:=hok.nu
  have hsg:=sg_pr hnu
  have hll:=layL_len (P:=c.P) (L:=lsN c)
  have hl0:vlenS lv=some (.int .i64 (nsN c.P)):=by rw [hlv.len,hll]
  simp [vf62,hl0]
  refine wLoop_up (nsN c.P) (fun i fr L H'=>∃M u us,(fr 0=lv∧fr 3=.mp H.length∧fr 4=u∧fr 10=.int .i64 (nsN c.P)∧fr 11=.int .i64 i)∧L=[]∧LpsS H.length H M u us ((frsA c i).map fun f=>natL (lpP c f)) .snil [] H'∧∀k:Nat,(look (k:Int) M).getD false=true↔∃r,r∈frsA c i∧k∈lpP c r) ⟨[],.snil,[],by simp,rfl,⟨⟨_,rfl⟩,rfl,by simp;rfl,.nil,by simp [frsA],fun i hi=>(by simp at hi),.nil,fun i hi=>(by simp at hi),fun b o z y o' z' y' e _=>(by cases e),fun i hi=>(by simp at hi)⟩,fun k=>by simp [look_nil,frsA]⟩ ?_
  rintro i hi fr L H1 ⟨M,u,us,⟨f0,f3,f4,f10,f11⟩,rfl,hS,hM⟩
  simp [f0,f3,f4,f10,f11]
  have hxl:=hlv.mono hS.hx
  refine cond_dec (fun ht => ?_) fun hfl => ?_
  · have ht : i < nsN c.P:=by omega
    have ad:=hxl.at (i:=i) (by rw [hll];exact ht)
    have fa:vfaddr 4 (ept 5 lv i)=some (eptf 5 lv i 4):=hxl.faddr (by rw [hll];exact ht)
    have ld:∀L,vload none L H1 (eptf 5 lv i 4)=some (.int .i64 (sdP c.P (lsN c) i).p):=fun L=>by
      rw [hxl.rd1 (by rw [hll];exact ht) (by omega),layL_get ht];rfl
    have hfree:=lay_free (P:=c.P) (L:=lsN c) ht
    rw [layL_get ht] at hfree
    have hg:vmget false [.int .i64] false (.bool false) H1 (.mp H.length) (.int .i64 (i:Int))=some (.bool ((look (i:Int) M).getD false)):=vmgetE (K:=kI) (vc:=V.bool) (a:=(i:Int)) (z:=false) hS.b1
    generalize (sdP c.P (lsN c) i).p=pp at *
    by_cases hp:pp = -1
    case neg =>
      have hnf:¬FrsP c i:=fun h=>hp (hfree.2 h.2)
      have hp':decide (pp = -1)=false:=decide_eq_false hp
      simp (disch:=omega) [f0,f3,f4,f10,f11,ad,fa,ld,hp,wrap_i64]
      rw [frs_no hnf]
      exact ⟨ht,_,⟨_,hS⟩,hM⟩
    subst hp
    have hf:alf (lsN c) i=i:=hfree.1 rfl
    have hsn:=(hM i).trans (seen_iff hok ht hf)
    cases hlo:(look (i:Int) M).getD false with
    | true =>
      have hnf:¬FrsP c i:=hsn.1 hlo
      rw [hlo] at hg
      simp (disch:=omega) [f0,f3,f4,f10,f11,ad,fa,ld,hg,wrap_i64]
      rw [frs_no hnf]
      exact ⟨ht,_,⟨_,hS⟩,hM⟩
    | false =>
      have hfr:FrsP c i:=by
        apply Classical.byContradiction
        intro hn
        have:=hsn.2 hn
        rw [hlo] at this;cases this
      rw [hlo] at hg
      simp [f0,f3,f4,f10,f11,ad,fa,ld,hg]
      obtain ⟨p1,⟨p2,p3⟩,p4⟩:=per_spec hsg ht
      have hlp:lpP c i=lpN (nsN c.P) (sgN (nsN c.P) (nxN c.P) (lsN c)) i:=rfl
      have hlall:=lpL_all (c:=c) (f:=i)
      generalize hm:perN (nsN c.P) (sgN (nsN c.P) (nxN c.P) (lsN c)) i=m at *
      refine wLoop_up m (fun j fr L H'=>∃M' cv,(fr 0=lv∧fr 3=.mp H.length∧fr 4=u∧fr 6=cv∧fr 7=.int .i64 (itN (sgN (nsN c.P) (nxN c.P) (lsN c)) j i:Nat)∧fr 10=.int .i64 (nsN c.P)∧fr 11=.int .i64 i)∧L=[]∧LpsS H.length H M' u us ((frsA c i).map fun f=>natL (lpP c f)) cv (lpL c i j) H'∧∀k:Nat,(look (k:Int) M').getD false=true↔(look (k:Int) M).getD false=true∨∃t,t<j∧k=itN (sgN (nsN c.P) (nxN c.P) (lsN c)) t i) ⟨M,.snil,by simp [f0,f3,f4,f10,f11,itN],rfl,by simpa [lpL] using hS,fun k=>by simp⟩ ?_
      clear f0 f3 f4 f10 f11 ad fa ld hg hxl hlo fr
      rintro j hj fr L H2 ⟨M',cv,⟨f0,f3,f4,f6,f7,f10,f11⟩,rfl,hS2,hM2⟩
      have hq:=hsg.it ht j
      have hqf:=sg_stays hnu hf (hsg.orb ht j)
      have hg:vmget false [.int .i64] false (.bool false) H2 (.mp H.length) (.int .i64 (itN (sgN (nsN c.P) (nxN c.P) (lsN c)) j i:Nat))=some (.bool ((look ((itN (sgN (nsN c.P) (nxN c.P) (lsN c)) j i:Nat):Int) M').getD false)):=vmgetE (K:=kI) (vc:=V.bool) (z:=false) hS2.b1
      have hsee:=hM2 (itN (sgN (nsN c.P) (nxN c.P) (lsN c)) j i)
      by_cases hjm:j=m
      · have hseen:(look ((itN (sgN (nsN c.P) (nxN c.P) (lsN c)) j i:Nat):Int) M').getD false=true:=by
          rw [hsee];right;exact ⟨0,by omega,by rw [hjm,p3];rfl⟩
        rw [hseen] at hg
        subst hjm
        obtain ⟨u2,H3,b1,hS3⟩:=hS2.pushU (lim:=lim) hlim (by
          have h1:=hS2.len
          rw [List.length_map] at h1
          have h2:(frsA c i).length≤i:=by
            unfold frsA;exact Nat.le_trans (List.length_filter_le _ _) (by simp)
          omega)
        simp (disch:=omega) [f0,f3,f4,f6,f7,f10,f11,hg,hS2.ow.sl.stor,hS2.ow.sl.one,splice,b1,wrap_i64]
        refine ⟨ht,M',⟨us++[cv],?_⟩,fun k => ?_⟩
        · rw [frs_yes hfr,List.map_append,List.map_cons,List.map_nil,←hlall]
          exact hS3
        · rw [hM2 k,hM k,frs_yes hfr]
          constructor
          · rintro (⟨r,h1,h2⟩ | ⟨t,h1,h2⟩)
            · exact ⟨r,List.mem_append_left _ h1,h2⟩
            · refine ⟨i,by simp,?_⟩
              rw [hlp,lp_mem hsg ht,h2]
              exact hsg.orb ht t
          · rintro ⟨r,h1,h2⟩
            rcases List.mem_append.1 h1 with h1 | h1
            · exact Or.inl ⟨r,h1,h2⟩
            · rw [List.mem_singleton] at h1
              subst h1
              right
              rw [hlp,lpN,hm] at h2
              obtain ⟨t,h3,h4⟩:=List.mem_map.1 h2
              exact ⟨t,List.mem_range.1 h3,h4.symm⟩
      · have hlt:j<m:=by omega
        have hseen:(look ((itN (sgN (nsN c.P) (nxN c.P) (lsN c)) j i:Nat):Int) M').getD false=false:=by
          cases hb:(look ((itN (sgN (nsN c.P) (nxN c.P) (lsN c)) j i:Nat):Int) M').getD false with
          | false=>rfl
          | true =>
            rcases hsee.1 hb with h | ⟨t,h1,h2⟩
            · obtain ⟨r,h1,h2⟩:=(hM _).1 h
              obtain ⟨r1,r2,r3⟩:=mem_frs.1 h1
              rw [lpP,lp_mem hsg (by omega)] at h2
              exact absurd (hsg.eqv.tr (hsg.orb ht j) (hsg.eqv.sy h2)) (hfr.1 r r1)
            · have:=hsg.back ht t (j-t) (by rw [show t+(j-t)=j by omega];exact h2)
              exact absurd ⟨by omega,this⟩ (p4 (j-t) (by omega))
        rw [hseen] at hg
        generalize hqe:itN (sgN (nsN c.P) (nxN c.P) (lsN c)) j i=q at *
        have hput:vmput lim false [.int .i64] H2 (.mp H.length) (.int .i64 (q:Int)) (.bool true)=some (H2.set H.length (.map (mE kI .bool (putA (q:Int) true M')))):=vmputE (K:=kI) (vc:=V.bool) (u:=true) hS2.b1 hlim rfl
        have hS3:=hS2.put (k:=(q:Int))
        generalize H2.set H.length (.map (mE kI .bool (putA (q:Int) true M')))=H3 at *
        obtain ⟨cv2,H4,b1,hS4⟩:=hS3.pushC (lim:=lim) (x:=(q:Int)) hlim (by rw [lpL_len];omega)
        have hb4:=hS4.big
        simp [f0,f3,f4,f6,f7,f10,f11,hg,hput,b1,hlv.stor]
        refine after_sg hok hq hqf (hlv.mono hS4.hx) (by omega) fun H5 x5 => ?_
        simp [f0,f3,f4,f6,f7,f10,f11]
        refine ⟨hlt,putA (q:Int) true M',cv2,⟨rfl,?_⟩,?_,fun k => ?_⟩
        · rw [←hqe];rfl
        · rw [lpL_snoc,hqe];exact hS4.grow x5
        · rw [look_put]
          by_cases e:(k:Int)=(q:Int)
          · have e':k=q:=by omega
            subst e'
            rw [if_pos rfl]
            simp only [Option.getD_some,true_iff]
            exact Or.inr ⟨j,by omega,hqe.symm⟩
          · rw [if_neg e,hM2 k]
            constructor
            · rintro (h | ⟨t,h1,h2⟩)
              · exact Or.inl h
              · exact Or.inr ⟨t,by omega,h2⟩
            · rintro (h | ⟨t,h1,h2⟩)
              · exact Or.inl h
              · rcases Nat.lt_or_ge t j with h3 | h3
                · exact Or.inr ⟨t,h3,h2⟩
                · have:t=j:=by omega
                  subst this
                  rw [hqe] at h2
                  exact absurd (by rw [h2]) e
  · have:i=nsN c.P:=by omega
    subst this
    simp [f4,hS.ou.lst.stor]
    refine hK _ _ hS.hx ⟨us,hS.ou.le (by omega),?_,fun i hi => ?_⟩
    · rw [hS.len,frs_all,List.length_map,List.length_map,loopP,loopsN,List.length_map]
    · have e:(loopP c).map natL=(frsA c (nsN c.P)).map fun f=>natL (lpP c f):=by
        rw [frs_all,loopP,loopsN,List.map_map];rfl
      rw [e] at hi ⊢
      exact (hS.oc i (by rw [hS.len];exact hi)).le (by omega)
end
end Go.Proofs.Ytclghkegfpcdpaa.Vm
namespace Go.Proofs.Ytclghkegfpcdpaa.Vm
open Go
set_option maxRecDepth 100000
set_option maxHeartbeats 1000000
set_option linter.unusedSimpArgs false
set_option linter.unusedVariables false
attribute [-simp] List.getD_eq_getElem?_getD
section
variable {c:Cp}
def dfL (c:Cp)(i:Nat):Int:=0
noncomputable def msUp (c:Cp)(i:Nat):Int:=(((ptsP c).map (·.df)).take i).sum
theorem ls_bd (hok:CapOk c):c.S.length≤24:=by
  have:=frees_len hok.sm_ok
  rw [ls_len] at this
  have:=hok.ns
  omega
theorem loop_le:(loopP c).length≤nsN c.P:=by
  rw [loopP,loopsN,List.length_map]
  exact few_below _ _ (List.Nodup.sublist List.filter_sublist mins_nodup) fun x hx=>(mem_firsts.1 hx).1.1
theorem ln_bd (hok:CapOk c){k:Nat}(hk:k<nsN c.P):1≤lnN c.P k∧lnN c.P k≤200:=by
  obtain ⟨q,j,h1,h2,rfl⟩:=off_loc hk
  rw [ln_at h1 h2]
  exact ((piece_ok (hok.pc q h1)).2.2.1 j h2).1
def lnUp (c:Cp)(lo:List Nat)(j:Nat):Int:=((lo.take j).map (lnN c.P)).sum
theorem lnUp_snoc {lo:List Nat}{j:Nat}(hj:j<lo.length):lnUp c lo (j+1)=lnUp c lo j+lnN c.P (lo.getD j default):=by
  unfold lnUp
  rw [List.take_add_one,List.getElem?_eq_getElem hj,List.map_append,List.sum_append,List.getD_eq_getElem?_getD,List.getElem?_eq_getElem hj];simp
theorem lnUp_all {lo:List Nat}:lnUp c lo lo.length=(lo.map (lnN c.P)).sum:=by unfold lnUp;rw [List.take_length]
theorem getD_any {α:Type}{l:List α}{i:Nat}{d d':α}(h:i<l.length):l.getD i d=l.getD i d':=by
  simp [List.getD_eq_getElem?_getD,h]
def PrR (c:Cp)(i:Nat):Nat→Nat→Prop:=prtE (pcN c.P) (prL c.P (c.S.take i))
end
section
variable {lim:Nat}{H H':Hp}{K:V→Hp→Prop}{pv sv:V}{ps:List (V×V)}{P:List Pc}{S:List Sm}{e:Int}{ws:List V}{c:Cp}
theorem CapV.form (h:CapV H ws c):∃pv sv ps,ws=[pv,sv,.int .i64 c.e]∧PcsV H pv ps c.P∧LstV smC H sv c.S∧stor pv=true∧cellsV pv=[pv]∧stor sv=true∧cellsV sv=[sv]:=by
  cases h with
  | mk hp hs=>exact ⟨_,_,_,rfl,hp,hs,hp.lst.stor,hp.lst.one,hs.stor,hs.one⟩
theorem surf_Loops (hc:CapV H ws c)(hb:c.S.length≤1000000)(hlim:lim≤H.length)(hK:∀H' v,HX H H'→(capE c=0→LlsV H.length H' v ((loopP c).map natL))→(capE c≠0→v=.snil)→K (.tup [v,.int .i64 (capE c)]) H'):VCall tbl lim 24 [.agg ws] H K:=by
  obtain ⟨pv,sv,ps,rfl,hp,hs,z1,z2,z3,z4⟩:=hc.form
  refine VCall_fn tbl_at24 rfl ?_
  simp [vf24,z1,z2,z3,z4,rdA3]
  refine surf_Validate hc hb hlim fun H1 x1 => ?_
  replace x1:HX H H1:=x1
  by_cases he:capE c=0
  case neg =>
    have:=hK H1 .snil x1 (fun h=>absurd h he) (fun _=>rfl)
    simp [he,z1,z2,z3,z4]
    exact this
  have l1:=x1.len
  simp [he,rdA3,z1,z2,z3,z4]
  refine surf_lay (hc.mono x1) (capE_ok.1 he) (by omega) fun H2 lv x2 ol => ?_
  replace x2:HX H1 H2:=x2
  have l2:=x2.len
  simp [ol.lst.stor]
  refine surf_loops (capE_ok.1 he) (by omega) ol.lst fun H3 v x3 hv => ?_
  replace x3:HX H2 H3:=x3
  obtain ⟨us,o1,o2,o3⟩:=hv.ex
  have:=hK H3 v ((x1.trans x2).trans x3) (fun _=>⟨⟨us,o1.le (by omega),o2,fun i hi=>(o3 i hi).le (by omega)⟩⟩) (fun h=>absurd he h)
  rw [he] at this
  simp [o1.lst.stor]
  exact this
theorem surf_Hairline (hc:CapV H ws c) (hb:c.S.length≤1000000) (hlim:lim≤H.length) (hK:∀H' v,HX H H'→(capE c=0→OwnV H.length H' v (hairP c))→(capE c≠0→v=.snil)→K (.tup [v,.int .i64 (capE c)]) H'):VCall tbl lim 31 [.agg ws] H K:=by
  obtain ⟨pv,sv,ps,rfl,hp,hs,z1,z2,z3,z4⟩:=hc.form
  refine VCall_fn tbl_at31 rfl ?_
  simp [vf31,z1,z2,z3,z4,rdA3]
  refine surf_Validate hc hb hlim fun H1 x1 => ?_
  replace x1:HX H H1:=x1
  by_cases he:capE c=0
  case neg =>
    have:=hK H1 .snil x1 (fun h=>absurd h he) (fun _=>rfl)
    simp [he,z1,z2,z3,z4]
    exact this
  have l1:=x1.len
  have hok:=capE_ok.1 he
  simp [he,rdA3,z1,z2,z3,z4]
  refine surf_lay (hc.mono x1) hok (by omega) fun H2 lv x2 ol => ?_
  replace x2:HX H1 H2:=x2
  have l2:=x2.len
  simp [ol.lst.stor]
  refine surf_loops hok (by omega) ol.lst fun H3 v x3 hv => ?_
  replace x3:HX H2 H3:=x3
  have l3:=x3.len
  obtain ⟨us,o1,o2,o3⟩:=hv.ex
  have hvl:vlenS v=some (.int .i64 (loopP c).length):=by rw [o1.lst.len,o2,List.length_map]
  have b1:=loop_le (c:=c)
  have b2:=hok.ns
  have xx:=(x1.trans x2).trans x3
  have hres:=hK
  simp [hvl]
  refine wLoop_up (loopP c).length (fun i fr L H'=>∃ov,(fr 5=lv∧fr 6=ov∧fr 20=v∧fr 21=.int .i64 (loopP c).length∧fr 22=.int .i64 i)∧HX H3 H'∧OwnV H3.length H' ov ((hairP c).take i)) ⟨.snil,by simp,.refl,by simpa using OwnV.nil⟩ ?_
  rintro i hi fr L H4 ⟨ov,⟨f5,f6,f20,f21,f22⟩,x4,hov⟩
  have l4:=x4.len
  simp [f5,f6,f20,f21,f22]
  have hhl:(hairP c).length=(loopP c).length:=by simp [hairP]
  refine cond_dec (fun ht => ?_) fun hfl => ?_
  · have ht:i<(loopP c).length:=by omega
    have ad:=(o1.lst.mono x4).at (i:=i) (by rw [o2,List.length_map];exact ht)
    have ld:∀L,vload none L H4 (ept 1 v i)=some (us.getD i dv):=fun L=>by
      have:=(o1.lst.mono x4).load1 (i:=i) (by rw [o2,List.length_map];exact ht) (L:=L)
      rw [this]
      show some (us.getD i default)=_
      rw [getD_any (by rw [o2,List.length_map];exact ht)]
    have ow:=(o3 i (by rw [List.length_map];exact ht)).mono x4
    have eg:((loopP c).map natL).getD i []=natL ((loopP c).getD i []):=by
      simp [List.getD_eq_getElem?_getD,ht]
    rw [eg] at ow
    have hmem:(loopP c).getD i []∈loopP c:=by
      rw [List.getD_eq_getElem?_getD,List.getElem?_eq_getElem ht];exact List.getElem_mem ht
    have hlt:∀x∈(loopP c).getD i [],x<nsN c.P:=by
      intro x hx
      have:x∈freesN (lsN c) (nsN c.P):=(loops_perm hok.nu).mem_iff.1 (List.mem_flatten.2 ⟨_,hmem,hx⟩)
      exact (mem_frees.1 this).1
    have hll:((loopP c).getD i []).length≤nsN c.P:=by
      have hp:=loops_perm hok.nu
      have hnd:((loopP c).getD i []).Nodup:=by
        have:((loopsN (nsN c.P) (nxN c.P) (lsN c)).flatten).Nodup:=hp.nodup_iff.2 frees_nodup
        rw [List.Nodup,List.pairwise_flatten] at this
        exact this.1 _ hmem
      exact few_below _ _ hnd hlt
    generalize hlo:(loopP c).getD i []=lo at *
    generalize huv:us.getD i dv=uv at *
    have hol:vlenS uv=some (.int .i64 lo.length):=by rw [ow.sl.len,natL_len]
    simp [f5,f6,f20,f21,f22,ad,ld,hol]
    refine wLoop_up lo.length (fun j fr L H'=>(fr 5=lv∧fr 6=ov∧fr 9=.int .i64 (lnUp c lo j)∧fr 20=v∧fr 21=.int .i64 (loopP c).length∧fr 22=.int .i64 i∧fr 26=uv∧fr 27=.int .i64 lo.length∧fr 28=.int .i64 j)∧H'=H4∧0≤(lnUp c lo j)∧(lnUp c lo j)≤200*j) ⟨by simp [f5,f6,f20,f21,f22,lnUp],rfl,by simp [lnUp],by simp [lnUp]⟩ ?_
    clear f5 f6 f20 f21 f22 fr
    rintro j hj fr L H5 ⟨⟨f5,f6,f9,f20,f21,f22,f26,f27,f28⟩,rfl,g1,g2⟩
    simp [f5,f6,f9,f20,f21,f22,f26,f27,f28]
    refine cond_dec (fun hjt => ?_) fun hjf => ?_
    · have hjt:j<lo.length:=by omega
      have hx:=hlt _ (getD_mem (l:=lo) hjt)
      have a1:=ow.sl.addr (i:=(j:Int)) (by rw [natL_len];omega)
      simp only [Int.toNat_natCast] at a1
      have b1:∀L,vload none L H5 (ept 1 uv j)=some (.int .i64 (lo.getD j default:Nat)):=fun L=>by
        rw [ow.sl.load (by rw [natL_len];exact hjt)]
        simp [natL,List.getD_eq_getElem?_getD,hjt]
      have hxl:=(ol.lst.mono x3).mono x4
      have a2:=hxl.at (i:=lo.getD j default) (by rw [layL_len];exact hx)
      have a3:vfaddr 0 (ept 5 lv (lo.getD j default))=some (eptf 5 lv (lo.getD j default) 0):=hxl.faddr (by rw [layL_len];exact hx)
      have a4:∀L,vload none L H5 (eptf 5 lv (lo.getD j default) 0)=some (.int .i64 (lnN c.P (lo.getD j default))):=fun L=>by
        rw [hxl.rd1 (by rw [layL_len];exact hx) (by omega),layL_get hx];rfl
      have hln:=ln_bd hok hx
      have hsn:=lnUp_snoc (c:=c) hjt
      generalize lo.getD j default=q at *
      simp (disch:=omega) [f5,f6,f9,f20,f21,f22,f26,f27,f28,a1,b1,a2,a3,a4,wrap_i64]
      exact ⟨hjt,by rw [hsn],by omega,by omega⟩
    · have:j=lo.length:=by omega
      subst this
      rw [lnUp_all] at f9 g1 g2
      obtain ⟨ov2,H6,c1,c2,c3,c4,c5,c6⟩:=hov.appendF (lim:=lim) (x:=(lo.map (lnN c.P)).sum) ⟨by omega,l4⟩ (by rw [List.length_take];omega)
      simp (disch:=omega) [f5,f6,f9,f20,f21,f22,f26,f27,f28,c1,wrap_i64]
      refine ⟨ht,c3 _ x4 (Nat.le_refl _),?_⟩
      rw [take_snoc (by omega)]
      have:(hairP c).getD i 0=(lo.map (lnN c.P)).sum:=by
        rw [←hlo]
        simp [hairP,List.getD_eq_getElem?_getD,ht]
      rw [this];exact c2
  · have:i=(loopP c).length:=by omega
    subst this
    rw [←hhl,List.take_length] at hov
    have:=hK H4 ov (xx.trans x4) (fun _=>hov.le (by omega)) (fun h=>absurd he h)
    rw [he] at this
    simp [f6,hov.sl.stor]
    exact this
end
end Go.Proofs.Ytclghkegfpcdpaa.Vm
namespace Go.Proofs.Ytclghkegfpcdpaa.Vm
open Go
set_option maxRecDepth 100000
set_option maxHeartbeats 1000000
set_option linter.unusedSimpArgs false
set_option linter.unusedVariables false
attribute [-simp] List.getD_eq_getElem?_getD
structure OPcsV (n:Nat)(H:Hp)(v:V)(ps:List (V×V))(pcs:List Pc):Prop where
  own:OwnT n pvC H v ps
  len:ps.length=pcs.length
  at':∀i,i<pcs.length→OwnV n H (ps.getD i default).1 (pcs.getD i default).s∧OwnV n H (ps.getD i default).2 (pcs.getD i default).a
  ap:∀i,i<pcs.length→∀b o z y o' z' y',v=.sl b o z y→((ps.getD i default).1=.sl b o' z' y'∨(ps.getD i default).2=.sl b o' z' y')→False
inductive OCapV (n:Nat)(H:Hp):List V→Cp→Prop
  | mk {pv sv:V} {ps:List (V×V)} {P:List Pc} {S:List Sm} {e:Int}:OPcsV n H pv ps P→OwnT n smC H sv S→(∀b o z y o' z' y',pv=.sl b o z y→sv=.sl b o' z' y'→False)→(∀i,i<P.length→∀b o z y o' z' y',sv=.sl b o z y→((ps.getD i default).1=.sl b o' z' y'∨(ps.getD i default).2=.sl b o' z' y')→False)→OCapV n H [pv,sv,.int .i64 e] ⟨P,S,e⟩
section
variable {n lim:Nat}{H H' H1:Hp}{K:V→Hp→Prop}{v pv sv a b:V}{ps:List (V×V)}{pcs P:List Pc}{S:List Sm}{e:Int}{ws:List V}{c d:Cp}
theorem OPcsV.pcsV (h:OPcsV n H v ps pcs):PcsV H v ps pcs:=⟨h.own.lst,h.len,fun i hi=>⟨(h.at' i hi).1.sl,(h.at' i hi).2.sl⟩⟩
theorem OCapV.cap (h:OCapV n H ws c):CapV H ws c:=by
  cases h with
  | mk h1 h2 _ _=>exact .mk h1.pcsV h2.lst
theorem OPcsV.mono (hx:HX H H')(h:OPcsV n H v ps pcs):OPcsV n H' v ps pcs:=⟨h.own.mono hx,h.len,fun i hi=>⟨(h.at' i hi).1.mono hx,(h.at' i hi).2.mono hx⟩,h.ap⟩
theorem OPcsV.le {m:Nat}(hnm:n≤m)(h:OPcsV m H v ps pcs):OPcsV n H v ps pcs:=⟨h.own.le hnm,h.len,fun i hi=>⟨(h.at' i hi).1.le hnm,(h.at' i hi).2.le hnm⟩,h.ap⟩
theorem OCapV.mono (hx:HX H H')(h:OCapV n H ws c):OCapV n H' ws c:=by
  cases h with
  | mk h1 h2 h3 h4=>exact .mk (h1.mono hx) (h2.mono hx) h3 h4
theorem OCapV.le {m:Nat}(hnm:n≤m)(h:OCapV m H ws c):OCapV n H ws c:=by
  cases h with
  | mk h1 h2 h3 h4=>exact .mk (h1.le hnm) (h2.le hnm) h3 h4
theorem OPcsV.nil:OPcsV n H .snil [] []:=⟨.nil,rfl,fun i hi=>by simp at hi,fun i hi=>by simp at hi⟩
theorem OPcsV.keepB (h:OPcsV n H v ps pcs)(h1:∀b o m z,v=.sl b o m z→H'[b]? = H[b]?)(h2:∀i,i<pcs.length→∀b o m z,((ps.getD i default).1=.sl b o m z∨(ps.getD i default).2=.sl b o m z)→H'[b]? = H[b]?):OPcsV n H' v ps pcs :=
  ⟨h.own.keepB h1,h.len,fun i hi=>⟨(h.at' i hi).1.keepB fun b o m z e=>h2 i hi b o m z (Or.inl e),(h.at' i hi).2.keepB fun b o m z e=>h2 i hi b o m z (Or.inr e)⟩,h.ap⟩
theorem OPcsV.append {p:Pc}(h:OPcsV n H v ps pcs)(hx:HX H H1)(ha:OwnV H.length H1 a p.s)(hb:OwnV H.length H1 b p.a)(hn:lim≤n∧n≤H.length)(hl:pcs.length<1000000) :
    ∃v' H2,vappend lim 2 48 (H1++[.row [a,b] true]) v (.sl H1.length 0 1 2)=some (v',H2)∧OPcsV n H2 v' (ps++[(a,b)]) (pcs++[p])∧(∀H0,HX H0 H1→H0.length≤n→HX H0 H2)∧H1.length≤H2.length∧(∀b',b'<H1.length→(∀o z y,v≠.sl b' o z y)→H2[b']? = H1[b']?)∧∀b o z y,v'=.sl b o z y→H1.length≤b:=by
  have h1:=h.mono hx
  have hlen:=hx.len
  obtain ⟨v',H2,a1,a2,a3,a4,a5,a6⟩:=h1.own.appendF2 (lim:=lim) (bytes:=48) (x:=(a,b)) (cs:=[a,b]) rfl ⟨hn.1,by omega⟩ (by omega) (by rw [h.len];exact hl)
  have old:∀b' o z y,v=.sl b' o z y→b'<H.length:=fun b' o z y e=>(h.own.belowB _ _ _ _ e).2
  refine ⟨v',H2,a1,⟨a2,by simp [h.len],fun i hi => ?_,fun i hi b' o z y o' z' y' e e' => ?_⟩,a3,a4,a5,a6⟩
  · rw [List.length_append,List.length_singleton] at hi
    by_cases hlt:i<pcs.length
    · rw [getD_lt (l:=ps) (by rw [h.len];exact hlt),getD_lt hlt]
      have:=h1.at' i hlt
      exact ⟨this.1.keepB fun b' o m z e=>a5 b' (this.1.belowB _ _ _ _ e).2 fun o' z' y' e'=>h1.ap i hlt _ _ _ _ _ _ _ e' (Or.inl e),this.2.keepB fun b' o m z e=>a5 b' (this.2.belowB _ _ _ _ e).2 fun o' z' y' e'=>h1.ap i hlt _ _ _ _ _ _ _ e' (Or.inr e)⟩
    · have:i=pcs.length:=by omega
      subst this
      rw [getD_last h.len.symm,getD_last rfl]
      exact ⟨(ha.keepB fun b' o m z e=>a5 b' (ha.belowB _ _ _ _ e).2 fun o' z' y' e'=>by have:=old _ _ _ _ e';have:=(ha.belowB _ _ _ _ e).1;omega).le (by omega),(hb.keepB fun b' o m z e=>a5 b' (hb.belowB _ _ _ _ e).2 fun o' z' y' e'=>by have:=old _ _ _ _ e';have:=(hb.belowB _ _ _ _ e).1;omega).le (by omega)⟩
  · rw [List.length_append,List.length_singleton] at hi
    have h6:=a6 _ _ _ _ e
    by_cases hlt:i<pcs.length
    · rw [getD_lt (l:=ps) (by rw [h.len];exact hlt)] at e'
      have:=h1.at' i hlt
      rcases e' with e' | e'
      · have:=(this.1.belowB _ _ _ _ e').2;omega
      · have:=(this.2.belowB _ _ _ _ e').2;omega
    · have:i=pcs.length:=by omega
      subst this
      rw [getD_last h.len.symm] at e'
      rcases e' with e' | e'
      · have:=(ha.belowB _ _ _ _ e').2;omega
      · have:=(hb.belowB _ _ _ _ e').2;omega
def longB (c:Cp):Bool:=decide (30<c.P.length∨60<c.S.length∨∃q,q<c.P.length∧(30<(c.P.getD q default).s.length∨30<(c.P.getD q default).a.length))
structure ShortC (c:Cp):Prop where
  np:c.P.length≤30
  ns:c.S.length≤60
  pc:∀q,q<c.P.length→(c.P.getD q default).s.length≤30∧(c.P.getD q default).a.length≤30
theorem short_of (h:longB c=false):ShortC c:=by
  simp only [longB,decide_eq_false_iff_not,not_or,Nat.not_lt] at h
  refine ⟨h.1,h.2.1,fun q hq => ?_⟩
  have h3:=h.2.2
  constructor
  · apply Nat.le_of_not_lt;intro g;exact h3 ⟨q,hq,Or.inl g⟩
  · apply Nat.le_of_not_lt;intro g;exact h3 ⟨q,hq,Or.inr g⟩
theorem l02_Long (hc:CapV H ws c)(hK:K (.bool (longB c)) H):VCall tbl lim 15 [.agg ws] H K:=by
  obtain ⟨pv,sv,ps,rfl,hp,hs,z1,z2,z3,z4⟩:=hc.form
  refine VCall_fn tbl_at15 rfl ?_
  by_cases h1:30<c.P.length
  · have e:longB c=true:=by simp only [longB,decide_eq_true_eq];exact Or.inl h1
    have e1:decide (30<(c.P.length:Int))=true:=by simp;omega
    rw [e] at hK
    simp [vf15,z1,z2,z3,z4,rd0,rd1',hp.vlen,hs.len,e1]
    exact hK
  have e1:decide (30<(c.P.length:Int))=false:=by simp;omega
  by_cases h2:60<c.S.length
  · have e:longB c=true:=by simp only [longB,decide_eq_true_eq];exact Or.inr (Or.inl h2)
    have e2:decide (60<(c.S.length:Int))=true:=by simp;omega
    rw [e] at hK
    simp [vf15,z1,z2,z3,z4,rd0,rd1',hp.vlen,hs.len,e1,e2]
    exact hK
  have e2:decide (60<(c.S.length:Int))=false:=by simp;omega
  simp [vf15,z1,z2,z3,z4,rd0,rd1',hp.vlen,hs.len,e1,e2]
  refine wLoop_up c.P.length (fun i fr L H'=>(fr 1=.lp 0 0∧fr 3=.int .i64 i)∧L=[[pv,sv,.int .i64 c.e]]∧H'=H∧∀q,q<i→(c.P.getD q default).s.length≤30∧(c.P.getD q default).a.length≤30) ⟨by simp,rfl,rfl,fun q hq=>by omega⟩ ?_
  rintro i hi fr L H1 ⟨⟨f1,f3⟩,rfl,rfl,hall⟩
  simp [f1,f3,rd0,hp.vlen]
  refine cond_dec (fun ht => ?_) fun hfl => ?_
  · have ht:i<c.P.length:=by omega
    obtain ⟨s1,s2⟩:=hp.at' i ht
    by_cases g1:30<(c.P.getD i default).s.length
    · have e:longB c=true:=by simp only [longB,decide_eq_true_eq];exact Or.inr (Or.inr ⟨i,ht,Or.inl g1⟩)
      have e3:decide (30<((c.P.getD i default).s.length:Int))=true:=by simp;omega
      rw [e] at hK
      simp [f1,f3,rd0,hp.at ht,hp.fa ht,hp.ld0 ht,hp.ld1 ht,s1.len,s2.len,e3]
      exact hK
    have e3:decide (30<((c.P.getD i default).s.length:Int))=false:=by simp;omega
    by_cases g2:30<(c.P.getD i default).a.length
    · have e:longB c=true:=by simp only [longB,decide_eq_true_eq];exact Or.inr (Or.inr ⟨i,ht,Or.inr g2⟩)
      have e4:decide (30<((c.P.getD i default).a.length:Int))=true:=by simp;omega
      rw [e] at hK
      simp [f1,f3,rd0,hp.at ht,hp.fa ht,hp.ld0 ht,hp.ld1 ht,s1.len,s2.len,e3,e4]
      exact hK
    have e4:decide (30<((c.P.getD i default).a.length:Int))=false:=by simp;omega
    simp (disch:=omega) [f1,f3,rd0,hp.at ht,hp.fa ht,hp.ld0 ht,hp.ld1 ht,s1.len,s2.len,e3,e4,wrap_i64]
    refine ⟨ht,fun q hq => ?_⟩
    by_cases eq:q=i
    · subst eq;omega
    · exact hall q (by omega)
  · have:i=c.P.length:=by omega
    subst this
    have e:longB c=false:=by
      simp only [longB,decide_eq_false_iff_not,not_or]
      refine ⟨h1,h2,?_⟩
      rintro ⟨q,hq,g | g⟩
      · have:=(hall q hq).1;omega
      · have:=(hall q hq).2;omega
    rw [e] at hK
    simp
    exact hK
def sameB (c d:Cp):Bool:=decide (c.e=d.e∧c.P.length=d.P.length∧c.S.length=d.S.length∧(∀q,q<c.P.length→(c.P.getD q default).s=(d.P.getD q default).s∧(c.P.getD q default).a=(d.P.getD q default).a)∧∀q,q<c.S.length→(c.S.getD q default).A=(d.S.getD q default).A∧(c.S.getD q default).I=(d.S.getD q default).I∧(c.S.getD q default).B=(d.S.getD q default).B∧(c.S.getD q default).J=(d.S.getD q default).J)
end
end Go.Proofs.Ytclghkegfpcdpaa.Vm
namespace Go.Proofs.Ytclghkegfpcdpaa.Vm
open Go
set_option maxRecDepth 100000
set_option maxHeartbeats 1000000
set_option linter.unusedSimpArgs false
set_option linter.unusedVariables false
attribute [-simp] List.getD_eq_getElem?_getD
structure CapA (H:Hp)(ws:List V)(c:Cp):Prop where
  cap:CapV H ws c
theorem pick_pcs {H:Hp}:∀{ps:List (V×V)},(∀p∈ps,∃c:Pc,SlV H p.1 c.s∧SlV H p.2 c.a)→∃pcs:List Pc,ps.length=pcs.length∧∀i,i<pcs.length→SlV H (ps.getD i default).1 (pcs.getD i default).s∧SlV H (ps.getD i default).2 (pcs.getD i default).a
  | [],_=>⟨[],rfl,fun i hi=>by simp at hi⟩
  | p :: ps,h=>by
    obtain ⟨c,h1,h2⟩:=h p (by simp)
    obtain ⟨pcs,h3,h4⟩:=pick_pcs (ps:=ps) fun q hq=>h q (List.mem_cons_of_mem _ hq)
    refine ⟨c :: pcs,by simp [h3],fun i hi => ?_⟩
    cases i with
    | zero=>exact ⟨h1,h2⟩
    | succ i=>exact h4 i (by simpa using hi)
theorem cap_of {H:Hp}{ws:List V}{ds:List CD}(h:RepTs H [.sl [cInts,cInts],.sl [cInt,cInt,cInt,cInt],cInt] ws ds):∃c,CapA H ws c:=by
  obtain ⟨v0,u0,_,_,rfl,_,p0,q0⟩:=reps_cons h
  obtain ⟨v1,u1,_,_,rfl,_,p1,q1⟩:=reps_cons q0
  obtain ⟨v2,u2,_,_,rfl,_,p2,q2⟩:=reps_cons q1
  have e:=reps_nil q2
  subst e
  obtain ⟨n,rfl,_⟩:=int_of p2
  obtain ⟨l1,h1,hl,hall⟩:=lst_of (c:=pvC) rfl (fun z=>∃c:Pc,SlV H z.1 c.s∧SlV H z.2 c.a) (fun vs ds h=>by
    obtain ⟨v0,u0,_,_,rfl,_,p0,q0⟩:=reps_cons h
    obtain ⟨v1,u1,_,_,rfl,_,p1,q1⟩:=reps_cons q0
    have e:=reps_nil q1
    subst e
    obtain ⟨l0,g0,_,_⟩:=ints_of p0
    obtain ⟨l1,g1,_,_⟩:=ints_of p1
    exact ⟨(v0,v1),rfl,⟨l0,l1⟩,g0,g1⟩) p0
  obtain ⟨l2,h2,_,_⟩:=lst_of (c:=smC) rfl (fun z=>True) (fun vs ds h=>by
    obtain ⟨v0,u0,_,_,rfl,_,p0,q0⟩:=reps_cons h
    obtain ⟨v1,u1,_,_,rfl,_,p1,q1⟩:=reps_cons q0
    obtain ⟨v2,u2,_,_,rfl,_,p2,q2⟩:=reps_cons q1
    obtain ⟨v3,u3,_,_,rfl,_,p3,q3⟩:=reps_cons q2
    have e:=reps_nil q3
    subst e
    obtain ⟨n0,rfl,c0⟩:=int_of p0
    obtain ⟨n1,rfl,c1⟩:=int_of p1
    obtain ⟨n2,rfl,c2⟩:=int_of p2
    obtain ⟨n3,rfl,c3⟩:=int_of p3
    exact ⟨⟨n0,n1,n2,n3⟩,rfl,trivial⟩) p1
  obtain ⟨pcs,g1,g2⟩:=pick_pcs hall
  exact ⟨⟨pcs,l2,n⟩,⟨.mk ⟨h1,g1,g2⟩ h2⟩⟩
def boolL (l:List Bool):List V:=l.map V.bool
section
variable {n lim:Nat}{H H' H1:Hp}{K:V→Hp→Prop}{ws:List V}{c:Cp}{b x:Nat}{el:List Bool}{il:List Int}{own:Bool}
theorem rw_addr (h:x<n):viaddrS 1 (.sl b 0 n 1) (.int .i64 (x:Int))=some (.ptr b x):=by
  rw [viaddrS_in (by omega)];simp
theorem bl_ld (h:H[b]? = some (.row (boolL el) own))(hx:x<el.length):∀L,vload none L H (.ptr b x)=some (.bool (el.getD x false)):=fun L=>by
  rw [vload_ptr h]
  simp [rd,boolL,hx,List.getD_eq_getElem?_getD]
theorem bl_st {y:Bool}(h:H[b]? = some (.row (boolL el) true))(hl:lim≤b)(hx:x<el.length):∀L,vstore lim L H (.ptr b x) (.bool y) 1=some (L,H.set b (.row (boolL (el.set x y)) true)):=fun L=>by
  have h1:x+1≤(boolL el).length:=by simp [boolL];omega
  have e:splice (boolL el) x [.bool y]=boolL (el.set x y):=by
    simp [splice,boolL,List.set_eq_take_append_cons_drop,hx,List.map_append,List.map_take,List.map_drop]
  simp [vstore,vstoreH,h,hl,h1,e]
theorem mk_bools {L:Lo}(h:n≤1000):vmks 1 1 [.bool false] L H (.int .i64 (n:Int)) (.int .i64 (n:Int))=some (.val (.sl H.length 0 n 1) L (H++[.row (boolL (List.replicate n false)) true])):=by
  have e:rowOf n [V.bool false]=boolL (List.replicate n false):=by
    simp only [rowOf,boolL,List.map_replicate]
    induction n with
    | zero=>rfl
    | succ n ih=>simp only [List.replicate_succ,List.flatten_cons,ih (by omega)];rfl
  simp only [vmks,Int.toNat_natCast,e]
  rw [if_pos ⟨trivial,by omega,by omega,by omega⟩]
def upTo (q:List (List Nat))(i k:Nat):List Nat:=(q.take i).flatten++(q.getD i []).take k
noncomputable def ptQ (c:Cp):List (List Nat):=(ptsP c).map (·.cs)
def outN (c:Cp)(l:List Nat)(k:Nat):Nat:=((l.take k).filter (freeN (lsN c))).length
end
end Go.Proofs.Ytclghkegfpcdpaa.Vm
namespace Go.Proofs.Ytclghkegfpcdpaa.Vm
open Go
set_option maxRecDepth 100000
set_option maxHeartbeats 1000000
set_option linter.unusedSimpArgs false
set_option linter.unusedVariables false
attribute [-simp] List.getD_eq_getElem?_getD
def zCap:Cp:=⟨[],[],0⟩
def sewC (c:Cp)(s:Sm):Cp:=⟨c.P,c.S++[s],c.e⟩
def unsC (c:Cp)(i:Nat):Cp:=⟨c.P,c.S.take i++c.S.drop (i+1),c.e⟩
def unsE (c:Cp)(i:Int):Int:=if capE c≠0 then capE c else if 0≤i∧i<c.S.length then 0 else 5
section
variable {n lim:Nat}{H H' H1:Hp}{K:V→Hp→Prop}{v pv sv a b:V}{ps:List (V×V)}{P:List Pc}{S:List Sm}{e:Int}{ws:List V}{c d:Cp}
end
end Go.Proofs.Ytclghkegfpcdpaa.Vm
namespace Go.Proofs.Ytclghkegfpcdpaa.Vm
open Go
set_option maxRecDepth 100000
set_option maxHeartbeats 1000000
set_option linter.unusedSimpArgs false
set_option linter.unusedVariables false
attribute [-simp] List.getD_eq_getElem?_getD
section
variable {n lim:Nat}{H H' H1:Hp}{K:V→Hp→Prop}{v pv sv a b u:V}{ps:List (V×V)}{P:List Pc}{S:List Sm}{e:Int}{ws:List V}{c d:Cp}
theorem OCapV.parts (h:OCapV n H ws c):∃pv sv ps,ws=[pv,sv,.int .i64 c.e]∧OPcsV n H pv ps c.P∧OwnT n smC H sv c.S∧(∀b o z y o' z' y',pv=.sl b o z y→sv=.sl b o' z' y'→False)∧∀i,i<c.P.length→∀b o z y o' z' y',sv=.sl b o z y→((ps.getD i default).1=.sl b o' z' y'∨(ps.getD i default).2=.sl b o' z' y')→False:=by
  cases h with
  | mk h1 h2 h3 h4=>exact ⟨_,_,_,rfl,h1,h2,h3,h4⟩
end
end Go.Proofs.Ytclghkegfpcdpaa.Vm
namespace Go.Proofs.Ytclghkegfpcdpaa.Vm
open Go
set_option maxRecDepth 100000
set_option maxHeartbeats 1000000
set_option linter.unusedSimpArgs false
set_option linter.unusedVariables false
attribute [-simp] List.getD_eq_getElem?_getD
section
variable {n lim:Nat}{H H' H1:Hp}{K:V→Hp→Prop}{v pv sv a b u:V}{ps:List (V×V)}{P:List Pc}{S:List Sm}{e:Int}{ws:List V}{c d:Cp}
noncomputable def measL (c:Cp):List V:=if capE c=0 then [.int .i64 (partP c),.int .i64 (eulP c),.int .i64 (missP c),.int .i64 (handP c),.int .i64 0] else [.int .i64 0,.int .i64 0,.int .i64 0,.int .i64 0,.int .i64 (capE c)]
structure WrS (m:Nat)(H0:Hp)(pv:V)(ps:List (V×V))(P:List Pc)(H:Hp):Prop where
  hx:HX H0 H
  hm:H0.length≤m
  own:OwnT m pvC H pv ps
  len:ps.length=P.length
  ol:∀i,i<P.length→OwnL m H (ps.getD i default).1 (P.getD i default).s.length
  ap:∀i,i<P.length→∀b o z y o' z' y',pv=.sl b o z y→(ps.getD i default).1=.sl b o' z' y'→False
theorem WrS.write {m:Nat}{H0:Hp}(h:WrS m H0 pv ps P H){i k:Nat}(hi:i<P.length)(hk:k<(P.getD i default).s.length)(hlim:lim≤m):∃H',(∀L,vstore lim L H (ept 1 (ps.getD i default).1 k) (.int .i64 (-1)) 1=some (L,H'))∧WrS m H0 pv ps P H':=by
  obtain ⟨l,hl,ho⟩:=h.ol i hi
  refine ⟨setH H (ps.getD i default).1 (ints (l.set k (-1))),fun L=>ho.store ⟨hlim,by omega⟩,setH_X h.hx ho h.hm,h.hm,h.own.keepB fun b o z y e => ?_,h.len,fun j hj=>(h.ol j hj).set ho (by simp),h.ap⟩
  cases hq:(ps.getD i default).1 with
  | sl b' o' z' y' =>
    simp only [setH]
    rw [List.getElem?_set_ne]
    rintro rfl
    exact h.ap i hi _ _ _ _ _ _ _ e hq
  | _=>rfl
theorem WrS.vlen {m:Nat}{H0:Hp}(h:WrS m H0 pv ps P H){i:Nat}(hi:i<P.length):vlenS (ps.getD i default).1=some (.int .i64 (P.getD i default).s.length):=by
  obtain ⟨l,hl,ho⟩:=h.ol i hi
  rw [←hl];exact ho.sl.len
theorem WrS.addr {m:Nat}{H0:Hp}(h:WrS m H0 pv ps P H){i k:Nat}(hi:i<P.length)(hk:k<(P.getD i default).s.length):viaddrS 1 (ps.getD i default).1 (.int .i64 (k:Int))=some (ept 1 (ps.getD i default).1 k):=by
  obtain ⟨l,hl,ho⟩:=h.ol i hi
  have:=ho.sl.addr (i:=(k:Int)) (by omega)
  simpa using this
end
end Go.Proofs.Ytclghkegfpcdpaa.Vm
namespace Go.Proofs.Ytclghkegfpcdpaa.Vm
set_option linter.unusedVariables false
set_option linter.unusedSimpArgs false
attribute [-simp] List.getD_eq_getElem?_getD
theorem getD_setN {l:List Nat}{i t x:Nat}(h:i<l.length):(l.set i x).getD t 0=if t=i then x else l.getD t 0:=by
  simp only [List.getD_eq_getElem?_getD]
  by_cases e:t=i
  · subst e;simp [h]
  · rw [if_neg e,List.getElem?_set_ne (fun h=>e h.symm)]
def lowS (l:List Nat)(a b:Nat):List Nat:=(l.set a (min (l.getD a 0) (l.getD b 0))).set b (min (l.getD a 0) (l.getD b 0))
theorem lowS_len {l:List Nat}{a b:Nat}:(lowS l a b).length=l.length:=by simp [lowS]
theorem lowS_get {l:List Nat}{a b t:Nat}(ha:a<l.length)(hb:b<l.length):(lowS l a b).getD t 0=if t=b∨t=a then min (l.getD a 0) (l.getD b 0) else l.getD t 0:=by
  rw [lowS,getD_setN (by simpa using hb),getD_setN ha]
  by_cases e1:t=b<;>by_cases e2:t=a<;>simp [e1,e2]
theorem lowS_le {l:List Nat}{a b t:Nat}(ha:a<l.length)(hb:b<l.length):(lowS l a b).getD t 0≤l.getD t 0:=by
  rw [lowS_get ha hb]
  split
  · rename_i h
    rcases h with rfl | rfl
    · exact Nat.min_le_right _ _
    · exact Nat.min_le_left _ _
  · exact Nat.le_refl _
structure LowM (E:Nat→Nat→Prop)(N:Nat)(l:List Nat):Prop where
  len:l.length=N
  at':∀i,i<N→l.getD i 0≤i∧E i (l.getD i 0)
section
variable {E:Nat→Nat→Prop}{N:Nat}{l:List Nat}
theorem LowM.start (h:Eqv E):LowM E N (List.range N) where
  len:=by simp
  at':=fun i hi=>by
    have:(List.range N).getD i 0=i:=by simp [List.getD_eq_getElem?_getD,hi]
    rw [this];exact ⟨Nat.le_refl _,h.rf i⟩
theorem LowM.step (hE:Eqv E)(h:LowM E N l){a b:Nat}(ha:a<N)(hb:b<N)(he:E a b):LowM E N (lowS l a b) where
  len:=by rw [lowS_len,h.len]
  at' := fun i hi=>by
    have ha':=h.at' a ha
    have hb':=h.at' b hb
    refine ⟨Nat.le_trans (lowS_le (by rw [h.len];exact ha) (by rw [h.len];exact hb)) (h.at' i hi).1,?_⟩
    rw [lowS_get (by rw [h.len];exact ha) (by rw [h.len];exact hb)]
    have hm:E a (min (l.getD a 0) (l.getD b 0)):=by
      rcases Nat.le_total (l.getD a 0) (l.getD b 0) with g | g
      · rw [Nat.min_eq_left g];exact ha'.2
      · rw [Nat.min_eq_right g];exact hE.tr he hb'.2
    split
    · rename_i g
      rcases g with rfl | rfl
      · exact hE.tr (hE.sy he) hm
      · exact hm
    · exact (h.at' i hi).2
theorem LowM.lt (h:LowM E N l){i:Nat}(hi:i<N):l.getD i 0<N:=Nat.lt_of_le_of_lt (h.at' i hi).1 hi
theorem LowM.least (hE:Eqv E)(h:LowM E N l){i:Nat}(hi:i<N)(hl:LeE E i):l.getD i 0=i:=by
  obtain ⟨h1,h2⟩:=h.at' i hi
  rcases Nat.lt_or_ge (l.getD i 0) i with g | g
  · exact absurd h2 (hl _ g)
  · omega
theorem LowM.done (hE:Eqv E)(h:LowM E N l)(hfix:∀i j,i<N→j<N→E i j→l.getD i 0=l.getD j 0){i:Nat}(hi:i<N):l.getD i 0=lowE E i:=by
  obtain ⟨h1,h2,h3⟩:=lowE_spec hE i
  rw [hfix i (lowE E i) hi (by omega) h2,h.least hE (by omega) h3]
end
section
variable {c:Cp}{l:List Nat}
theorem prt_least {pc:Nat→Nat}{F:Nat→Nat→Prop}(hF:Eqv F):∀{L:List (Nat×Nat)},(∀s,s∈L→F (pc s.1) (pc s.2))→∀{x y:Nat},prtE pc L x y→F x y
  | [],_,x,y,h=>by rw [show x=y from h];exact hF.rf _
  | s :: L,hs,x,y,h=>by
    have ih:∀{x y:Nat},prtE pc L x y→F x y:=fun g=>prt_least hF (fun s hm=>hs s (List.mem_cons_of_mem _ hm)) g
    have h0:=hs s List.mem_cons_self
    rcases h with g | ⟨g1,g2⟩ | ⟨g1,g2⟩
    · exact ih g
    · exact hF.tr (ih g1) (hF.tr h0 (ih g2))
    · exact hF.tr (ih g1) (hF.tr (hF.sy h0) (ih g2))
theorem SmOk.alf_mem {N:Nat}{L:List (Nat×Nat)}(h:SmOk N L):∀s,s∈L→s.1<N∧s.2<N∧alf L s.1=s.2∧s.1≠s.2:=by
  induction h with
  | nil=>intro s hs;cases hs
  | cons hh h1 h2 h3 h4 ih =>
    intro s hs
    rename_i t L0
    have hco:=fun c=>alf_cons (s:=t) (L:=L0) (c:=c) (SmOk.cons hh h1 h2 h3 h4)
    rcases List.mem_cons.1 hs with e | hs
    · subst e
      refine ⟨h1,h2,?_,h3⟩
      rw [hco,if_pos rfl]
    · obtain ⟨a1,a2,a3,a4⟩:=ih s hs
      refine ⟨a1,a2,?_,a4⟩
      obtain ⟨b1,b2,_⟩:=h4 s hs
      rw [hco,if_neg b1,if_neg b2,a3]
def PrtR (c:Cp):Nat→Nat→Prop:=prtE (pcN c.P) (lsN c)
open Classical in
noncomputable def cntL (c:Cp)(l:List Nat)(v:Nat):List Nat:=(List.range c.P.length).filter fun x=>decide (l.getD x 0=v)
def RndP (c:Cp)(r:Nat)(l:List Nat):Prop:=∀v,v<c.P.length→LeE (PrtR c) v→(∀x,x<c.P.length→PrtR c x v→l.getD x 0=v)∨r+1≤(cntL c l v).length
theorem cnt_more {p q:Nat→Bool} {n y:Nat} (h:∀x,x<n→p x=true→q x=true) (hy:y<n) (h1:p y=false) (h2:q y=true):((List.range n).filter p).length+1≤((List.range n).filter q).length:=by
  induction n with
  | zero=>omega
  | succ n ih =>
    rw [List.range_succ,List.filter_append,List.filter_append,List.length_append,List.length_append]
    by_cases e:y=n
    · subst e
      have le : ((List.range y).filter p).length≤((List.range y).filter q).length:=by
        have:∀m,m≤y→((List.range m).filter p).length≤((List.range m).filter q).length:=by
          intro m
          induction m with
          | zero=>intro _;simp
          | succ m ihm =>
            intro hm
            rw [List.range_succ,List.filter_append,List.filter_append,List.length_append,List.length_append]
            have:=ihm (by omega)
            have:([m].filter p).length≤([m].filter q).length:=by
              cases hp:p m with
              | false=>simp [List.filter,hp]
              | true=>simp [List.filter,hp,h m (by omega) hp]
            omega
        exact this y (Nat.le_refl _)
      simp [List.filter,h1,h2];exact le
    · have:=ih (fun x hx=>h x (by omega)) (by omega)
      have:([n].filter p).length≤([n].filter q).length:=by
        cases hp:p n with
        | false=>simp [List.filter,hp]
        | true=>simp [List.filter,hp,h n (by omega) hp]
      omega
theorem RndP.start:RndP c 0 (List.range c.P.length):=by
  intro v hv hl
  right
  have:v∈cntL c (List.range c.P.length) v:=by
    simp [cntL,hv,List.getD_eq_getElem?_getD]
  have:=List.length_pos_of_mem this
  omega
theorem RndP.next (hok:CapOk c) {r:Nat} {l0 l1:List Nat} (h0:LowM (PrtR c) c.P.length l0) (h1:LowM (PrtR c) c.P.length l1) (hle:∀x,l1.getD x 0≤l0.getD x 0)
    (hs:∀a,a<nsN c.P→alf (lsN c) a≠a→l1.getD (pcN c.P a) 0≤l0.getD (pcN c.P (alf (lsN c) a)) 0) (h:RndP c r l0):RndP c (r+1) l1:=by
  have hE:Eqv (PrtR c):=prtE_eqv
  have hsm:=hok.sm_ok
  intro v hv hl
  have keep:∀x,x<c.P.length→l0.getD x 0=v→l1.getD x 0=v:=by
    intro x hx e
    have g1:=hle x
    have g2:=(h1.at' x hx).2
    have g3:=(h0.at' x hx).2
    rw [e] at g3 g1
    rcases Nat.lt_or_ge (l1.getD x 0) v with g | g
    · exact absurd (hE.tr (hE.sy g3) g2) (hl _ g)
    · omega
  rcases h v hv hl with g | g
  · exact Or.inl fun x hx he=>keep x hx (g x hx he)
  · by_cases hall:∀x,x<c.P.length→PrtR c x v→l0.getD x 0=v
    · exact Or.inl fun x hx he=>keep x hx (hall x hx he)
    · right
      have hex:∃a,a<nsN c.P∧alf (lsN c) a≠a∧l0.getD (pcN c.P a) 0≠v∧l0.getD (pcN c.P (alf (lsN c) a)) 0=v:=by
        apply Classical.byContradiction
        intro hno
        apply hall
        intro x hx he
        have hF:Eqv fun x y=>(l0.getD x 0=v↔l0.getD y 0=v):=⟨fun _=>Iff.rfl,fun h=>h.symm,fun h g=>h.trans g⟩
        have:=prt_least (pc:=pcN c.P) hF (L:=lsN c) (fun s hm=>by
          obtain ⟨a1,a2,a3,a4⟩:=hsm.alf_mem s hm
          have b3:alf (lsN c) s.2=s.1:=by rw [←a3,hsm.inv a1]
          constructor
          · intro e
            apply Classical.byContradiction
            intro hn
            exact hno ⟨s.2,a2,by rw [b3];exact a4,hn,by rw [b3];exact e⟩
          · intro e
            apply Classical.byContradiction
            intro hn
            exact hno ⟨s.1,a1,by rw [a3];exact fun e=>a4 e.symm,hn,by rw [a3];exact e⟩) he
        exact this.2 (h0.least hE hv hl)
      obtain ⟨a,a1,a2,a3,a4⟩:=hex
      have hpa:pcN c.P a<c.P.length:=pc_lt a1
      have hpb:pcN c.P (alf (lsN c) a)<c.P.length:=pc_lt (hsm.pr.lt a a1)
      have hnew:l1.getD (pcN c.P a) 0=v:=by
        have g1:=hs a a1 a2
        rw [a4] at g1
        have g2:=(h1.at' _ hpa).2
        have g3:=(h0.at' _ hpb).2
        rw [a4] at g3
        have g4:PrtR c (pcN c.P a) (pcN c.P (alf (lsN c) a)):=prtE_sewn
        rcases Nat.lt_or_ge (l1.getD (pcN c.P a) 0) v with q | q
        · exact absurd (hE.tr (hE.sy (hE.tr g4 g3)) g2) (hl _ q)
        · omega
      have:=cnt_more (p:=fun x=>decide (l0.getD x 0=v)) (q:=fun x=>decide (l1.getD x 0=v)) (n:=c.P.length) (y:=pcN c.P a) (fun x hx he=>by simpa using keep x hx (by simpa using he)) hpa (by simpa using a3) (by simpa using hnew)
      unfold cntL at g ⊢
      omega
theorem RndP.end (h0:LowM (PrtR c) c.P.length l)(h:RndP c c.P.length l){x:Nat}(hx:x<c.P.length):l.getD x 0=lowE (PrtR c) x:=by
  have hE:Eqv (PrtR c):=prtE_eqv
  obtain ⟨h1,h2,h3⟩:=lowE_spec hE x
  rcases h (lowE (PrtR c) x) (by omega) h3 with g | g
  · exact g x hx h2
  · have:(cntL c l (lowE (PrtR c) x)).length≤c.P.length:=by
      unfold cntL
      exact Nat.le_trans (List.length_filter_le _ _) (by simp)
    omega
def ownL (l:List Nat)(n:Nat):Nat:=((List.range n).filter fun i=>decide (l.getD i 0=i)).length
end
end Go.Proofs.Ytclghkegfpcdpaa.Vm
namespace Go.Proofs.Ytclghkegfpcdpaa.Vm
open Go
set_option maxRecDepth 100000
set_option maxHeartbeats 1000000
set_option linter.unusedSimpArgs false
set_option linter.unusedVariables false
attribute [-simp] List.getD_eq_getElem?_getD
structure Owns (n:Nat)(H0 H:Hp)(vs:List V)(ls:List (List Int)):Prop where
  hx:HX H0 H
  len:vs.length=ls.length
  at':∀i,i<ls.length→OwnV n H (vs.getD i dv) (ls.getD i [])
  ap:∀i j,i<ls.length→j<ls.length→i≠j→∀b o z y o' z' y',vs.getD i dv=.sl b o z y→vs.getD j dv=.sl b o' z' y'→False
theorem getD_setX {α:Type}{l:List α}{i t:Nat}{x d:α}(h:i<l.length):(l.set i x).getD t d=if t=i then x else l.getD t d:=by
  simp only [List.getD_eq_getElem?_getD]
  by_cases e:t=i
  · subst e;simp [h]
  · rw [if_neg e,List.getElem?_set_ne (fun h=>e h.symm)]
section
variable {n lim:Nat}{H H0 H':Hp}{vs:List V}{ls:List (List Int)}
theorem isLp_ept {sz i:Nat}{v:V}:isLp (ept sz v i)=false:=by cases v<;>rfl
theorem OwnV.isP {v:V}{l:List Int}(h:OwnV n H v l){i:Nat}(hi:i<l.length):isPtr (ept 1 v i)=true∧isLp (ept 1 v i)=false:=by
  cases h with
  | nil=>simp at hi
  | row h1 h3=>exact ⟨rfl,rfl⟩
theorem Owns.push (h:Owns n H0 H vs ls) {i:Nat} (hi:i<ls.length) {x:Int} (hn:lim≤n∧H0.length≤n∧n≤H.length) (hl:(ls.getD i []).length<1000000) :
    ∃v' H',vappend lim 1 8 (H++[.row [.int .i64 x] true]) (vs.getD i dv) (.sl H.length 0 1 1)=some (v',H')∧Owns n H0 H' (vs.set i v') (ls.set i (ls.getD i []++[x]))∧H.length≤H'.length:=by
  obtain ⟨v',H',a1,a2,a3,a4,a5,a6⟩:=(h.at' i hi).appendF (lim:=lim) (x:=x) ⟨hn.1,hn.2.2⟩ hl
  have hlen:=h.len
  have other:∀j,j<ls.length→j≠i→∀b o m z,vs.getD j dv=.sl b o m z→b<H.length∧∀o z y,vs.getD i dv≠.sl b o z y:=fun j hj hne b o m z e =>
    ⟨((h.at' j hj).belowB _ _ _ _ e).2,fun o' z' y' e'=>h.ap i j hi hj (fun q=>hne q.symm) _ _ _ _ _ _ _ e' e⟩
  refine ⟨v',H',a1,⟨a3 _ h.hx hn.2.1,by simp [hlen],fun j hj => ?_,fun j k hj hk hjk b o z y o' z' y' e e' => ?_⟩,a4⟩
  · rw [List.length_set] at hj
    rw [getD_setX (by omega),getD_setX (by omega)]
    by_cases e:j=i
    · rw [if_pos e,if_pos e];exact a2
    · rw [if_neg e,if_neg e]
      exact (h.at' j hj).keepB fun b o m z q=>a5 b (other j hj e b o m z q).1 (other j hj e b o m z q).2
  · rw [List.length_set] at hj hk
    rw [getD_setX (by omega)] at e e'
    by_cases ej:j=i
    · rw [if_pos ej] at e
      rw [if_neg (by omega)] at e'
      have:=a6 _ _ _ _ e
      have:=((h.at' k hk).belowB _ _ _ _ e').2
      omega
    · rw [if_neg ej] at e
      by_cases ek:k=i
      · rw [if_pos ek] at e'
        have:=a6 _ _ _ _ e'
        have:=((h.at' j hj).belowB _ _ _ _ e).2
        omega
      · rw [if_neg ek] at e'
        exact h.ap j k hj hk hjk _ _ _ _ _ _ _ e e'
theorem Owns.put (h:Owns n H0 H vs ls) {i:Nat} (hi:i<ls.length) {l':List Int} (hl:l'.length=(ls.getD i []).length) (hn:H0.length≤n):Owns n H0 (setH H (vs.getD i dv) (ints l')) vs (ls.set i l') where
  hx:=setH_X h.hx (h.at' i hi) hn
  len:=by simp [h.len]
  at' := fun j hj=>by
    rw [List.length_set] at hj
    rw [getD_setX hi]
    by_cases e:j=i
    · subst e;rw [if_pos rfl];exact (h.at' j hi).put hl
    · rw [if_neg e]
      refine (h.at' j hj).keepB fun b o m z q => ?_
      have hap:=h.ap i j hi hj (fun q=>e q.symm)
      cases hv:vs.getD i dv with
      | sl b' o' m' z' =>
        simp only [setH]
        rw [List.getElem?_set_ne]
        rintro rfl
        exact hap _ _ _ _ _ _ _ hv q
      | _=>rfl
  ap:=fun j k hj hk=>by
    rw [List.length_set] at hj hk
    exact h.ap j k hj hk
theorem Owns.grow (h:Owns n H0 H vs ls)(hx:HX H H'):Owns n H0 H' vs ls:=⟨h.hx.trans hx,h.len,fun i hi=>(h.at' i hi).mono hx,h.ap⟩
end
theorem rd5_0 {x y z u w:V}:rd none [x,y,z,u,w] 0=some x:=Eq.trans rfl rfl
theorem rd5_1 {x y z u w:V}:rd none [x,y,z,u,w] 1=some y:=Eq.trans rfl rfl
theorem rd5_2 {x y z u w:V}:rd none [x,y,z,u,w] 2=some z:=Eq.trans rfl rfl
theorem rd5_3 {x y z u w:V}:rd none [x,y,z,u,w] 3=some u:=Eq.trans rfl rfl
theorem rd5_4 {x y z u w:V}:rd none [x,y,z,u,w] 4=some w:=Eq.trans rfl rfl
theorem rdA5 {x y z u w:V}:rd (some 5) [x,y,z,u,w] 0=some (.agg [x,y,z,u,w]):=Eq.trans rfl rfl
def upM (g:Nat→Int)(m:Nat):List Int:=(List.range m).map g
theorem upM_snoc {g:Nat→Int}{m:Nat}:upM g (m+1)=upM g m++[g m]:=by simp [upM,List.range_succ]
theorem upM_len {g:Nat→Int}{m:Nat}:(upM g m).length=m:=by simp [upM]
theorem upM_get {g:Nat→Int}{m i:Nat}(h:i<m):(upM g m).getD i 0=g i:=getD_map_range h
def ptL (L:List (Nat×Nat))(i:Nat):Int:=if alf L i=i then -1 else (alf L i:Nat)
theorem ptL_nil {i:Nat}:ptL [] i = -1:=by simp [ptL,alf]
theorem pt_seam {P:List Pc}{L:List (Nat×Nat)}{a b:Nat}(h:SmOk (nsN P) ((a,b) :: L)):((upM (ptL L) (nsN P)).set a (b:Nat)).set b (a:Nat)=upM (ptL ((a,b) :: L)) (nsN P):=by
  have hab:a≠b:=by cases h with | cons _ _ _ h3 _=>exact h3
  have ha:a<nsN P:=by cases h with | cons _ h1 _ _ _=>exact h1
  have hb:b<nsN P:=by cases h with | cons _ _ h2 _ _=>exact h2
  refine ext_getDA (by simp [upM_len]) fun k hk => ?_
  have hk':k<nsN P:=by simpa [upM_len] using hk
  have hco:=alf_cons (c:=k) h
  simp only at hco
  rw [getD_setX (by simp [upM_len];exact hb),getD_setX (by simp [upM_len];exact ha)]
  show _=(upM (ptL ((a,b) :: L)) (nsN P)).getD k 0
  rw [upM_get hk',ptL,hco]
  by_cases e1:k=a
  · subst e1
    rw [if_neg hab,if_pos rfl,if_pos rfl,if_neg (fun e=>hab e.symm)]
  · by_cases e2:k=b
    · subst e2
      rw [if_pos rfl,if_neg e1,if_pos rfl,if_neg (fun e=>e1 e.symm)]
    · rw [if_neg e2,if_neg e1,if_neg e1,if_neg e2]
      show (upM (ptL L) (nsN P)).getD k 0=_
      rw [upM_get hk'];rfl
structure NetV (H:Hp)(vs:List V)(c:Cp):Prop where
  ex:∃a b p x q,vs=[a,b,p,x,q]∧SlV H a (upM (lnN c.P) (nsN c.P))∧SlV H b (upM (anN c.P) (nsN c.P))∧SlV H p (upM (fun i=>(pcN c.P i:Nat)) (nsN c.P))∧SlV H x (upM (fun i=>(nxN c.P i:Nat)) (nsN c.P))∧SlV H q (upM (ptL (lsN c)) (nsN c.P))
section
variable {n lim:Nat}{H H0 H':Hp}{K:V→Hp→Prop}{v:V}{ws vs:List V}{c:Cp}
theorem NetV.mono (hx:HX H H')(h:NetV H vs c):NetV H' vs c:=by
  obtain ⟨a,b,p,x,q,e,h1,h2,h3,h4,h5⟩:=h.ex
  exact ⟨a,b,p,x,q,e,h1.mono hx,h2.mono hx,h3.mono hx,h4.mono hx,h5.mono hx⟩
def netL (P:List Pc)(L:List (Nat×Nat))(m:Nat)(f:List Int):List (List Int):=[upM (lnN P) m,upM (anN P) m,upM (fun i=>(pcN P i:Nat)) m,upM (fun i=>(nxN P i:Nat)) m,upM (ptL L) m,f]
theorem r02_open (hc:CapV H ws c) (hok:CapOk c) (hlim:lim≤H.length) (hK:∀H' vs,HX H H'→NetV H' vs c→K (.agg vs) H'):VCall tbl lim 60 [.agg ws] H K:=by
  cases hc with
  | mk hp hsv =>
  rename_i pv sv ps P S e
  refine VCall_fn tbl_at60 rfl ?_
  have hnp:=hok.np
  have hns:=hok.ns
  simp only at hnp hns
  have hsl:=ls_bd hok
  simp only at hsl
  have hks:∀q,q<P.length→3≤ksN P q∧ksN P q≤6:=fun q hq=>hok.ks hq
  have hof:∀q,q≤P.length→offN P q≤48:=fun q hq=>by have:=off_mono (pcs:=P) hq;unfold nsN at hns;omega
  simp [vf60,rd0,rd1',rd2',hp.lst.stor,hp.lst.one,hsv.stor,hsv.one,hp.vlen]
  refine wLoop_up P.length (fun i fr L H'=>∃va vb vp vx vq fv X,(fr 1=.lp 0 0∧fr 2=.lp 1 0∧fr 3=.lp 2 0∧fr 4=fv∧fr 5=.int .i64 i)∧L=[pv,sv,.int .i64 e] :: [.snil,.snil,.snil,.snil,.snil] :: [va,vb,vp,vx,vq] :: X∧Owns H.length H H' [va,vb,vp,vx,vq,fv] (netL P [] (offN P i) (offL P i))) ⟨.snil,.snil,.snil,.snil,.snil,.snil,[],by simp,by simp,⟨.refl,rfl,fun i hi => ?_,fun i j hi hj _ b o z y o' z' y' e _ => ?_⟩⟩ ?_
  · have:i=0∨i=1∨i=2∨i=3∨i=4∨i=5:=by simp [netL] at hi;omega
    rcases this with h | h | h | h | h | h<;>subst h<;>exact .nil
  · have:i=0∨i=1∨i=2∨i=3∨i=4∨i=5:=by simp [netL] at hi;omega
    rcases this with h | h | h | h | h | h<;>subst h<;>cases e
  rintro i hi fr L H1 ⟨va,vb,vp,vx,vq,fv,X,⟨f1,f2,f3,f4,f5⟩,rfl,hS⟩
  simp [f1,f2,f3,f4,f5,rd0,hp.vlen]
  have x1:HX H H1:=hS.hx
  have l1:=x1.len
  refine cond_dec (fun ht => ?_) fun hfl => ?_
  · have ht:i<P.length:=by omega
    have hp1:=hp.mono x1
    obtain ⟨s1,s2⟩:=hp1.at' i ht
    have hpo:=hok.pc i ht
    obtain ⟨g1,g2,g3,g4⟩:=piece_ok hpo
    simp only at g1 g2 g3 g4
    have hki:=hks i ht
    have hoi:=hof i (by omega)
    have ksd:ksN P i=(P.getD i default).s.length:=rfl
    have hl0:vlenS va=some (.int .i64 (offN P i)):=by
      have:vlenS va=some (.int .i64 ((upM (lnN P) (offN P i)).length:Nat)):=(hS.at' 0 (by simp [netL])).sl.len
      rw [upM_len] at this;exact this
    obtain ⟨fv2,H2,b1,hS2,l2⟩:=hS.push (lim:=lim) (i:=5) (by simp [netL]) (x:=(offN P i:Int)) ⟨hlim,Nat.le_refl _,by omega⟩ (by
      simp only [netL,List.getD_cons_succ,List.getD_cons_zero,offL_len];omega)
    simp only [List.getD_cons_succ,List.getD_cons_zero] at b1
    have x2:HX H H2:=hS2.hx
    simp [f1,f2,f3,f4,f5,hp1.at ht,hp1.ld2 ht,rd0,rd1',rd2',rdA2,splice,lastO,lastS,s1.stor,s1.one,s2.stor,s2.one,s1.len,hl0,b1]
    refine wLoop_up (ksN P i) (fun j fr L' H'=>∃va vb vp vx vq,(fr 1=.lp 0 0∧fr 2=.lp 1 0∧fr 3=.lp 2 0∧fr 4=fv2∧fr 5=.int .i64 i∧fr 6=.lp (X.length+3) 0∧fr 7=.int .i64 (offN P i)∧fr 8=.int .i64 j)∧L'=[pv,sv,.int .i64 e] :: [.snil,.snil,.snil,.snil,.snil] :: [va,vb,vp,vx,vq] :: (X++[[(ps.getD i default).1,(ps.getD i default).2]])∧Owns H.length H H' [va,vb,vp,vx,vq,fv2] (netL P [] (offN P i+j) (offL P i++[(offN P i:Int)]))) ⟨va,vb,vp,vx,vq,by simp [f1,f2,f3,f4,f5],rfl,hS2⟩ ?_
    clear f1 f2 f3 f4 f5 hl0 hS hS2 b1 hi x2 l2 fr
    rintro j hj fr L' H3 ⟨va,vb,vp,vx,vq,⟨f1,f2,f3,f4,f5,f6,f7,f8⟩,rfl,hS3⟩
    have x3:HX H H3:=hS3.hx
    have l3:=x3.len
    have hp3:=hp.mono x3
    obtain ⟨t1,t2⟩:=hp3.at' i ht
    simp [f1,f2,f3,f4,f5,f6,f7,f8,lastO,rd0,rd1',t1.len,←ksd]
    refine cond_dec (fun hjt => ?_) fun hjf => ?_
    · have hjt:j<ksN P i:=by omega
      have n0:∀k,k<5→((netL P [] (offN P i+j) (offL P i++[(offN P i:Int)])).getD k []).length<1000000:=by
        intro k hk
        have:k=0∨k=1∨k=2∨k=3∨k=4:=by omega
        rcases this with h | h | h | h | h<;>subst h<;>simp only [netL,List.getD_cons_succ,List.getD_cons_zero,upM_len]<;>omega
      have aa:=t1.addr (i:=(j:Int)) (by rw [←ksd];omega)
      simp only [Int.toNat_natCast] at aa
      have la:=fun L=>t1.load (i:=j) (by rw [←ksd];omega) (L:=L)
      obtain ⟨v0,H4,c0,hS4,l4⟩:=hS3.push (lim:=lim) (i:=0) (by simp [netL]) (x:=lnN P (offN P i+j)) ⟨hlim,Nat.le_refl _,by omega⟩ (n0 0 (by omega))
      have x4:HX H H4:=hS4.hx
      obtain ⟨_,u2⟩:=(hp.mono x4).at' i ht
      have ab:=u2.addr (i:=(j:Int)) (by rw [g2,←ksd];omega)
      simp only [Int.toNat_natCast] at ab
      have lb:=fun L=>u2.load (i:=j) (by rw [g2,←ksd];omega) (L:=L)
      rw [←ln_at ht hjt] at la
      rw [←an_at ht hjt] at lb
      obtain ⟨v1,H5,c1,hS5,l5⟩:=hS4.push (lim:=lim) (i:=1) (by simp [netL]) (x:=anN P (offN P i+j)) ⟨hlim,Nat.le_refl _,by omega⟩ (n0 1 (by omega))
      obtain ⟨v2,H6,c2,hS6,l6⟩:=hS5.push (lim:=lim) (i:=2) (by simp [netL]) (x:=(i:Int)) ⟨hlim,Nat.le_refl _,by omega⟩ (n0 2 (by omega))
      obtain ⟨v4,H7,c4,hS7,l7⟩:=hS6.push (lim:=lim) (i:=4) (by simp [netL]) (x:=(-1:Int)) ⟨hlim,Nat.le_refl _,by omega⟩ (n0 4 (by omega))
      have x7:HX H H7:=hS7.hx
      have hl7:=((hp.mono x7).at' i ht).1.len
      have e1:((j:Int)+1).tmod (ksN P i:Int)=(((j+1) % ksN P i:Nat):Int):=tmod_nat (j+1) (ksN P i)
      have m1:(j+1) % ksN P i<ksN P i:=Nat.mod_lt _ (by omega)
      have hnx:((offN P i:Int)+((j+1) % ksN P i:Nat))=(nxN P (offN P i+j):Nat):=by rw [nx_at ht hjt];omega
      obtain ⟨v3,H8,c3,hS8,l8⟩:=hS7.push (lim:=lim) (i:=3) (by simp [netL]) (x:=(nxN P (offN P i+j):Nat)) ⟨hlim,Nat.le_refl _,by omega⟩ (n0 3 (by omega))
      have hnl:nxN P (offN P i+j)<1000:=by
        have:=nx_pr.lt (offN P i+j) (off_lt (p:=P.length) ht hjt)
        omega
      simp only [List.getD_cons_succ,List.getD_cons_zero,List.set] at c0 c1 c2 c3 c4
      have z0:stor v0=true∧cellsV v0=[v0]:=⟨(hS8.at' 0 (by simp [netL])).sl.stor,(hS8.at' 0 (by simp [netL])).sl.one⟩
      have z1:stor v1=true∧cellsV v1=[v1]:=⟨(hS8.at' 1 (by simp [netL])).sl.stor,(hS8.at' 1 (by simp [netL])).sl.one⟩
      have z2:stor v2=true∧cellsV v2=[v2]:=⟨(hS8.at' 2 (by simp [netL])).sl.stor,(hS8.at' 2 (by simp [netL])).sl.one⟩
      have z3:stor v3=true∧cellsV v3=[v3]:=⟨(hS8.at' 3 (by simp [netL])).sl.stor,(hS8.at' 3 (by simp [netL])).sl.one⟩
      have z4:stor v4=true∧cellsV v4=[v4]:=⟨(hS8.at' 4 (by simp [netL])).sl.stor,(hS8.at' 4 (by simp [netL])).sl.one⟩
      have hne:(ksN P i:Int)≠0:=by omega
      have hvr:∀a:Int,vbin .rem (.int .i64 a) (.int .i64 (ksN P i:Int))=some (.int .i64 (a.tmod (ksN P i:Int))):=fun a=>vbin_rem hne
      rw [←ksd] at hl7
      generalize hm1:(j+1) % ksN P i=r1 at *
      generalize hqn:nxN P (offN P i+j)=q1 at *
      simp (disch:=omega) [f1,f2,f3,f4,f5,f6,f7,f8,rd0,rd1',rd2',rd3',lastO,aa,ab,la,lb,wrap_i64,hvr,e1,hnx,splice,zs5,c0,c1,c2,c3,c4,hl7,isLp_ept,z0,z1,z2,z3,z4,rd5_0,rd5_1,rd5_2,rd5_3,rd5_4]
      refine ⟨hjt,v0,v1,v2,v3,v4,⟨rfl,rfl,rfl,rfl,rfl⟩,?_⟩
      have key:netL P [] (offN P i+(j+1)) (offL P i++[(offN P i:Int)])=[upM (lnN P) (offN P i+j)++[lnN P (offN P i+j)],upM (anN P) (offN P i+j)++[anN P (offN P i+j)],upM (fun i=>(pcN P i:Nat)) (offN P i+j)++[(i:Int)],upM (fun i=>(nxN P i:Nat)) (offN P i+j)++[(q1:Int)],upM (ptL []) (offN P i+j)++[-1],offL P i++[(offN P i:Int)]]:=by
        rw [←Nat.add_assoc]
        simp only [netL,upM_snoc,pc_at ht hjt,hqn,ptL_nil]
      rw [key]
      exact hS8
    · have:j=ksN P i:=by omega
      subst this
      simp (disch:=omega) [f1,f2,f3,f4,f5,f6,f7,f8,wrap_i64]
      exact ⟨ht,va,vb,vp,vx,vq,⟨rfl,rfl,rfl,rfl,rfl⟩,by rw [offL_snoc];exact hS3⟩
  · have:i=P.length:=by omega
    subst this
    simp [f1,f2,f3,f4,f5,rd1',hsv.len]
    refine wLoop_up S.length (fun i fr L H'=>∃X,(fr 1=.lp 0 0∧fr 2=.lp 1 0∧fr 3=.lp 2 0∧fr 4=fv∧fr 9=.int .i64 i)∧L=[pv,sv,.int .i64 e] :: [.snil,.snil,.snil,.snil,.snil] :: [va,vb,vp,vx,vq] :: X∧Owns H.length H H' [va,vb,vp,vx,vq,fv] (netL P (prL P (S.take i)) (nsN P) (offL P P.length))) ⟨X,by simp [f1,f2,f3,f4],rfl,by
      have e0:prL P (S.take 0)=[]:=by simp [prL]
      rw [e0];exact hS⟩ ?_
    clear f1 f2 f3 f4 f5 hS hi fr hfl
    rintro i hi fr L H3 ⟨X,⟨f1,f2,f3,f4,f9⟩,rfl,hS3⟩
    have x3:HX H H3:=hS3.hx
    have l3:=x3.len
    simp [f1,f2,f3,f4,f9,rd1',hsv.len]
    refine cond_dec (fun ht => ?_) fun hfl => ?_
    · have ht:i<S.length:=by omega
      have hs3:=hsv.mono x3
      have ld:=fun L=>hs3.load ht (L:=L)
      have hso:=hok.sm i ht
      have hpl:prL P (S.take (i+1))=prS P (S.getD i default) :: prL P (S.take i):=by
        rw [take_next ht,prL,List.map_append,List.reverse_append];rfl
      have hsk:=seams_ok hok (n:=i+1) ht
      simp only at hsk
      rw [hpl] at hsk ⊢
      simp only at hso
      generalize hs:S.getD i default=s at ld hso hsk ⊢
      have ec:smC.cells s=[.int .i64 s.A,.int .i64 s.I,.int .i64 s.B,.int .i64 s.J]:=rfl
      rw [ec] at ld
      obtain ⟨⟨q1,q2⟩,_,_,_⟩:=seam_ok hso
      obtain ⟨a1,a2,a3,a4⟩:=sd_ok q1
      obtain ⟨b1,b2,b3,b4⟩:=sd_ok q2
      have oa:=hof s.A.toNat (by omega)
      have ob:=hof s.B.toNat (by omega)
      have ka:=hks _ a1
      have kb:=hks _ b1
      have ofv:SlV H3 fv (offL P P.length):=(hS3.at' 5 (by simp [netL])).sl
      have aa:=ofv.addr (i:=s.A) (by rw [offL_len];omega)
      have ab:=ofv.addr (i:=s.B) (by rw [offL_len];omega)
      have la:=fun L=>ofv.load (i:=s.A.toNat) (by rw [offL_len];omega) (L:=L)
      have lb:=fun L=>ofv.load (i:=s.B.toNat) (by rw [offL_len];omega) (L:=L)
      rw [offL_get a1] at la
      rw [offL_get b1] at lb
      have hsk2:=hsk
      generalize hab:prS P s=ab' at hsk hsk2 ⊢
      obtain ⟨a,b⟩:=ab'
      simp only [prS,Prod.mk.injEq] at hab
      cases hsk2 with
      | cons _ h1 h2 h3 h4 =>
      simp only at h1 h2 h3
      have ea:(offN P s.A.toNat:Int)+s.I=(a:Nat):=by omega
      have eb:(offN P s.B.toNat:Int)+s.J=(b:Nat):=by omega
      have wa:IntKind.wrap .i64 (a:Int)=(a:Int):=wrap_i64 (by omega) (by omega)
      have wb:IntKind.wrap .i64 (b:Int)=(b:Int):=wrap_i64 (by omega) (by omega)
      have oq:OwnV H.length H3 vq (upM (ptL (prL P (S.take i))) (nsN P)):=hS3.at' 4 (by simp [netL])
      have ga:=oq.sl.addr (i:=(a:Int)) (by rw [upM_len];omega)
      have gb:=oq.sl.addr (i:=(b:Int)) (by rw [upM_len];omega)
      simp only [Int.toNat_natCast] at ga gb
      have st1:=fun L=>oq.store (lim:=lim) (i:=a) (x:=(b:Int)) (L:=L) ⟨hlim,by rw [upM_len];exact h1⟩
      have hS4:=hS3.put (i:=4) (by simp [netL]) (l':=(upM (ptL (prL P (S.take i))) (nsN P)).set a (b:Int)) (by rw [List.length_set];rfl) (Nat.le_refl _)
      have oq4:OwnV H.length (setH H3 vq (ints ((upM (ptL (prL P (S.take i))) (nsN P)).set a (b:Int)))) vq ((upM (ptL (prL P (S.take i))) (nsN P)).set a (b:Int)):=oq.put (by simp)
      have st2:=fun L=>oq4.store (lim:=lim) (i:=b) (x:=(a:Int)) (L:=L) ⟨hlim,by rw [List.length_set,upM_len];exact h2⟩
      have hS5:=hS4.put (i:=4) (by simp [netL]) (l':=((upM (ptL (prL P (S.take i))) (nsN P)).set a (b:Int)).set b (a:Int)) (by rw [List.length_set];rfl) (Nat.le_refl _)
      rw [pt_seam hsk] at hS5 st2
      have ls:vstore lim ([pv,sv,.int .i64 e] :: [.snil,.snil,.snil,.snil,.snil] :: [va,vb,vp,vx,vq] :: (X++[[.int .i64 0,.int .i64 0,.int .i64 0,.int .i64 0]])) H3 (.lp (X.length+3) 0) (.agg [.int .i64 s.A,.int .i64 s.I,.int .i64 s.B,.int .i64 s.J]) 4=some ([pv,sv,.int .i64 e] :: [.snil,.snil,.snil,.snil,.snil] :: [va,vb,vp,vx,vq] :: (X++[[.int .i64 s.A,.int .i64 s.I,.int .i64 s.B,.int .i64 s.J]]),H3):=by simp [vstore,splice]
      have ip1:=oq.isP (i:=a) (by rw [upM_len];exact h1)
      have ip2:=oq.isP (i:=b) (by rw [upM_len];exact h2)
      have r4:∀{x y z u w:V},rd none [x,y,z,u,w] 4=some w:=fun {x y z u w}=>Eq.trans rfl rfl
      simp (disch:=omega) [f1,f2,f3,f4,f9,hs3.at ht,ld,zs4,spl4,splice,lastO,lastS,rd0,rd1',rd2',rd3',r4,aa,ab,la,lb,ea,eb,wa,wb,ga,gb,st1,st2,ls,ip1,ip2,-vstore,wrap_i64]
      exact ⟨ht,hS5⟩
    · have:i=S.length:=by omega
      subst this
      rw [List.take_length] at hS3
      have s0:=(hS3.at' 0 (by simp [netL])).sl
      have s1:=(hS3.at' 1 (by simp [netL])).sl
      have s2:=(hS3.at' 2 (by simp [netL])).sl
      have s3:=(hS3.at' 3 (by simp [netL])).sl
      have s4:=(hS3.at' 4 (by simp [netL])).sl
      have r5:∀{x y z u w:V},rd (some 5) [x,y,z,u,w] 0=some (.agg [x,y,z,u,w]):=fun {x y z u w}=>Eq.trans rfl rfl
      simp [f2,f3,splice,r5]
      exact hK _ _ x3 ⟨_,_,_,_,_,rfl,s0,s1,s2,s3,s4⟩
end
end Go.Proofs.Ytclghkegfpcdpaa.Vm
namespace Go.Proofs.Ytclghkegfpcdpaa.Vm
open Go
set_option maxRecDepth 100000
set_option maxHeartbeats 1000000
set_option linter.unusedSimpArgs false
set_option linter.unusedVariables false
attribute [-simp] List.getD_eq_getElem?_getD Bool.exists_bool
section
variable {n lim:Nat}{H H0 H':Hp}{K:V→Hp→Prop}{v:V}{ws vs:List V}{c:Cp}{s:Nat}
theorem SlV.up {g:Nat→Int}{m:Nat}(h:SlV H v (upM g m)){i:Nat}(hi:i<m):viaddrS 1 v (.int .i64 (i:Int))=some (ept 1 v i)∧∀L,vload none L H (ept 1 v i)=some (.int .i64 (g i)):=by
  have a:=h.addr (i:=(i:Int)) (by rw [upM_len];omega)
  rw [Int.toNat_natCast] at a
  refine ⟨a,fun L => ?_⟩
  rw [h.load (by rw [upM_len];exact hi),upM_get hi]
def PassM (c:Cp)(l0:List Nat)(a:Nat)(ag:Bool)(l:List Nat):Prop:=(ag=true∧l.sum<l0.sum)∨(ag=false∧l=l0∧∀i,i<a→alf (lsN c) i≠i→l.getD i 0=l.getD (nuP c i) 0)
def FixM (c:Cp)(ag:Bool)(l:List Nat):Prop:=ag=true∨∀i,i<nsN c.P→alf (lsN c) i≠i→l.getD i 0=l.getD (nuP c i) 0
def sumB (ag:Bool)(l:List Nat):Nat:=l.sum+if ag then 1 else 0
end
end Go.Proofs.Ytclghkegfpcdpaa.Vm
namespace Go.Proofs.Ytclghkegfpcdpaa.Vm
open Go
set_option maxRecDepth 100000
set_option maxHeartbeats 1000000
set_option linter.unusedSimpArgs false
set_option linter.unusedVariables false
attribute [-simp] List.getD_eq_getElem?_getD Bool.exists_bool
section
variable {c:Cp}{f i:Nat}
def edgB (c:Cp)(d:Nat):Bool:=decide (alf (lsN c) d≠d)&&decide (alf (lsN c) (bfN c.P d)≠bfN c.P d)
noncomputable def innA (c:Cp)(f i:Nat):Bool:=(memE (PtR c) i f).all (edgB c)
noncomputable def sumA (c:Cp)(f i:Nat):Int:=((memE (PtR c) i f).map (anN c.P)).sum
open Classical in
noncomputable def ptsA (c:Cp)(b:Nat):List Ptt:=((List.range b).filter fun k=>decide (LeE (PtR c) k)).map (ptOf c)
end
structure PpS (n:Nat)(H0:Hp)(u:V)(pts:List Pnt)(q:List Ptt)(cv:V)(cur:List Int)(H:Hp):Prop where
  hx:HX H0 H
  ou:OwnT n pntC H u pts
  len:pts.length=q.length
  eq:∀i,i<q.length→(pts.getD i default).i=(q.getD i default).inn∧(pts.getD i default).a=(q.getD i default).ang∧(pts.getD i default).d=(q.getD i default).df
  oc:∀i,i<q.length→OwnV n H (pts.getD i default).v (natL (q.getD i default).cs)
  ow:OwnV n H cv cur
  ap:∀i,i<q.length→∀b o z y o' z' y',u=.sl b o z y→(pts.getD i default).v=.sl b o' z' y'→False
  aw:∀b o z y o' z' y',u=.sl b o z y→cv=.sl b o' z' y'→False
  ac:∀i,i<q.length→∀b o z y o' z' y',cv=.sl b o z y→(pts.getD i default).v=.sl b o' z' y'→False
section
variable {n lim:Nat}{H H0 H':Hp}{K:V→Hp→Prop}{u cv v:V}{pts:List Pnt}{q:List Ptt}{cur:List Int}{ws vs:List V}{c:Cp}
theorem PpS.pushC (h:PpS n H0 u pts q cv cur H){x:Int}(hn:lim≤n∧H0.length≤n∧n≤H.length)(hl:cur.length<1000000) :
    ∃cv' H',vappend lim 1 8 (H++[.row [.int .i64 x] true]) cv (.sl H.length 0 1 1)=some (cv',H')∧PpS n H0 u pts q cv' (cur++[x]) H'∧H.length≤H'.length:=by
  obtain ⟨v',H',a1,a2,a3,a4,a5,a6⟩:=h.ow.appendF (lim:=lim) (x:=x) ⟨hn.1,hn.2.2⟩ hl
  refine ⟨v',H',a1,⟨a3 _ h.hx hn.2.1,h.ou.keepB fun b o m z e=>a5 b (h.ou.belowB _ _ _ _ e).2 fun o' z' y' e'=>h.aw _ _ _ _ _ _ _ e e',h.len,h.eq,
    fun i hi=>(h.oc i hi).keepB fun b o m z e=>a5 b ((h.oc i hi).belowB _ _ _ _ e).2 fun o' z' y' e'=>h.ac i hi _ _ _ _ _ _ _ e' e,a2,h.ap,fun b o z y o' z' y' e e' => ?_,fun i hi b o z y o' z' y' e e' => ?_⟩,a4⟩
  · have:=(h.ou.belowB _ _ _ _ e).2
    have:=a6 _ _ _ _ e'
    omega
  · have:=((h.oc i hi).belowB _ _ _ _ e').2
    have:=a6 _ _ _ _ e
    omega
theorem PpS.pushU {p:Ptt}(h:PpS n H0 u pts q cv (natL p.cs) H){k:Int}(hn:lim≤n∧H0.length≤n∧n≤H.length)(hl:q.length<1000000) :
    ∃u' H',vappend lim 4 48 (H++[.row [cv,.bool p.inn,.int .i64 p.ang,.int .i64 p.df] true]) u (.sl H.length 0 1 4)=some (u',H')∧PpS n H0 u' (pts++[⟨cv,p.inn,p.ang,p.df,k⟩]) (q++[p]) .snil [] H'∧H.length≤H'.length:=by
  obtain ⟨v',H',a1,a2,a3,a4,a5,a6⟩:=h.ou.appendF2 (lim:=lim) (bytes:=48) (x:=⟨cv,p.inn,p.ang,p.df,k⟩) (cs:=[cv,.bool p.inn,.int .i64 p.ang,.int .i64 p.df]) rfl ⟨hn.1,hn.2.2⟩ (by omega) (by rw [h.len];exact hl)
  have hlen:=h.len
  refine ⟨v',H',a1,⟨a3 _ h.hx hn.2.1,a2,by simp [h.len],fun i hi => ?_,fun i hi => ?_,.nil,fun i hi b o z y o' z' y' e e' => ?_,fun b o z y o' z' y' _ e=>(by cases e),fun i hi b o z y o' z' y' e _=>(by cases e)⟩,a4⟩
  · rw [List.length_append,List.length_singleton] at hi
    by_cases hlt:i<q.length
    · rw [getD_lt (by omega),getD_lt (l:=q) hlt];exact h.eq i hlt
    · have:i=q.length:=by omega
      subst this
      rw [getD_last hlen.symm,getD_last rfl]
      exact ⟨rfl,rfl,rfl⟩
  · rw [List.length_append,List.length_singleton] at hi
    by_cases hlt:i<q.length
    · rw [getD_lt (by omega),getD_lt (l:=q) hlt]
      exact (h.oc i hlt).keepB fun b o m z e=>a5 b ((h.oc i hlt).belowB _ _ _ _ e).2 fun o' z' y' e'=>h.ap i hlt _ _ _ _ _ _ _ e' e
    · have:i=q.length:=by omega
      subst this
      rw [getD_last hlen.symm,getD_last rfl]
      exact h.ow.keepB fun b o m z e=>a5 b (h.ow.belowB _ _ _ _ e).2 fun o' z' y' e'=>h.aw _ _ _ _ _ _ _ e' e
  · rw [List.length_append,List.length_singleton] at hi
    have h6:=a6 _ _ _ _ e
    by_cases hlt:i<q.length
    · rw [getD_lt (by omega)] at e'
      have:=(h.oc i hlt).belowB _ _ _ _ e'
      omega
    · have:i=q.length:=by omega
      subst this
      rw [getD_last hlen.symm] at e'
      have:=h.ow.belowB _ _ _ _ e'
      omega
end
end Go.Proofs.Ytclghkegfpcdpaa.Vm
namespace Go.Proofs.Ytclghkegfpcdpaa.Vm
open Go
set_option maxRecDepth 100000
set_option maxHeartbeats 1000000
set_option linter.unusedSimpArgs false
set_option linter.unusedVariables false
attribute [-simp] List.getD_eq_getElem?_getD Bool.exists_bool
structure PassP (c:Cp)(l0:List Nat)(a:Nat)(l:List Nat):Prop where
  low:LowM (PrtR c) c.P.length l
  le:∀x,l.getD x 0≤l0.getD x 0
  sm:∀i,i<a→alf (lsN c) i≠i→l.getD (pcN c.P i) 0≤l0.getD (pcN c.P (alf (lsN c) i)) 0
section
variable {n lim:Nat}{H H0 H':Hp}{K:V→Hp→Prop}{v:V}{ws vs:List V}{c:Cp}{a:Nat}{l l0:List Nat}
theorem PassP.skip (h:PassP c l0 a l)(hf:alf (lsN c) a=a):PassP c l0 (a+1) l where
  low:=h.low
  le:=h.le
  sm:=fun i hi hne=>by
    by_cases e:i=a
    · subst e;exact absurd hf hne
    · exact h.sm i (by omega) hne
theorem PassP.step (hok:CapOk c)(h:PassP c l0 a l)(ha:a<nsN c.P):PassP c l0 (a+1) (lowS l (pcN c.P a) (pcN c.P (alf (lsN c) a))):=by
  have hal:=hok.sm_ok.pr.lt a ha
  have h1:pcN c.P a<l.length:=by rw [h.low.len];exact pc_lt ha
  have h2:pcN c.P (alf (lsN c) a)<l.length:=by rw [h.low.len];exact pc_lt hal
  refine ⟨h.low.step prtE_eqv (pc_lt ha) (pc_lt hal) prtE_sewn,fun x=>Nat.le_trans (lowS_le h1 h2) (h.le x),fun i hi hne => ?_⟩
  by_cases e:i=a
  · subst e
    rw [lowS_get h1 h2,if_pos (Or.inr rfl)]
    exact Nat.le_trans (Nat.min_le_right _ _) (h.le _)
  · exact Nat.le_trans (lowS_le h1 h2) (h.sm i (by omega) hne)
end
end Go.Proofs.Ytclghkegfpcdpaa.Vm
namespace Go.Proofs.Ytclghkegfpcdpaa.Vm
open Go
set_option maxRecDepth 100000
set_option maxHeartbeats 1000000
set_option linter.unusedSimpArgs false
set_option linter.unusedVariables false
attribute [-simp] List.getD_eq_getElem?_getD Bool.exists_bool
structure LqS (n0:Nat)(H0:Hp)(M:List Bool)(u:V)(us:List V)(ls:List (List Int))(cv:V)(cur:List Int)(H:Hp):Prop where
  hx:HX H0 H
  hn:H0.length=n0
  b1:H[n0]? = some (.row (boolL M) true)
  ou:OwnT (n0+1) vC H u us
  len:us.length=ls.length
  oc:∀i,i<us.length→OwnV (n0+1) H (us.getD i dv) (ls.getD i [])
  ow:OwnV (n0+1) H cv cur
  ap:∀i,i<us.length→∀b o z y o' z' y',u=.sl b o z y→us.getD i dv=.sl b o' z' y'→False
  aw:∀b o z y o' z' y',u=.sl b o z y→cv=.sl b o' z' y'→False
  ac:∀i,i<us.length→∀b o z y o' z' y',cv=.sl b o z y→us.getD i dv=.sl b o' z' y'→False
section
variable {n0 lim:Nat}{H H0 H':Hp}{K:V→Hp→Prop}{lv u cv v:V}{M M':List Bool}{us:List V}{ls:List (List Int)}{cur:List Int}{c:Cp}{s:Nat}
theorem LqS.big (h:LqS n0 H0 M u us ls cv cur H):n0+1≤H.length:=(List.getElem?_eq_some_iff.1 h.b1).1
theorem LqS.move (h:LqS n0 H0 M u us ls cv cur H)(ho:OthM n0 H H')(hm:H'[n0]? = some (.row (boolL M') true)):LqS n0 H0 M' u us ls cv cur H' where
  hx:=HX.of (by have:=h.hx.len;have:=ho.1;omega) fun b hb=>by
    have:=h.hx.len
    have:=h.hn
    rw [ho.2 b (by omega) (by omega),h.hx.same hb]
  hn:=h.hn
  b1:=hm
  ou:=h.ou.keepB fun b o m z e=>by have:=h.ou.belowB _ _ _ _ e;exact ho.2 b (by omega) (by omega)
  len:=h.len
  oc:=fun i hi=>(h.oc i hi).keepB fun b o m z e=>by have:=(h.oc i hi).belowB _ _ _ _ e;exact ho.2 b (by omega) (by omega)
  ow:=h.ow.keepB fun b o m z e=>by have:=h.ow.belowB _ _ _ _ e;exact ho.2 b (by omega) (by omega)
  ap:=h.ap
  aw:=h.aw
  ac:=h.ac
theorem LqS.grow (h:LqS n0 H0 M u us ls cv cur H)(hx:HX H H'):LqS n0 H0 M u us ls cv cur H':=h.move ⟨hx.len,fun b hb _=>hx.same hb⟩ (hx.get h.b1)
theorem LqS.put (h:LqS n0 H0 M u us ls cv cur H){k:Nat}:LqS n0 H0 (M.set k true) u us ls cv cur (H.set n0 (.row (boolL (M.set k true)) true)) :=
  h.move ⟨by simp,fun b hb hne=>List.getElem?_set_ne (fun e=>hne e.symm)⟩ (List.getElem?_set_self h.big)
theorem LqS.pushC (h:LqS n0 H0 M u us ls cv cur H){x:Int}(hlim:lim≤n0)(hl:cur.length<1000000) :
    ∃cv' H',vappend lim 1 8 (H++[.row [.int .i64 x] true]) cv (.sl H.length 0 1 1)=some (cv',H')∧LqS n0 H0 M u us ls cv' (cur++[x]) H':=by
  have hb:=h.big
  obtain ⟨v',H',a1,a2,a3,a4,a5,a6⟩:=h.ow.appendF (lim:=lim) (x:=x) ⟨by omega,by omega⟩ hl
  have bo:∀b,b<n0+1→∀o z y,cv≠.sl b o z y:=fun b hb o z y e=>by have:=h.ow.belowB _ _ _ _ e;omega
  have hh:=h.hn
  refine ⟨v',H',a1,⟨a3 _ h.hx (by omega),h.hn,(a5 n0 (by omega) (bo _ (by omega))).trans h.b1,h.ou.keepB fun b o m z e=>a5 b (h.ou.belowB _ _ _ _ e).2 fun o' z' y' e'=>h.aw _ _ _ _ _ _ _ e e',h.len,
    fun i hi=>(h.oc i hi).keepB fun b o m z e=>a5 b ((h.oc i hi).belowB _ _ _ _ e).2 fun o' z' y' e'=>h.ac i hi _ _ _ _ _ _ _ e' e,a2,h.ap,fun b o z y o' z' y' e e' => ?_,fun i hi b o z y o' z' y' e e' => ?_⟩⟩
  · have:=(h.ou.belowB _ _ _ _ e).2
    have:=a6 _ _ _ _ e'
    omega
  · have:=((h.oc i hi).belowB _ _ _ _ e').2
    have:=a6 _ _ _ _ e
    omega
theorem LqS.pushU (h:LqS n0 H0 M u us ls cv cur H)(hlim:lim≤n0)(hl:us.length<1000000) :
    ∃u' H',vappend lim 1 24 (H++[.row [cv] true]) u (.sl H.length 0 1 1)=some (u',H')∧LqS n0 H0 M u' (us++[cv]) (ls++[cur]) .snil [] H':=by
  have hb:=h.big
  obtain ⟨v',H',a1,a2,a3,a4,a5,a6⟩:=h.ou.appendF2 (lim:=lim) (bytes:=24) (x:=cv) (cs:=[cv]) rfl ⟨by omega,by omega⟩ (by omega) hl
  have bo:∀b,b<n0+1→∀o z y,u≠.sl b o z y:=fun b hb o z y e=>by have:=h.ou.belowB _ _ _ _ e;omega
  have hh:=h.hn
  refine ⟨v',H',a1,⟨a3 _ h.hx (by omega),h.hn,(a5 n0 (by omega) (bo _ (by omega))).trans h.b1,a2,by simp [h.len],fun i hi => ?_,.nil,fun i hi b o z y o' z' y' e e' => ?_,fun b o z y o' z' y' _ e=>(by cases e),fun i hi b o z y o' z' y' e _=>(by cases e)⟩⟩
  · rw [List.length_append,List.length_singleton] at hi
    by_cases hlt:i<us.length
    · rw [getD_lt hlt,getD_lt (l:=ls) (by rw [←h.len];exact hlt)]
      exact (h.oc i hlt).keepB fun b o m z e=>a5 b ((h.oc i hlt).belowB _ _ _ _ e).2 fun o' z' y' e'=>h.ap i hlt _ _ _ _ _ _ _ e' e
    · have:i=us.length:=by omega
      subst this
      rw [getD_last rfl,getD_last h.len]
      exact h.ow.keepB fun b o m z e=>a5 b (h.ow.belowB _ _ _ _ e).2 fun o' z' y' e'=>h.aw _ _ _ _ _ _ _ e' e
  · rw [List.length_append,List.length_singleton] at hi
    have h6:=a6 _ _ _ _ e
    by_cases hlt:i<us.length
    · rw [getD_lt hlt] at e'
      have:=(h.oc i hlt).belowB _ _ _ _ e'
      omega
    · have:i=us.length:=by omega
      subst this
      rw [getD_last rfl] at e'
      have:=h.ow.belowB _ _ _ _ e'
      omega
theorem sg_def (hok:CapOk c)(hf:alf (lsN c) s=s):sgN (nsN c.P) (nxN c.P) (lsN c) s=itN (nuP c) (rnN (nsN c.P) (nxN c.P) (lsN c) (nuP c s)) (nuP c s):=by
  rw [sgN,if_pos hf];rfl
theorem r02_loops {vs:List V} (hn:NetV H vs c) (hok:CapOk c) (hlim:lim≤H.length) (hK:∀H' v,HX H H'→LlsV H.length H' v ((loopP c).map natL)→K v H'):VCall tbl lim 68 [.agg vs] H K:=by
  obtain ⟨va,vb,vp,vx,vq,rfl,h1,h2,h3,h4,h5⟩:=hn.ex
  have hns:=hok.ns
  have hnu:=hok.nu
  have hsm:=hok.sm_ok
  have hsg:=sg_pr hnu
  have hl0:vlenS va=some (.int .i64 (nsN c.P)):=by rw [h1.len,upM_len]
  have hmk:=fun L=>mk_bools (H:=H) (L:=L) (n:=nsN c.P) (by omega)
  refine VCall_fn tbl_at68 rfl ?_
  simp [vf68,rd5_0,hl0,hmk]
  refine wLoop_up (nsN c.P) (fun i fr L H'=>∃M u us,(fr 1=.lp 0 0∧fr 3=.sl H.length 0 (nsN c.P) 1∧fr 4=u∧fr 5=.int .i64 i)∧L=[[va,vb,vp,vx,vq]]∧M.length=nsN c.P∧LqS H.length H M u us ((frsA c i).map fun f=>natL (lpP c f)) .snil [] H'∧∀k:Nat,M.getD k false=true↔∃r,r∈frsA c i∧k∈lpP c r) ⟨List.replicate (nsN c.P) false,.snil,[],by simp,rfl,by simp,⟨⟨_,rfl⟩,rfl,by simp,.nil,by simp [frsA],fun i hi=>(by simp at hi),.nil,fun i hi=>(by simp at hi),fun b o z y o' z' y' e _=>(by cases e),fun i hi=>(by simp at hi)⟩,fun k => ?_⟩ ?_
  · have:(List.replicate (nsN c.P) false).getD k false=false:=by
      simp only [List.getD_eq_getElem?_getD,List.getElem?_replicate];split<;>rfl
    simp [this,frsA]
  rintro i hi fr L H1 ⟨M,u,us,⟨f1,f3,f4,f5⟩,rfl,hml,hS,hM⟩
  simp [f1,f3,f4,f5]
  refine cond_dec (fun ht => ?_) fun hfl => ?_
  · have ht : i < nsN c.P:=by omega
    have x1:HX H H1:=hS.hx
    have ad:=rw_addr (b:=H.length) ht
    have ld:=bl_ld hS.b1 (x:=i) (by omega)
    have q5:=(h5.mono x1).up ht
    cases hlo:M.getD i false with
    | true =>
      have hnf:¬FrsP c i:=by
        intro hfr
        exact (seen_iff hok ht hfr.2).1 ((hM i).1 hlo) hfr
      rw [hlo] at ld
      simp (disch:=omega) [f1,f3,f4,f5,ad,ld,wrap_i64]
      rw [frs_no hnf]
      exact ⟨ht,M,hml,⟨_,hS⟩,hM⟩
    | false =>
      rw [hlo] at ld
      by_cases hf:alf (lsN c) i=i
      case neg =>
        have hnf:¬FrsP c i:=fun h=>hf h.2
        have e5:ptL (lsN c) i=(alf (lsN c) i:Nat):=by rw [ptL,if_neg hf]
        rw [e5] at q5
        generalize alf (lsN c) i=p at *
        have dn:((0:Int)≤(p:Int))=True:=eq_true (by omega)
        simp (disch:=omega) [f1,f3,f4,f5,ad,ld,rd5_4,q5.1,q5.2,dn,wrap_i64]
        rw [frs_no hnf]
        exact ⟨ht,M,hml,⟨_,hS⟩,hM⟩
      have e5:ptL (lsN c) i = -1:=by rw [ptL,if_pos hf]
      rw [e5] at q5
      have hsn:=(hM i).trans (seen_iff hok ht hf)
      have hfr:FrsP c i:=by
        apply Classical.byContradiction
        intro hn
        have:=hsn.2 hn
        rw [hlo] at this;cases this
      simp [f1,f3,f4,f5,ad,ld,rd5_4,q5.1,q5.2]
      obtain ⟨p1,⟨p2,p3⟩,p4⟩:=per_spec hsg ht
      have hlp:lpP c i=lpN (nsN c.P) (sgN (nsN c.P) (nxN c.P) (lsN c)) i:=rfl
      have hlall:=lpL_all (c:=c) (f:=i)
      generalize hm:perN (nsN c.P) (sgN (nsN c.P) (nxN c.P) (lsN c)) i=m at *
      refine wLoop_up m (fun j fr L H'=>∃M' cv,(fr 1=.lp 0 0∧fr 3=.sl H.length 0 (nsN c.P) 1∧fr 4=u∧fr 5=.int .i64 i∧fr 6=cv∧fr 7=.int .i64 (itN (sgN (nsN c.P) (nxN c.P) (lsN c)) j i:Nat))∧L=[[va,vb,vp,vx,vq]]∧M'.length=nsN c.P∧LqS H.length H M' u us ((frsA c i).map fun f=>natL (lpP c f)) cv (lpL c i j) H'∧∀k:Nat,M'.getD k false=true↔M.getD k false=true∨∃t,t<j∧k=itN (sgN (nsN c.P) (nxN c.P) (lsN c)) t i) ⟨M,.snil,by simp [f1,f3,f4,f5,itN],rfl,hml,by simpa [lpL] using hS,fun k=>by simp⟩ ?_
      clear f1 f3 f4 f5 ad ld hlo q5 x1 fr
      rintro j hj fr L H2 ⟨M',cv,⟨f1,f3,f4,f5,f6,f7⟩,rfl,hml2,hS2,hM2⟩
      have hq:=hsg.it ht j
      have hqf:=sg_stays hnu hf (hsg.orb ht j)
      have ad:=rw_addr (b:=H.length) hq
      have ld:=bl_ld hS2.b1 (x:=itN (sgN (nsN c.P) (nxN c.P) (lsN c)) j i) (by omega)
      have hsee:=hM2 (itN (sgN (nsN c.P) (nxN c.P) (lsN c)) j i)
      by_cases hjm:j=m
      · have hseen:M'.getD (itN (sgN (nsN c.P) (nxN c.P) (lsN c)) j i) false=true:=by
          rw [hsee];right;exact ⟨0,by omega,by rw [hjm,p3];rfl⟩
        rw [hseen] at ld
        subst hjm
        obtain ⟨u2,H3,b1,hS3⟩:=hS2.pushU (lim:=lim) hlim (by
          have h1:=hS2.len
          rw [List.length_map] at h1
          have h2:(frsA c i).length≤i:=by
            unfold frsA;exact Nat.le_trans (List.length_filter_le _ _) (by simp)
          omega)
        simp (disch:=omega) [f1,f3,f4,f5,f6,f7,ad,ld,hS2.ow.sl.stor,hS2.ow.sl.one,splice,b1,wrap_i64]
        refine ⟨ht,M',hml2,⟨us++[cv],?_⟩,fun k => ?_⟩
        · rw [frs_yes hfr,List.map_append,List.map_cons,List.map_nil,←hlall]
          exact hS3
        · rw [hM2 k,hM k,frs_yes hfr]
          constructor
          · rintro (⟨r,h1,h2⟩ | ⟨t,h1,h2⟩)
            · exact ⟨r,List.mem_append_left _ h1,h2⟩
            · refine ⟨i,by simp,?_⟩
              rw [hlp,lp_mem hsg ht,h2]
              exact hsg.orb ht t
          · rintro ⟨r,h1,h2⟩
            rcases List.mem_append.1 h1 with h1 | h1
            · exact Or.inl ⟨r,h1,h2⟩
            · rw [List.mem_singleton] at h1
              subst h1
              right
              rw [hlp,lpN,hm] at h2
              obtain ⟨t,h3,h4⟩:=List.mem_map.1 h2
              exact ⟨t,List.mem_range.1 h3,h4.symm⟩
      · have hlt:j<m:=by omega
        have hseen:M'.getD (itN (sgN (nsN c.P) (nxN c.P) (lsN c)) j i) false=false:=by
          cases hb:M'.getD (itN (sgN (nsN c.P) (nxN c.P) (lsN c)) j i) false with
          | false=>rfl
          | true =>
            rcases hsee.1 hb with h | ⟨t,h1,h2⟩
            · obtain ⟨r,h1,h2⟩:=(hM _).1 h
              obtain ⟨r1,r2,r3⟩:=mem_frs.1 h1
              rw [lpP,lp_mem hsg (by omega)] at h2
              exact absurd (hsg.eqv.tr (hsg.orb ht j) (hsg.eqv.sy h2)) (hfr.1 r r1)
            · have:=hsg.back ht t (j-t) (by rw [show t+(j-t)=j by omega];exact h2)
              exact absurd ⟨by omega,this⟩ (p4 (j-t) (by omega))
        rw [hseen] at ld
        have hnx:itN (sgN (nsN c.P) (nxN c.P) (lsN c)) (j+1) i=sgN (nsN c.P) (nxN c.P) (lsN c) (itN (sgN (nsN c.P) (nxN c.P) (lsN c)) j i):=rfl
        generalize hqe:itN (sgN (nsN c.P) (nxN c.P) (lsN c)) j i=q at *
        have hsd:=sg_def hok hqf
        have st:=bl_st (lim:=lim) (y:=true) hS2.b1 hlim (x:=q) (by omega)
        have hS3:=hS2.put (k:=q)
        generalize hH3:H2.set H.length (.row (boolL (M'.set q true)) true)=H3 at *
        obtain ⟨cv2,H4,b1,hS4⟩:=hS3.pushC (lim:=lim) (x:=(q:Int)) hlim (by rw [lpL_len];omega)
        have hb4:=hS4.big
        have x4:HX H H4:=hS4.hx
        have q4:=(h4.mono x4).up hq
        have e4:nxN c.P q=nuP c q:=by
          show _=nxN c.P (alf (lsN c) q)
          rw [hqf]
        simp only [e4] at q4
        simp [f1,f3,f4,f5,f6,f7,ad,ld,st,b1,rd5_3,q4.1,q4.2,-vstore]
        have hc0:nuP c q<nsN c.P:=hnu.lt q hq
        obtain ⟨w1,w2,w3⟩:=rn_spec hnu hc0
        refine wLoop_up (rnN (nsN c.P) (nxN c.P) (lsN c) (nuP c q)) (fun t fr L H'=>(fr 1=.lp 0 0∧fr 3=.sl H.length 0 (nsN c.P) 1∧fr 4=u∧fr 5=.int .i64 i∧fr 6=cv2∧fr 7=.int .i64 (itN (nuP c) t (nuP c q):Nat))∧L=[[va,vb,vp,vx,vq]]∧H'=H4) ⟨by simp [f1,f3,f4,f5,itN],rfl,rfl⟩ ?_
        clear f1 f3 f4 f5 f6 f7 ad ld st q4 fr
        rintro t htr fr L H5 ⟨⟨f1,f3,f4,f5,f6,f7⟩,rfl,rfl⟩
        have hqt:=hnu.it hc0 t
        have q5:=(h5.mono x4).up hqt
        by_cases htl:t=rnN (nsN c.P) (nxN c.P) (lsN c) (nuP c q)
        · subst htl
          have hfe:alf (lsN c) (itN (nuP c) (rnN (nsN c.P) (nxN c.P) (lsN c) (nuP c q)) (nuP c q))=itN (nuP c) (rnN (nsN c.P) (nxN c.P) (lsN c) (nuP c q)) (nuP c q):=by
            have:=sg_free hnu hq hqf
            rw [hsd] at this;exact this
          have e5:ptL (lsN c) (itN (nuP c) (rnN (nsN c.P) (nxN c.P) (lsN c) (nuP c q)) (nuP c q)) = -1:=by rw [ptL,if_pos hfe]
          rw [e5] at q5
          rw [←hsd] at f7 q5
          generalize hsq:sgN (nsN c.P) (nxN c.P) (lsN c) q=sq at *
          simp [f1,f3,f4,f5,f6,f7,rd5_4,q5.1,q5.2]
          refine ⟨hlt,M'.set q true,cv2,⟨rfl,?_⟩,by simp [hml2],?_,fun k => ?_⟩
          · rw [hnx]
          · rw [lpL_snoc,hqe];exact hS4
          · rw [getD_setX (by omega)]
            by_cases e:k=q
            · subst e
              rw [if_pos rfl]
              simp only [true_iff]
              exact Or.inr ⟨j,by omega,hqe.symm⟩
            · rw [if_neg e,hM2 k]
              constructor
              · rintro (h | ⟨t,h1,h2⟩)
                · exact Or.inl h
                · exact Or.inr ⟨t,by omega,h2⟩
              · rintro (h | ⟨t,h1,h2⟩)
                · exact Or.inl h
                · rcases Nat.lt_or_ge t j with h3 | h3
                  · exact Or.inr ⟨t,h3,h2⟩
                  · have:t=j:=by omega
                    subst this
                    rw [hqe] at h2
                    exact absurd h2 e
        · have htl':t<rnN (nsN c.P) (nxN c.P) (lsN c) (nuP c q):=by omega
          have hne:alf (lsN c) (itN (nuP c) t (nuP c q))≠itN (nuP c) t (nuP c q):=(w3 t htl').1
          have hal:=hsm.pr.lt _ hqt
          have e5:ptL (lsN c) (itN (nuP c) t (nuP c q))=(alf (lsN c) (itN (nuP c) t (nuP c q)):Nat):=by rw [ptL,if_neg hne]
          rw [e5] at q5
          have q4:=(h4.mono x4).up hal
          have e4:nxN c.P (alf (lsN c) (itN (nuP c) t (nuP c q)))=itN (nuP c) (t+1) (nuP c q):=rfl
          simp only [e4] at q4
          generalize itN (nuP c) (t+1) (nuP c q)=z1 at *
          generalize itN (nuP c) t (nuP c q)=z0 at *
          generalize alf (lsN c) z0=p at *
          have dn:((0:Int)≤(p:Int))=True:=eq_true (by omega)
          simp [f1,f3,f4,f5,f6,f7,rd5_3,rd5_4,q5.1,q5.2,q4.1,q4.2,dn]
          exact htl'
  · have:i=nsN c.P:=by omega
    subst this
    simp [f4,hS.ou.lst.stor]
    refine hK _ _ hS.hx ⟨us,hS.ou.le (by omega),?_,fun i hi => ?_⟩
    · rw [hS.len,frs_all,List.length_map,List.length_map,loopP,loopsN,List.length_map]
    · have e:(loopP c).map natL=(frsA c (nsN c.P)).map fun f=>natL (lpP c f):=by
        rw [frs_all,loopP,loopsN,List.map_map];rfl
      rw [e] at hi ⊢
      exact (hS.oc i (by rw [hS.len];exact hi)).le (by omega)
end
end Go.Proofs.Ytclghkegfpcdpaa.Vm
namespace Go.Proofs.Ytclghkegfpcdpaa.Vm
open Go
set_option maxRecDepth 100000
set_option maxHeartbeats 1000000
set_option linter.unusedSimpArgs false
set_option linter.unusedVariables false
attribute [-simp] List.getD_eq_getElem?_getD Bool.exists_bool
section
variable {n lim:Nat}{H H0 H':Hp}{K:V→Hp→Prop}{v w:V}{ws vs:List V}{c:Cp}
theorem ShortC.vb (hsh:ShortC c):c.P.length≤1000000∧c.S.length≤1000000∧∀q,q<c.P.length→(c.P.getD q default).s.length≤100000 :=
  ⟨by have:=hsh.np;omega,by have:=hsh.ns;omega,fun q hq=>by have:=(hsh.pc q hq).1;omega⟩
theorem PtlV.le {m:Nat}{q:List Ptt}(h:PtlV m H v q)(hnm:n≤m):PtlV n H v q:=by
  obtain ⟨pts,o1,o2,o3⟩:=h.ex
  exact ⟨⟨pts,o1.le hnm,o2,fun i hi=>⟨(o3 i hi).1,(o3 i hi).2.1,(o3 i hi).2.2.1,(o3 i hi).2.2.2.le hnm⟩⟩⟩
theorem PtlV.mono {q:List Ptt}(hx:HX H H')(h:PtlV n H v q):PtlV n H' v q:=by
  obtain ⟨pts,o1,o2,o3⟩:=h.ex
  exact ⟨⟨pts,o1.mono hx,o2,fun i hi=>⟨(o3 i hi).1,(o3 i hi).2.1,(o3 i hi).2.2.1,(o3 i hi).2.2.2.mono hx⟩⟩⟩
theorem PtlV.nil:PtlV n H .snil []:=⟨⟨[],.nil,rfl,fun i hi=>by simp at hi⟩⟩
theorem LlsV.le {m:Nat}{q:List (List Int)}(h:LlsV m H v q)(hnm:n≤m):LlsV n H v q:=by
  obtain ⟨us,o1,o2,o3⟩:=h.ex
  exact ⟨⟨us,o1.le hnm,o2,fun i hi=>(o3 i hi).le hnm⟩⟩
theorem LlsV.mono {q:List (List Int)}(hx:HX H H')(h:LlsV n H v q):LlsV n H' v q:=by
  obtain ⟨us,o1,o2,o3⟩:=h.ex
  exact ⟨⟨us,o1.mono hx,o2,fun i hi=>(o3 i hi).mono hx⟩⟩
theorem LlsV.nil:LlsV n H .snil []:=⟨⟨[],.nil,rfl,fun i hi=>by simp at hi⟩⟩
theorem r02_Loops (hc:CapV H ws c)(hsh:ShortC c)(hlim:lim≤H.length)(hK:∀H' v,HX H H'→(capE c=0→LlsV H.length H' v ((loopP c).map natL))→(capE c≠0→v=.snil)→K (.tup [v,.int .i64 (capE c)]) H'):VCall tbl lim 30 [.agg ws] H K:=by
  obtain ⟨pv,sv,ps,rfl,hp,hs,z1,z2,z3,z4⟩:=hc.form
  refine VCall_fn tbl_at30 rfl ?_
  simp [vf30,z1,z2,z3,z4,rdA3]
  refine r02_Validate hc hsh.vb ?_
  by_cases he:capE c=0
  case neg =>
    have:=hK H .snil .refl (fun h=>absurd h he) (fun _=>rfl)
    simp [he,z1,z2,z3,z4]
    exact this
  have hok:=capE_ok.1 he
  simp [he,rdA3,z1,z2,z3,z4]
  refine r02_open hc hok hlim fun H2 vs x2 hn => ?_
  replace x2:HX H H2:=x2
  have l2:=x2.len
  simp
  refine r02_loops hn hok (by omega) fun H3 v x3 hv => ?_
  replace x3:HX H2 H3:=x3
  have:=hK H3 v (x2.trans x3) (fun _=>hv.le (by omega)) (fun h=>absurd he h)
  obtain ⟨us,o1,o2,o3⟩:=hv.ex
  rw [he] at this
  simp [o1.lst.stor]
  exact this
end
end Go.Proofs.Ytclghkegfpcdpaa.Vm
namespace Go.Proofs.Ytclghkegfpcdpaa.Vm
open Go
set_option maxRecDepth 100000
set_option maxHeartbeats 1000000
set_option linter.unusedSimpArgs false
set_option linter.unusedVariables false
attribute [-simp] List.getD_eq_getElem?_getD Bool.exists_bool
section
variable {n m lim:Nat}{H H0 H':Hp}{K:V→Hp→Prop}{v w:V}{ws vs:List V}{c:Cp}
theorem loop_mem (hok:CapOk c){i:Nat}(ht:i<(loopP c).length):(∀x∈(loopP c).getD i [],x<nsN c.P)∧((loopP c).getD i []).length≤nsN c.P:=by
  have hmem:(loopP c).getD i []∈loopP c:=by
    rw [List.getD_eq_getElem?_getD,List.getElem?_eq_getElem ht];exact List.getElem_mem ht
  have hlt:∀x∈(loopP c).getD i [],x<nsN c.P:=by
    intro x hx
    have:x∈freesN (lsN c) (nsN c.P):=(loops_perm hok.nu).mem_iff.1 (List.mem_flatten.2 ⟨_,hmem,hx⟩)
    exact (mem_frees.1 this).1
  refine ⟨hlt,?_⟩
  have hp:=loops_perm hok.nu
  have hnd:((loopP c).getD i []).Nodup:=by
    have:((loopsN (nsN c.P) (nxN c.P) (lsN c)).flatten).Nodup:=hp.nodup_iff.2 frees_nodup
    rw [List.Nodup,List.pairwise_flatten] at this
    exact this.1 _ hmem
  exact few_below _ _ hnd hlt
theorem r02_hairline (hc:CapV H ws c) (hok:CapOk c) (hlim:lim≤H.length) (hK:∀H' v,HX H H'→OwnV H.length H' v (hairP c)→K v H'):VCall tbl lim 69 [.agg ws] H K:=by
  obtain ⟨pv,sv,ps,rfl,hp,hs,z1,z2,z3,z4⟩:=hc.form
  refine VCall_fn tbl_at69 rfl ?_
  simp [vf69,z1,z2,z3,z4,rdA3]
  refine r02_open hc hok hlim fun H2 vs x2 hn => ?_
  replace x2:HX H H2:=x2
  have l2:=x2.len
  have hn0:=hn
  obtain ⟨va,vb,vp,vx,vq,rfl,h1,h2,h3,h4,h5⟩:=hn.ex
  simp [splice,rdA5]
  refine r02_loops hn0 hok (by omega) fun H3 v x3 hv => ?_
  replace x3:HX H2 H3:=x3
  have l3:=x3.len
  obtain ⟨us,o1,o2,o3⟩:=hv.ex
  have hvl:vlenS v=some (.int .i64 (loopP c).length):=by rw [o1.lst.len,o2,List.length_map]
  have b1:=loop_le (c:=c)
  have b2:=hok.ns
  have hhl:(hairP c).length=(loopP c).length:=by simp [hairP]
  simp [hvl]
  refine wLoop_up (loopP c).length (fun i fr L H'=>∃ov,(fr 3=.lp 1 0∧fr 4=v∧fr 5=ov∧fr 6=.int .i64 i)∧L=[[pv,sv,.int .i64 c.e],[va,vb,vp,vx,vq]]∧HX H3 H'∧OwnV H3.length H' ov ((hairP c).take i)) ⟨.snil,by simp,rfl,.refl,by simpa using OwnV.nil⟩ ?_
  rintro i hi fr L H4 ⟨ov,⟨f3,f4,f5,f6⟩,rfl,x4,hov⟩
  have l4:=x4.len
  simp [f3,f4,f5,f6,hvl]
  refine cond_dec (fun ht => ?_) fun hfl => ?_
  · have ht:i<(loopP c).length:=by omega
    have ad:=(o1.lst.mono x4).at (i:=i) (by rw [o2,List.length_map];exact ht)
    have ld:∀L,vload none L H4 (ept 1 v i)=some (us.getD i dv):=fun L=>by
      have:=(o1.lst.mono x4).load1 (i:=i) (by rw [o2,List.length_map];exact ht) (L:=L)
      rw [this]
      show some (us.getD i default)=_
      rw [getD_any (by rw [o2,List.length_map];exact ht)]
    have ow:=(o3 i (by rw [List.length_map];exact ht)).mono x4
    have eg:((loopP c).map natL).getD i []=natL ((loopP c).getD i []):=by
      simp [List.getD_eq_getElem?_getD,ht]
    rw [eg] at ow
    obtain ⟨hlt,hll⟩:=loop_mem hok ht
    generalize hlo:(loopP c).getD i []=lo at *
    generalize huv:us.getD i dv=uv at *
    have hol:vlenS uv=some (.int .i64 lo.length):=by rw [ow.sl.len,natL_len]
    simp [f3,f4,f5,f6]
    refine wLoop_up lo.length (fun j fr L H'=>(fr 3=.lp 1 0∧fr 4=v∧fr 5=ov∧fr 6=.int .i64 i∧fr 7=.int .i64 (lnUp c lo j)∧fr 8=.int .i64 j)∧L=[[pv,sv,.int .i64 c.e],[va,vb,vp,vx,vq]]∧H'=H4∧0≤(lnUp c lo j)∧(lnUp c lo j)≤200*j) ⟨by simp [f3,f4,f5,f6,lnUp],rfl,rfl,by simp [lnUp],by simp [lnUp]⟩ ?_
    clear f3 f4 f5 f6 fr
    rintro j hj fr L H5 ⟨⟨f3,f4,f5,f6,f7,f8⟩,rfl,rfl,g1,g2⟩
    simp [f3,f4,f5,f6,f7,f8,ad,ld,hol]
    refine cond_dec (fun hjt => ?_) fun hjf => ?_
    · have hjt:j<lo.length:=by omega
      have hx:=hlt _ (getD_mem (l:=lo) hjt)
      have a1:=ow.sl.addr (i:=(j:Int)) (by rw [natL_len];omega)
      simp only [Int.toNat_natCast] at a1
      have b1:∀L,vload none L H5 (ept 1 uv j)=some (.int .i64 (lo.getD j default:Nat)):=fun L=>by
        rw [ow.sl.load (by rw [natL_len];exact hjt)]
        simp [natL,List.getD_eq_getElem?_getD,hjt]
      have a2:=(h1.mono (x3.trans x4)).up hx
      have hln:=ln_bd hok hx
      have hsn:=lnUp_snoc (c:=c) hjt
      generalize lo.getD j default=q at *
      simp (disch:=omega) [f3,f4,f5,f6,f7,f8,ad,ld,a1,b1,a2.1,a2.2,rd5_0,wrap_i64]
      exact ⟨hjt,by rw [hsn],by omega,by omega⟩
    · have:j=lo.length:=by omega
      subst this
      rw [lnUp_all] at f7 g1 g2
      obtain ⟨ov2,H6,c1,c2,c3,c4,c5,c6⟩:=hov.appendF (lim:=lim) (x:=(lo.map (lnN c.P)).sum) ⟨by omega,l4⟩ (by rw [List.length_take];omega)
      simp (disch:=omega) [f3,f4,f5,f6,f7,f8,c1,splice,wrap_i64]
      refine ⟨ht,c3 _ x4 (Nat.le_refl _),?_⟩
      rw [take_snoc (by omega)]
      have:(hairP c).getD i 0=(lo.map (lnN c.P)).sum:=by
        rw [←hlo]
        simp [hairP,List.getD_eq_getElem?_getD,ht]
      rw [this];exact c2
  · have:i=(loopP c).length:=by omega
    subst this
    rw [←hhl,List.take_length] at hov
    have:=hK H4 ov ((x2.trans x3).trans x4) (hov.le (by omega))
    simp [f5,hov.sl.stor]
    exact this
theorem r02_Hairline (hc:CapV H ws c)(hsh:ShortC c)(hlim:lim≤H.length)(hK:∀H' v,HX H H'→(capE c=0→OwnV H.length H' v (hairP c))→(capE c≠0→v=.snil)→K (.tup [v,.int .i64 (capE c)]) H'):VCall tbl lim 32 [.agg ws] H K:=by
  obtain ⟨pv,sv,ps,rfl,hp,hs,z1,z2,z3,z4⟩:=hc.form
  refine VCall_fn tbl_at32 rfl ?_
  simp [vf32,z1,z2,z3,z4,rdA3]
  refine r02_Validate hc hsh.vb ?_
  by_cases he:capE c=0
  case neg =>
    have:=hK H .snil .refl (fun h=>absurd h he) (fun _=>rfl)
    simp [he,z1,z2,z3,z4]
    exact this
  have hok:=capE_ok.1 he
  simp [he,rdA3,z1,z2,z3,z4]
  refine r02_hairline hc hok hlim fun H2 v x2 ho => ?_
  replace x2:HX H H2:=x2
  have:=hK H2 v x2 (fun _=>ho) (fun h=>absurd he h)
  rw [he] at this
  simp [ho.sl.stor]
  exact this
theorem r02_SameLoops {q:List (List Int)}(h1:LlsV n H v q)(h2:LlsV m H w q)(hq:q.length≤1000)(hq2:∀i,i<q.length→(q.getD i []).length≤1000)(hK:K (.bool true) H):VCall tbl lim 33 [v,w] H K:=by
  obtain ⟨pts,o1,o2,o3⟩:=h1.ex
  obtain ⟨qts,r1,r2,r3⟩:=h2.ex
  refine VCall_fn tbl_at33 rfl ?_
  have e1:vlenS v=some (.int .i64 q.length):=by rw [o1.lst.len,o2]
  have e2:vlenS w=some (.int .i64 q.length):=by rw [r1.lst.len,r2]
  simp [vf33,e1,e2]
  refine wLoop_up q.length (fun i fr L H'=>(fr 0=v∧fr 1=w∧fr 5=.int .i64 i)∧L=[]∧H'=H) ⟨by simp,rfl,rfl⟩ ?_
  rintro i hi fr L H1 ⟨⟨f0,f1,f5⟩,rfl,rfl⟩
  simp [f0,f1,f5,e1]
  refine cond_dec (fun ht => ?_) fun hfl => ?_
  · have ht:i<q.length:=by omega
    have a1:=o1.lst.at (i:=i) (by omega)
    have a2:=r1.lst.at (i:=i) (by omega)
    have g1:∀L,vload none L H1 (ept 1 v i)=some (pts.getD i dv):=fun L=>by
      rw [o1.lst.load1 (i:=i) (by omega) (L:=L)]
      show some (pts.getD i default)=_
      rw [getD_any (by omega)]
    have g2:∀L,vload none L H1 (ept 1 w i)=some (qts.getD i dv):=fun L=>by
      rw [r1.lst.load1 (i:=i) (by omega) (L:=L)]
      show some (qts.getD i default)=_
      rw [getD_any (by omega)]
    have p4:=o3 i ht
    have s4:=r3 i ht
    have hb:=hq2 i ht
    generalize pts.getD i dv=pv at *
    generalize qts.getD i dv=qv at *
    simp [f0,f1,f5,a1,a2,g1,g2,p4.sl.stor,s4.sl.stor]
    refine ref01_SameInts p4.sl s4.sl (by omega) ?_
    simp (disch:=omega) [f0,f1,f5,wrap_i64]
    exact ht
  · simp [f0,f1,f5]
    exact hK
theorem law_CapLoops (ha:CapA H ws c) (hlim:lim≤H.length) (hK:∀H',K (.bool true) H'):VCall tbl lim 7 [.agg ws] H K:=by
  have hc:=ha.cap
  obtain ⟨pv,sv,ps,rfl,hp,hs,z1,z2,z3,z4⟩:=hc.form
  refine VCall_fn tbl_at7 rfl ?_
  simp [vf7,z1,z2,z3,z4,rdA3]
  refine l02_Long hc ?_
  cases hl:longB c with
  | true =>
    simp
    refine cp_known hlim fun H' _ => ?_
    simp
    exact hK _
  | false =>
  have hsh:=short_of hl
  have s2:=hsh.ns
  simp [rdA3,z1,z2,z3,z4]
  refine surf_Loops hc (by omega) hlim fun H1 v x1 v1 v2 => ?_
  replace x1:HX H H1:=x1
  have l1:=x1.len
  simp [rdA3,z1,z2,z3,z4]
  refine r02_Loops (hc.mono x1) hsh (by omega) fun H2 w x2 w1 w2 => ?_
  replace x2:HX H1 H2:=x2
  have l2:=x2.len
  simp [rdA3,z1,z2,z3,z4]
  refine surf_Hairline (hc.mono (x1.trans x2)) (by omega) (by omega) fun H3 a x3 a1 a2 => ?_
  replace x3:HX H2 H3:=x3
  have l3:=x3.len
  simp [rdA3,z1,z2,z3,z4]
  refine r02_Hairline (hc.mono ((x1.trans x2).trans x3)) hsh (by omega) fun H4 b x4 b1 b2 => ?_
  replace x4:HX H3 H4:=x4
  have l4:=x4.len
  have hex:∃q,LlsV H.length H4 v q∧LlsV H1.length H4 w q∧q.length≤1000∧∀i,i<q.length→(q.getD i []).length≤1000:=by
    by_cases he:capE c=0
    · have hok:=capE_ok.1 he
      have b1:=loop_le (c:=c)
      have b2:=hok.ns
      refine ⟨(loopP c).map natL,(v1 he).mono ((x2.trans x3).trans x4),(w1 he).mono (x3.trans x4),by rw [List.length_map];omega,fun i hi => ?_⟩
      rw [List.length_map] at hi
      have eg:((loopP c).map natL).getD i []=natL ((loopP c).getD i []):=by
        simp [List.getD_eq_getElem?_getD,hi]
      rw [eg,natL_len]
      have:=(loop_mem hok hi).2
      omega
    · rw [v2 he,w2 he]
      exact ⟨[],.nil,.nil,by simp,fun i hi=>by simp at hi⟩
  have hex2:∃r,OwnV H2.length H4 a r∧OwnV H3.length H4 b r∧r.length≤1000:=by
    by_cases he:capE c=0
    · have hok:=capE_ok.1 he
      have b3:=loop_le (c:=c)
      have b4:=hok.ns
      exact ⟨hairP c,(a1 he).mono x4,b1 he,by simp [hairP];omega⟩
    · rw [a2 he,b2 he]
      exact ⟨[],.nil,.nil,by simp⟩
  obtain ⟨q,q1,q2,q3,q4⟩:=hex
  obtain ⟨r,r1,r2,r3⟩:=hex2
  obtain ⟨_,zv,_⟩:=q1.ex
  obtain ⟨_,zw,_⟩:=q2.ex
  simp [zv.lst.stor,zw.lst.stor]
  refine r02_SameLoops q1 q2 q3 q4 ?_
  simp [r1.sl.stor,r2.sl.stor]
  refine ref01_SameInts r1.sl r2.sl (by omega) ?_
  simp
  refine cp_known (by omega) fun H' _ => ?_
  simp
  exact hK _
end
end Go.Proofs.Ytclghkegfpcdpaa.Vm
