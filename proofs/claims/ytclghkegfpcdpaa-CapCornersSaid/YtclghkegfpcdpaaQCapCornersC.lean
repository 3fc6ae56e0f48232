/- Points over the machine: a point is collected. -/
import Derived.Test.YtclghkegfpcdpaaQCapCornersB
namespace Go.Proofs.Ytclghkegfpcdpaa.Vm
open Go
set_option maxRecDepth 100000
set_option maxHeartbeats 1000000
set_option linter.unusedSimpArgs false
set_option linter.unusedVariables false
attribute [-simp] List.getD_eq_getElem?_getD
noncomputable def csP (c:Cp)(s:Nat):List Int:=natL (memE (PtR c) (nsN c.P) s)
noncomputable def sumP (c:Cp)(s:Nat):Int:=((memE (PtR c) (nsN c.P) s).map (anN c.P)).sum
noncomputable def pntP (c:Cp)(s:Nat)(inner:Bool)(v:V):Pnt:=⟨v,inner,sumP c s,(if inner then 360 else 180)-sumP c s,(csP c s).getD 0 0⟩
section
variable {n0 lim:Nat}{H H0 Hc H':Hp}{K:V→Hp→Prop}{lv u v:V}{M:List (Int×Bool)}{pts:List Pnt}{cl:List (List Int)}{c:Cp}{s:Nat}
theorem cfI_ordr:Ordr cfI:=⟨fun x y z h1 h2=>by simp only [leC,cfI] at *;omega,fun x y=>by simp only [leC,cfI];omega⟩
theorem st_all {cs xs:List V}(hl:lim≤H.length)(h:xs.length=cs.length):vstoreH lim (H++[Blk.row cs true]) H.length 0 xs=some (H++[Blk.row xs true]):=by
  have e:splice cs 0 xs=xs:=by simp [splice,h]
  simp [vstoreH,hl,h,e]
theorem getD_last {α:Type}{l:List α}{x d:α}{i:Nat}(h:i=l.length):(l++[x]).getD i d=x:=by
  subst h;simp [List.getD_eq_getElem?_getD]
theorem OwnV.row_of {m:Nat}{f:List Int}(h:OwnV m H v f)(hne:0<f.length):∃b,v=.sl b 0 f.length 1∧m≤b∧H[b]? = some (.row (ints f) true):=by
  cases h with
  | nil=>simp at hne
  | row h1 h2=>exact ⟨_,rfl,h1,h2⟩
theorem surf_collect {inner:Bool} (hok:CapOk c) (hs:s<nsN c.P) (hcl:StaN (nsN c.P) (nxN c.P) (lsN c) s∨InnN (nsN c.P) (nxN c.P) (lsN c) s) (hlim:lim≤n0) (hS:PtsS n0 H0 lv M u pts cl Hc) (hlv:LstV sdC H0 lv (layL c.P (lsN c))) (hpl:pts.length≤1000)
    (hK:∀H' M' u' v',PtsS n0 H0 lv M' u' (pts++[pntP c s inner v']) (cl++[csP c s]) H'→(∀k,(look k M').getD false=true↔(look k M).getD false=true∨k∈csP c s)→K (.tup []) H') :
    VCall tbl lim 85 [.int .i64 s,.bool inner,.ptr n0 0,.ptr (n0+2) 0,.ptr (n0+3) 0] Hc K:=by
  have hbig:=hS.big
  have hns:=hok.ns
  refine VCall_fn tbl_at85 rfl ?_
  have ld0:∀L X,vload none L (Hc++X) (.ptr n0 0)=some lv:=fun L X=>by
    rw [vload_ptr (cs:=[lv]) (own:=true) (by rw [List.getElem?_append_left (by omega)];exact hS.b0)];rfl
  have s4:=st_all (H:=Hc) (lim:=lim) (cs:=[V.snil,.bool false,.int .i64 0,.int .i64 0]) (xs:=[V.snil,.bool inner,.int .i64 0,.int .i64 0]) (by omega) rfl
  simp [vf85,splice,ld0,s4,hlv.stor,-vload_ptrO]
  refine surf_around hlv.stor hlv.one ?_
  simp
  generalize hg:hideF _ 48=frv
  have f2:∀v,frR (setPs frv [14] [v]) 2=.ptr n0 0:=by intro v;rw [←hg,frR_set (by omega)];simp
  have f3:∀v,frR (setPs frv [14] [v]) 3=.ptr (n0+2) 0:=by intro v;rw [←hg,frR_set (by omega)];simp
  have f7:∀v,frR (setPs frv [14] [v]) 7=.ptr Hc.length 0:=by intro v;rw [←hg,frR_set (by omega)];simp
  have f14:∀v,frR (setPs frv [14] [v]) 14=v:=by intro v;rw [←hg,frR_set (by omega)];simp
  have flen:48=frv.length:=by rw [←hg];simp [hideF]
  clear hg
  obtain ⟨w1,w2,w3⟩:=walk_conds hok hs
  obtain ⟨n1,_,_⟩:=rn_spec (L:=lsN c) hok.nu hs
  generalize hrn:rnN (nsN c.P) (nxN c.P) (lsN c) s=n at *
  have hsl:s<(layL c.P (lsN c)).length:=by rw [layL_len];exact hs
  refine around_walk (n:=n) (c:=s) (lv:=lv) (l:=layL c.P (lsN c)) (I:=fun i H'=>RndI Hc n0 Hc.length lv M inner frv c s i H') (lay_ok hok.sm_ok (by omega)) hsl w2 w3 ?_ ?_ ?_ ?_
  · intro i H' hI
    refine ⟨hI.r2,hI.r1,hlv.mono (HX.of (by have:=hS.hx.len;have:=hI.oth.1;omega) fun b hb => ?_)⟩
    have:=hS.hx.len
    have:=hS.hn
    rw [hI.oth.2 b (by omega) (by omega),hS.hx.same hb]
  · refine ⟨⟨by simp,fun b hb _=>by rw [List.getElem?_append_left hb]⟩,⟨.snil,M,?_,by simp [wkS],.nil,fun k=>by simp [wkL]⟩,by simp,by simp,by simp⟩
    rw [List.getElem?_append_left (by omega)];exact hS.b1
  · intro i H' hi hI
    rw [w1 i hi]
    exact collect_round hok hs (by rw [hrn];exact hi) hlim hS hlv f2 f3 f7 f14 flen hI
  · intro H' hI
    refine ⟨⟨_,_,_,hI.r3⟩,?_⟩
    obtain ⟨⟨o1,o2⟩,⟨cv,M',m1,m2,m3,m4⟩,r1,r2,r3⟩:=hI
    have hl3:=(List.getElem?_eq_some_iff.1 r3).1
    have e1:(H'.set (Hc.length+3) .dead)[n0+1]? = some (.map (mE kI .bool M')):=by rw [List.getElem?_set_ne (by omega)];exact m1
    have ep:(H'.set (Hc.length+3) .dead)[Hc.length]? = some (.row [cv,.bool inner,.int .i64 (wkS c s (n+1)),.int .i64 0] true):=by rw [List.getElem?_set_ne (by omega)];exact m2
    have ev:OwnV (Hc.length+4) (H'.set (Hc.length+3) .dead) cv (wkL c s (n+1)):=m3.keepB fun b o m z e=>by
      have:=m3.belowB _ _ _ _ e
      rw [List.getElem?_set_ne (by omega)]
    have eo:OthM (n0+1) Hc (H'.set (Hc.length+3) .dead):=⟨by simp;exact o1,fun b hb hne=>by rw [List.getElem?_set_ne (by omega)];exact o2 b hb hne⟩
    have elen:(H'.set (Hc.length+3) .dead).length=H'.length:=by simp
    generalize H'.set (Hc.length+3) .dead=Hd at *
    have sumE:wkS c s (n+1)=sumP c s:=by rw [←hrn];exact wkS_ring hok hs hcl
    rw [sumE] at ep m2
    have hls:0≤sumP c s∧sumP c s≤359*49:=by
      have:=wkS_bd hok hs (n+1)
      rw [sumE] at this;omega
    generalize hsum:sumP c s=sm at *
    have hwl:(wkL c s (n+1)).length=n+1:=wkL_len
    obtain ⟨bc,rfl,b1,b2⟩:=ev.row_of (by omega)
    have hbl:=(List.getElem?_eq_some_iff.1 b2).1
    simp [m2,rd0]
    refine so_sort (b:=bc) (l:=wkL c s (n+1)) b2 (by omega) cfI_ordr (by rw [hwl];omega) fun H2 l2 hs2 hso => ?_
    have hsorted:l2=csP c s:=by
      have hl2:l2.length=(wkL c s (n+1)).length:=hs2.n
      have:=sort_ring hok hs hcl (l:=l2) (by rw [hrn];exact hs2.perm) (sorted_le (by rw [hl2];exact hso))
      exact this
    have hp2:=(hs2.oth Hc.length (by omega) (by omega)).trans ep
    have hlen2:=hs2.len
    have l2len:l2.length=n+1:=by have:=hs2.n;omega
    have hrow:H2[bc]? = some (.row (ints (csP c s)) true):=by rw [←hsorted];exact hs2.row
    have hcl2:(csP c s).length=(wkL c s (n+1)).length:=by rw [←hsorted];omega
    generalize hdf:(if inner=true then (360:Int) else 180)-sm=df
    have hdfb : -100000≤df∧df≤360:=by rw [←hdf];split<;>omega
    have g3:∀H3:Hp,H3=H2.set Hc.length (.row [.sl bc 0 (wkL c s (n+1)).length 1,.bool inner,.int .i64 sm,.int .i64 df] true) →
        ∃v' Hx,vappend lim 4 48 (H3++[.row [.sl bc 0 (wkL c s (n+1)).length 1,.bool inner,.int .i64 sm,.int .i64 df] true]) u (.sl H3.length 0 1 4)=some (v',Hx)∧stor v'=true∧cellsV v'=[v']∧Hx[n0+3]? = some (.row [u] true)∧H3[n0+3]? = some (.row [u] true)∧K (.tup []) (Hx.set (n0+3) (.row [v'] true)):=by
      rintro H3 rfl
      have hO3:OthM (n0+1) Hc (H2.set Hc.length (.row [.sl bc 0 (wkL c s (n+1)).length 1,.bool inner,.int .i64 sm,.int .i64 df] true)):=by
        refine ⟨by have:=eo.1;simp;omega,fun b hb hne => ?_⟩
        rw [List.getElem?_set_ne (by omega),hs2.oth b (by have:=eo.1;omega) (by omega)]
        exact eo.2 b hb hne
      have hm3:(H2.set Hc.length (.row [.sl bc 0 (wkL c s (n+1)).length 1,.bool inner,.int .i64 sm,.int .i64 df] true))[n0+1]? = some (.map (mE kI .bool M')):=by
        rw [List.getElem?_set_ne (by omega),hs2.oth _ (by omega) (by omega)];exact e1
      have hS3:=hS.move hO3 hm3
      have hrow3:(H2.set Hc.length (.row [.sl bc 0 (wkL c s (n+1)).length 1,.bool inner,.int .i64 sm,.int .i64 df] true))[bc]? = some (.row (ints (csP c s)) true):=by
        rw [List.getElem?_set_ne (by omega)];exact hrow
      have hl3':Hd.length≤(H2.set Hc.length (.row [.sl bc 0 (wkL c s (n+1)).length 1,.bool inner,.int .i64 sm,.int .i64 df] true)).length:=by simpa using hlen2
      generalize H2.set Hc.length (.row [.sl bc 0 (wkL c s (n+1)).length 1,.bool inner,.int .i64 sm,.int .i64 df] true)=H3 at *
      have hbig3:=hS3.big
      obtain ⟨v',Hx,c1,c2,c3,c4,c5,c6⟩:=hS3.ou.appendF2 (lim:=lim) (bytes:=48) (x:=pntP c s inner (.sl bc 0 (wkL c s (n+1)).length 1)) (cs:=[.sl bc 0 (wkL c s (n+1)).length 1,.bool inner,.int .i64 sm,.int .i64 df]) (by
        rw [←hdf,←hsum];rfl) ⟨by omega,by omega⟩ (by omega) (by omega)
      have ub:∀b,b<n0+4→∀o z y,u≠.sl b o z y:=fun b hb o z y e=>by have:=hS3.ou.belowB _ _ _ _ e;omega
      have hbu:∀o z y,u≠.sl bc o z y:=fun o z y e=>by
        have:=hS.ou.belowB _ _ _ _ e;omega
      refine ⟨v',Hx,c1,c2.lst.stor,c2.lst.one,(c5 _ (by omega) (ub _ (by omega))).trans hS3.b3,hS3.b3,?_⟩
      have d0:=(c5 n0 (by omega) (ub _ (by omega))).trans hS3.b0
      have d1:=(c5 (n0+1) (by omega) (ub _ (by omega))).trans hS3.b1
      have d2:=(c5 (n0+2) (by omega) (ub _ (by omega))).trans hS3.b2
      have dr:=(c5 bc (by omega) hbu).trans hrow3
      have hH0:=hS3.hn
      refine hK _ M' v' (.sl bc 0 (wkL c s (n+1)).length 1) ⟨?_,hS3.hn,?_,?_,?_,?_,?_,?_,?_,?_⟩ ?_
      · have:=c3 H0 hS3.hx (by omega)
        refine HX.of (by have:=this.len;simpa using this) fun b hb => ?_
        rw [List.getElem?_set_ne (by omega),this.same hb]
      · rw [List.getElem?_set_ne (by omega)];exact d0
      · rw [List.getElem?_set_ne (by omega)];exact d1
      · rw [List.getElem?_set_ne (by omega)];exact d2
      · rw [List.getElem?_set_self (by omega)]
      · refine c2.keepB fun b o m z e => ?_
        have:=c2.belowB _ _ _ _ e
        rw [List.getElem?_set_ne (by omega)]
      · simp [hS.len]
      · intro i hi
        rw [List.length_append,List.length_singleton] at hi
        by_cases hlt:i<pts.length
        · rw [getD_lt hlt,getD_lt (by rw [hS.len];exact hlt)]
          refine (hS3.oc i hlt).keepB fun b o m z e => ?_
          have hb:=(hS3.oc i hlt).belowB _ _ _ _ e
          rw [List.getElem?_set_ne (by omega)]
          exact c5 b hb.2 fun o' z' y' e'=>hS3.ap i hlt _ _ _ _ _ _ _ e' e
        · have:i=pts.length:=by omega
          subst this
          rw [getD_last rfl,getD_last hS.len.symm]
          show OwnV (n0+4) _ (V.sl bc 0 (wkL c s (n+1)).length 1) (csP c s)
          rw [←hcl2]
          exact .row (by omega) (by rw [List.getElem?_set_ne (by omega)];exact dr)
      · intro i hi b o z y o' z' y' e e'
        rw [List.length_append,List.length_singleton] at hi
        have hb6:=c6 _ _ _ _ e
        by_cases hlt:i<pts.length
        · rw [getD_lt hlt] at e'
          have:=(hS3.oc i hlt).belowB _ _ _ _ e'
          omega
        · have:i=pts.length:=by omega
          subst this
          rw [getD_last rfl] at e'
          simp only [pntP] at e'
          cases e'
          omega
      · intro k
        rw [m4 k]
        have:k∈wkL c s (n+1)↔k∈csP c s:=by rw [←hsorted];exact hs2.perm.mem_iff.symm
        rw [this]
    obtain ⟨v',Hx,y1,y2,y3,y4,y5,y6⟩:=g3 _ rfl
    have w1:IntKind.wrap .i64 (180-sm)=180-sm:=wrap_i64 (by omega) (by omega)
    have w2:IntKind.wrap .i64 (360-sm)=360-sm:=wrap_i64 (by omega) (by omega)
    have hlt2:=(List.getElem?_eq_some_iff.1 hp2).1
    have st1:=fun L=>st_cell (L:=L) (x:=.int .i64 (180-sm)) hp2 (lim:=lim) (o:=3) (by omega) rfl rfl (by simp)
    have sp1:splice [.sl bc 0 (wkL c s (n+1)).length 1,.bool inner,.int .i64 sm,.int .i64 0] 3 [.int .i64 (180-sm)]=[.sl bc 0 (wkL c s (n+1)).length 1,.bool inner,.int .i64 sm,.int .i64 (180-sm)]:=by simp [splice]
    rw [sp1] at st1
    have stx:=fun L=>st_cell (L:=L) (x:=v') y4 (lim:=lim) (o:=0) (by omega) y2 y3 (by simp)
    have spx:splice [u] 0 [v']=[v']:=by simp [splice]
    rw [spx] at stx
    cases inner with
    | false =>
      have edf:df=180-sm:=by rw [←hdf];simp
      rw [edf] at y1 y5
      have hl4:∀L,vload (some 4) L (H2.set Hc.length (.row [.sl bc 0 (wkL c s (n+1)).length 1,.bool false,.int .i64 sm,.int .i64 (180-sm)] true)) (.ptr Hc.length 0)=some (.agg [.sl bc 0 (wkL c s (n+1)).length 1,.bool false,.int .i64 sm,.int .i64 (180-sm)]):=fun L=>by
        rw [vload_ptr (List.getElem?_set_self hlt2)];rfl
      have hl3:∀L,vload none L (H2.set Hc.length (.row [.sl bc 0 (wkL c s (n+1)).length 1,.bool false,.int .i64 sm,.int .i64 (180-sm)] true)) (.ptr (n0+3) 0)=some u:=fun L=>by
        rw [vload_ptr y5];rfl
      have hl2:∀L,vload none L H2 (.ptr Hc.length 2)=some (.int .i64 sm):=fun L=>by rw [vload_ptr hp2];rfl
      generalize H2.set Hc.length (.row [.sl bc 0 (wkL c s (n+1)).length 1,.bool false,.int .i64 sm,.int .i64 (180-sm)] true)=H3 at *
      simp [hl2,w1,st1,hl3,hl4,splice,y1,stx,-vstore,-vload_ptrO]
      exact y6
    | true =>
      have edf:df=360-sm:=by rw [←hdf];simp
      rw [edf] at y1 y5
      have hl2:∀L,vload none L H2 (.ptr Hc.length 2)=some (.int .i64 sm):=fun L=>by rw [vload_ptr hp2];rfl
      have hp3:(H2.set Hc.length (.row [.sl bc 0 (wkL c s (n+1)).length 1,.bool true,.int .i64 sm,.int .i64 (180-sm)] true))[Hc.length]? = some (.row [.sl bc 0 (wkL c s (n+1)).length 1,.bool true,.int .i64 sm,.int .i64 (180-sm)] true):=List.getElem?_set_self hlt2
      have hl2':∀L,vload none L (H2.set Hc.length (.row [.sl bc 0 (wkL c s (n+1)).length 1,.bool true,.int .i64 sm,.int .i64 (180-sm)] true)) (.ptr Hc.length 2)=some (.int .i64 sm):=fun L=>by rw [vload_ptr hp3];rfl
      have st2:=fun L=>st_cell (L:=L) (x:=.int .i64 (360-sm)) hp3 (lim:=lim) (o:=3) (by omega) rfl rfl (by simp)
      have sp2:splice [.sl bc 0 (wkL c s (n+1)).length 1,.bool true,.int .i64 sm,.int .i64 (180-sm)] 3 [.int .i64 (360-sm)]=[.sl bc 0 (wkL c s (n+1)).length 1,.bool true,.int .i64 sm,.int .i64 (360-sm)]:=by simp [splice]
      rw [sp2,List.set_set] at st2
      have hl4:∀L,vload (some 4) L (H2.set Hc.length (.row [.sl bc 0 (wkL c s (n+1)).length 1,.bool true,.int .i64 sm,.int .i64 (360-sm)] true)) (.ptr Hc.length 0)=some (.agg [.sl bc 0 (wkL c s (n+1)).length 1,.bool true,.int .i64 sm,.int .i64 (360-sm)]):=fun L=>by
        rw [vload_ptr (List.getElem?_set_self hlt2)];rfl
      have hl3:∀L,vload none L (H2.set Hc.length (.row [.sl bc 0 (wkL c s (n+1)).length 1,.bool true,.int .i64 sm,.int .i64 (360-sm)] true)) (.ptr (n0+3) 0)=some u:=fun L=>by
        rw [vload_ptr y5];rfl
      generalize H2.set Hc.length (.row [.sl bc 0 (wkL c s (n+1)).length 1,.bool true,.int .i64 sm,.int .i64 (180-sm)] true)=H3 at *
      generalize H2.set Hc.length (.row [.sl bc 0 (wkL c s (n+1)).length 1,.bool true,.int .i64 sm,.int .i64 (360-sm)] true)=H4 at *
      simp [hl2,w1,st1,hl2',w2,st2,hl3,hl4,splice,y1,stx,-vstore,-vload_ptrO]
      exact y6
end
end Go.Proofs.Ytclghkegfpcdpaa.Vm
namespace Go.Proofs.Ytclghkegfpcdpaa.Vm
open Go
set_option maxRecDepth 100000
set_option maxHeartbeats 1000000
set_option linter.unusedSimpArgs false
set_option linter.unusedVariables false
attribute [-simp] List.getD_eq_getElem?_getD
section
variable {c:Cp}{k s:Nat}
theorem sta_bf (hok:CapOk c)(hk:k<nsN c.P):alf (lsN c) (bfN c.P k)=bfN c.P k↔StaN (nsN c.P) (nxN c.P) (lsN c) k:=by
  obtain ⟨b1,b2⟩:=nx_bf hk
  have hsm:=hok.sm_ok
  constructor
  · intro h x hx e
    have e1:alf (lsN c) x=bfN c.P k:=nx_pr.inj _ _ (hsm.pr.lt x hx) b2 (by rw [b1];exact e)
    have e2:=hsm.inv hx
    rw [e1,h] at e2
    rw [e1];exact e2
  · intro h
    have hx:=hsm.pr.lt _ b2
    have:=h (alf (lsN c) (bfN c.P k)) hx (by
      show nxN c.P (alf (lsN c) (alf (lsN c) (bfN c.P k)))=k
      rw [hsm.inv b2,b1])
    rw [hsm.inv b2] at this
    exact this.symm
open Classical in
noncomputable def repsA (c:Cp)(a b:Nat):List Nat:=((List.range a).filter fun k=>decide (StaN (nsN c.P) (nxN c.P) (lsN c) k))++((List.range b).filter fun k=>decide (LeE (PtR c) k∧InnN (nsN c.P) (nxN c.P) (lsN c) k))
theorem mem_reps {a b r:Nat}:r∈repsA c a b↔(r<a∧StaN (nsN c.P) (nxN c.P) (lsN c) r)∨(r<b∧LeE (PtR c) r∧InnN (nsN c.P) (nxN c.P) (lsN c) r):=by simp [repsA]
theorem reps_all:repsA c (nsN c.P) (nsN c.P)=stasN (nsN c.P) (nxN c.P) (lsN c)++innMins (nsN c.P) (nxN c.P) (lsN c):=by
  unfold repsA stasN innMins minsE
  rw [List.filter_filter]
  congr 1
  refine List.filter_congr fun k _ => ?_
  rw [Bool.eq_iff_iff]
  simp only [decide_eq_true_eq,Bool.and_eq_true]
  exact ⟨fun h=>⟨h.2,h.1⟩,fun h=>⟨h.2,h.1⟩⟩
theorem repsA_sta {a:Nat}(h:StaN (nsN c.P) (nxN c.P) (lsN c) a):repsA c (a+1) 0=repsA c a 0++[a]:=by
  unfold repsA
  rw [List.range_succ,List.filter_append]
  simp [h]
theorem repsA_not {a:Nat}(h:¬StaN (nsN c.P) (nxN c.P) (lsN c) a):repsA c (a+1) 0=repsA c a 0:=by
  unfold repsA
  rw [List.range_succ,List.filter_append]
  simp [h]
theorem repsA_inn {a b:Nat}(h:LeE (PtR c) b∧InnN (nsN c.P) (nxN c.P) (lsN c) b):repsA c a (b+1)=repsA c a b++[b]:=by
  unfold repsA
  rw [List.range_succ,List.filter_append,List.append_assoc]
  simp [h]
theorem repsA_out {a b:Nat}(h:¬(LeE (PtR c) b∧InnN (nsN c.P) (nxN c.P) (lsN c) b)):repsA c a (b+1)=repsA c a b:=by
  unfold repsA
  rw [List.range_succ,List.filter_append]
  simp [h]
theorem mem_csP {r:Nat}(hok:CapOk c){j:Int}:j∈csP c r↔∃d:Nat,j=d∧d<nsN c.P∧PtR c r d:=by
  simp only [csP,natL,List.mem_map,mem_memE]
  exact ⟨fun ⟨d,h,e⟩=>⟨d,e.symm,h.1,h.2⟩,fun ⟨d,e,h1,h2⟩=>⟨d,⟨h1,h2⟩,e.symm⟩⟩
theorem found_iff (hok:CapOk c) (hk:k<nsN c.P):(∃r,r∈repsA c (nsN c.P) k∧(k:Int)∈csP c r)↔¬(LeE (PtR c) k∧InnN (nsN c.P) (nxN c.P) (lsN c) k):=by
  have hE:=hok.ptE
  have hnu:=hok.nu
  constructor
  · rintro ⟨r,hr,hm⟩ ⟨h1,h2⟩
    obtain ⟨d,e,hd,hrd⟩:=(mem_csP hok).1 hm
    have:k=d:=by omega
    subst this
    rcases mem_reps.1 hr with ⟨r1,r2⟩ | ⟨r1,r2,r3⟩
    · exact sta_free hnu r1 r2 ((InnN.iff hnu hrd).2 h2)
    · exact h1 r r1 (hE.sy hrd)
  · intro h
    apply Classical.byContradiction
    intro hn
    refine h ⟨fun d hd he => ?_,?_⟩
    · obtain ⟨a1,a2,a3⟩:=lowE_spec hE d
      by_cases hi:InnN (nsN c.P) (nxN c.P) (lsN c) k
      · exact hn ⟨lowE (PtR c) d,mem_reps.2 (Or.inr ⟨by omega,a3,(InnN.iff hnu (hE.tr he a2)).1 hi⟩),(mem_csP hok).2 ⟨k,rfl,hk,hE.sy (hE.tr he a2)⟩⟩
      · obtain ⟨s,s1,s2,s3⟩:=sta_ex hnu hk hi
        exact hn ⟨s,mem_reps.2 (Or.inl ⟨s1,s2⟩),(mem_csP hok).2 ⟨k,rfl,hk,hE.sy s3⟩⟩
    · apply Classical.byContradiction
      intro hi
      obtain ⟨s,s1,s2,s3⟩:=sta_ex hnu hk hi
      exact hn ⟨s,mem_reps.2 (Or.inl ⟨s1,s2⟩),(mem_csP hok).2 ⟨k,rfl,hk,hE.sy s3⟩⟩
theorem first_low (hok:CapOk c){r:Nat}(hr:r<nsN c.P):(csP c r).getD 0 0=(lowE (PtR c) r:Nat)∧0<(csP c r).length:=by
  obtain ⟨a1,a2,a3⟩:=lowE_spec hok.ptE r
  obtain ⟨m1,m2⟩:=mem_first hok (k:=lowE (PtR c) r) (mem_mins.2 ⟨by omega,a3⟩)
  rw [←memE_congr hok.ptE a2] at m1 m2
  refine ⟨?_,by rw [csP,natL_len];exact m2⟩
  simp only [csP,natL,List.getD_eq_getElem?_getD,List.getElem?_map] at m1 ⊢
  rw [List.getElem?_eq_getElem m2] at m1 ⊢
  simp only [Option.getD_some,Option.map_some] at m1 ⊢
  rw [m1]
theorem ptOf_congr (hok:CapOk c){a b:Nat}(h:PtR c a b):csP c a=csP c b∧sumP c a=sumP c b∧innB c a=innB c b:=by
  have e:=memE_congr (N:=nsN c.P) hok.ptE h
  refine ⟨by rw [csP,e];rfl,by rw [sumP,e];rfl,?_⟩
  simp only [innB,decide_eq_decide]
  exact InnN.iff hok.nu h
end
structure PtsC (c:Cp)(R:List Nat)(pts:List Pnt)(cl:List (List Int)):Prop where
  len:pts.length=R.length
  lc:cl.length=R.length
  at':∀i,i<R.length→cl.getD i []=csP c (R.getD i 0)∧∃v,pts.getD i default=pntP c (R.getD i 0) (innB c (R.getD i 0)) v
theorem PtsC.snoc {c:Cp}{R:List Nat}{pts:List Pnt}{cl:List (List Int)}{r:Nat}{v:V}{b:Bool}(h:PtsC c R pts cl)(hb:b=innB c r):PtsC c (R++[r]) (pts++[pntP c r b v]) (cl++[csP c r]) where
  len:=by simp [h.len]
  lc:=by simp [h.lc]
  at' := fun i hi=>by
    rw [List.length_append,List.length_singleton] at hi
    by_cases hlt:i<R.length
    · rw [getD_lt hlt,getD_lt (l:=pts) (by rw [h.len];exact hlt),getD_lt (l:=cl) (by rw [h.lc];exact hlt)];exact h.at' i hlt
    · have:i=R.length:=by omega
      subst this
      rw [getD_last rfl,getD_last h.len.symm,getD_last h.lc.symm]
      exact ⟨rfl,v,by rw [hb]⟩
structure PtlV (n:Nat)(H:Hp)(v:V)(q:List Ptt):Prop where
  ex:∃pts,OwnT n pntC H v pts∧pts.length=q.length∧∀i,i<q.length→(pts.getD i default).i=(q.getD i default).inn∧(pts.getD i default).a=(q.getD i default).ang∧(pts.getD i default).d=(q.getD i default).df∧OwnV n H (pts.getD i default).v (natL (q.getD i default).cs)
def cfP (x y:Pnt):Int:=x.k-y.k
theorem cfP_ordr:Ordr cfP:=⟨fun x y z h1 h2=>by simp only [leC,cfP] at *;omega,fun x y=>by simp only [leC,cfP];omega⟩
section
variable {n0 lim:Nat}{H H0 Hc H':Hp}{K:V→Hp→Prop}{lv u v:V}{M:List (Int×Bool)}{pts:List Pnt}{cl:List (List Int)}{c:Cp}{s:Nat}
theorem PtsC.elem (hok:CapOk c){R:List Nat}(hR:∀r,r∈R→r<nsN c.P)(h:PtsC c R pts cl){i:Nat}(hi:i<R.length):(pts.getD i default).k=(lowE (PtR c) (R.getD i 0):Nat)∧R.getD i 0<nsN c.P∧(pts.getD i default).i=innB c (R.getD i 0)∧(pts.getD i default).a=sumP c (R.getD i 0)∧(pts.getD i default).d=(if innB c (R.getD i 0) then 360 else 180)-sumP c (R.getD i 0):=by
  obtain ⟨_,v,e⟩:=h.at' i hi
  have hr:R.getD i 0<nsN c.P:=hR _ (by
    rw [List.getD_eq_getElem?_getD,List.getElem?_eq_getElem hi];exact List.getElem_mem hi)
  rw [e]
  exact ⟨(first_low hok hr).1,hr,rfl,rfl,rfl⟩
theorem pts_sorted (hok:CapOk c){R:List Nat}(hR:Reps (PtR c) (nsN c.P) R)(h:PtsC c R pts cl){l:List Pnt}(hp:l.Perm pts)(hs:SortR cfP 0 l.length l):l.map (fun e=>e.k.toNat)=minsE (PtR c) (nsN c.P):=by
  have hk:pts.map (fun e=>e.k.toNat)=R.map (lowE (PtR c)):=by
    apply List.ext_getElem (by simp [h.len])
    intro i h1 h2
    have hi:i<R.length:=by simpa using h2
    have:=(h.elem hok hR.lt hi).1
    simp only [List.getD_eq_getElem?_getD,List.getElem?_eq_getElem (show i<pts.length by rw [h.len];exact hi),List.getElem?_eq_getElem hi,Option.getD_some] at this
    simp [this]
  have hperm:(l.map fun e=>e.k.toNat).Perm (minsE (PtR c) (nsN c.P)):=by
    have:=hp.map fun e:Pnt=>e.k.toNat
    rw [hk] at this
    exact this.trans (hR.perm hok.ptE)
  have hnn:∀e,e∈l→0≤e.k:=by
    intro e he
    have he:=hp.mem_iff.1 he
    obtain ⟨i,hi,rfl⟩:=List.getElem_of_mem he
    have:=(h.elem hok hR.lt (i:=i) (by rw [←h.len];exact hi)).1
    rw [List.getD_eq_getElem?_getD,List.getElem?_eq_getElem hi,Option.getD_some] at this
    omega
  refine asc_uniq (key:=fun n:Nat=>(n:Int)) hperm ?_ (mins_asc.imp fun h=>by omega)
  have hnd:(l.map fun e=>e.k.toNat).Nodup:=hperm.nodup_iff.2 mins_nodup
  have hle:(l.map fun e=>e.k.toNat).Pairwise fun a b=>a≤b:=by
    rw [List.pairwise_map,List.pairwise_iff_getElem]
    intro i j hi hj hij
    have h1:=hs i j (Nat.zero_le _) hij hj
    have h2:=hnn _ (List.getElem_mem hi)
    have h3:=hnn _ (List.getElem_mem hj)
    simp only [leC,cfP,List.getD_eq_getElem?_getD,List.getElem?_eq_getElem hi,List.getElem?_eq_getElem hj,Option.getD_some] at h1
    omega
  have:(l.map fun e=>e.k.toNat).Pairwise fun a b=>a≤b∧a≠b:=by
    rw [List.pairwise_and_iff];exact ⟨hle,hnd⟩
  exact this.imp fun h=>by omega
theorem surf_cmpP {x y:Pnt}{l m:List Int}(h1:SlV H' x.v l)(h2:SlV H' y.v m)(k1:0<l.length∧l.getD 0 0=x.k∧0≤x.k∧x.k≤1000)(k2:0<m.length∧m.getD 0 0=y.k∧0≤y.k∧y.k≤1000)(hK:K (.int .i64 (cfP x y)) H'):VCall tbl lim 89 [eV x,eV y] H' K:=by
  refine VCall_fn tbl_at89 rfl ?_
  have a1:=h1.addr (i:=0) (by omega)
  have a2:=h2.addr (i:=0) (by omega)
  have b1:=fun L=>h1.load (i:=0) (by omega) (L:=L)
  have b2:=fun L=>h2.load (i:=0) (by omega) (L:=L)
  rw [k1.2.1] at b1
  rw [k2.2.1] at b2
  have a1':viaddrS 1 x.v (.int .i64 0)=some (ept 1 x.v 0):=a1
  have a2':viaddrS 1 y.v (.int .i64 0)=some (ept 1 y.v 0):=a2
  have w:IntKind.wrap .i64 (x.k-y.k)=x.k-y.k:=wrap_i64 (by omega) (by omega)
  simp [vf89,eV,Pnt.cells,rd0,h1.stor,h1.one,h2.stor,h2.one,a1',a2',b1,b2,w]
  exact hK
theorem OwnT.row_of {α:Type}{k m:Nat}{c:Cod α k}{l:List α}(h:OwnT m c H v l)(hne:0<l.length):∃b,v=.sl b 0 l.length k∧m≤b∧H[b]? = some (.row (c.all l) true):=by
  cases h with
  | nil=>simp at hne
  | row h1 h2=>exact ⟨_,rfl,h1,h2⟩
theorem mem_at {α:Type}[Inhabited α]{l:List α}{x:α}(h:x∈l):∃i,i<l.length∧x=l.getD i default:=by
  obtain ⟨i,hi,rfl⟩:=List.getElem_of_mem h
  exact ⟨i,hi,by rw [List.getD_eq_getElem?_getD,List.getElem?_eq_getElem hi];rfl⟩
theorem surf_points (hok:CapOk c) (hlim:lim≤H.length) (hlv:LstV sdC H lv (layL c.P (lsN c))) (hK:∀H' v,HX H H'→PtlV H.length H' v (ptsP c)→K v H') :
    VCall tbl lim 59 [lv] H K:=by
  refine VCall_fn tbl_at59 rfl ?_
  have hns:=hok.ns
  have hll:=layL_len (P:=c.P) (L:=lsN c)
  have hl0:vlenS lv=some (.int .i64 (nsN c.P)):=by rw [hlv.len,hll]
  have s1:vstoreH lim (H++[Blk.row [lv] true,Blk.map [],Blk.row [V.mnil] true]) (H.length+2) 0 [.mp (H.length+1)]=some (H++[.row [lv] true,.map [],.row [.mp (H.length+1)] true]):=by
    have:lim≤H.length+2:=by omega
    simp [vstoreH,this,splice]
  simp [vf59,hlv.stor,hlv.one,splice,s1,rd0,hl0]
  have hx0:∀{H'':Hp} {M u pts cl},PtsS H.length H lv M u pts cl H''→∀L,vload none L H'' (.ptr H.length 0)=some lv:=fun h L=>by rw [vload_ptr h.b0];rfl
  refine wLoop_up (nsN c.P) (fun i fr L H'=>∃M u pts cl,(fr 1=.ptr H.length 0∧fr 3=.ptr (H.length+2) 0∧fr 4=.ptr (H.length+3) 0∧fr 5=.func (.func 85) [] [.ptr H.length 0,.ptr (H.length+2) 0,.ptr (H.length+3) 0]∧fr 11=.int .i64 (nsN c.P)∧fr 12=.int .i64 i)∧L=[]∧PtsS H.length H lv M u pts cl H'∧PtsC c (repsA c i 0) pts cl∧∀k,(look k M).getD false=true↔∃r,r∈repsA c i 0∧k∈csP c r) ⟨[],.snil,[],[],by simp,rfl,⟨⟨_,rfl⟩,rfl,by simp,by simp;rfl,by simp,by simp,.nil,rfl,fun i hi=>by simp at hi,fun i hi=>by simp at hi⟩,⟨by simp [repsA],by simp [repsA],fun i hi=>by simp [repsA] at hi⟩,fun k=>by simp [look_nil,repsA]⟩ ?_
  rintro i hi fr L H1 ⟨M,u,pts,cl,⟨f1,f3,f4,f5,f11,f12⟩,rfl,hS,hC,hM⟩
  simp [f1,f3,f4,f5,f11,f12]
  refine cond_dec (fun ht => ?_) fun hfl => ?_
  · have ht:i<nsN c.P:=by omega
    have hxl:=hlv.mono hS.hx
    obtain ⟨n1,n2⟩:=nx_bf ht
    have ad:=hxl.at (i:=i) (by rw [hll];exact ht)
    have fa:vfaddr 3 (ept 5 lv i)=some (eptf 5 lv i 3):=hxl.faddr (by rw [hll];exact ht)
    have ld:∀L,vload none L H1 (eptf 5 lv i 3)=some (.int .i64 (bfN c.P i:Nat)):=fun L=>by
      rw [hxl.rd1 (by rw [hll];exact ht) (by omega),layL_get ht];rfl
    have ad2:=hxl.at (i:=bfN c.P i) (by rw [hll];exact n2)
    have fa2:vfaddr 4 (ept 5 lv (bfN c.P i))=some (eptf 5 lv (bfN c.P i) 4):=hxl.faddr (by rw [hll];exact n2)
    have ld2:∀L,vload none L H1 (eptf 5 lv (bfN c.P i) 4)=some (.int .i64 (sdP c.P (lsN c) (bfN c.P i)).p):=fun L=>by
      rw [hxl.rd1 (by rw [hll];exact n2) (by omega),layL_get n2];rfl
    have hfree:=lay_free (P:=c.P) (L:=lsN c) n2
    rw [layL_get n2,sta_bf hok ht] at hfree
    have hl0':=fun L=>hx0 hS L
    generalize (sdP c.P (lsN c) (bfN c.P i)).p=pp at *
    simp [f1,f3,f4,f5,f11,f12,hl0',ad,fa,ld,ad2,fa2,ld2,-vload_ptrO]
    refine cond_dec (fun hp => ?_) fun hp => ?_
    · have hsta:=hfree.1 hp
      have hlen:pts.length≤1000:=by
        have h1:(repsA c i 0).length≤i:=by
          unfold repsA
          have:=List.length_filter_le (fun k=>@decide (StaN (nsN c.P) (nxN c.P) (lsN c) k) (Classical.propDecidable _)) (List.range i)
          simp only [List.length_range] at this
          simpa using this
        rw [hC.len];omega
      simp [f1,f3,f4,f5,f11,f12]
      refine surf_collect hok ht (Or.inl hsta) hlim hS hlv hlen fun H2 M2 u2 v2 hS2 hM2 => ?_
      have hb:false=innB c i:=by
        symm
        simp only [innB,decide_eq_false_iff_not]
        exact sta_free hok.nu ht hsta
      simp (disch:=omega) [f1,f3,f4,f5,f11,f12,wrap_i64]
      refine ⟨ht,_,_,_,_,hS2,?_,fun k => ?_⟩
      · rw [repsA_sta hsta];exact hC.snoc hb
      · rw [hM2 k,hM k,repsA_sta hsta]
        constructor
        · rintro (⟨r,h1,h2⟩ | h)
          · exact ⟨r,List.mem_append_left _ h1,h2⟩
          · exact ⟨i,by simp,h⟩
        · rintro ⟨r,h1,h2⟩
          rcases List.mem_append.1 h1 with h1 | h1
          · exact Or.inl ⟨r,h1,h2⟩
          · rw [List.mem_singleton] at h1;subst h1;exact Or.inr h2
    · have hsta:¬StaN (nsN c.P) (nxN c.P) (lsN c) i:=fun h=>hp (hfree.2 h)
      simp (disch:=omega) [f1,f3,f4,f5,f11,f12,wrap_i64]
      rw [repsA_not hsta]
      exact ⟨ht,_,_,_,_,hS,hC,hM⟩
  have:i=nsN c.P:=by omega
  subst this
  have hl0':=fun L=>hx0 hS L
  simp [f1,f3,f4,f5,f11,f12,hl0',hl0,-vload_ptrO]
  refine wLoop_up (nsN c.P) (fun i fr L H'=>∃M u pts cl,(fr 1=.ptr H.length 0∧fr 3=.ptr (H.length+2) 0∧fr 4=.ptr (H.length+3) 0∧fr 5=.func (.func 85) [] [.ptr H.length 0,.ptr (H.length+2) 0,.ptr (H.length+3) 0]∧fr 30=.int .i64 (nsN c.P)∧fr 31=.int .i64 i)∧L=[]∧PtsS H.length H lv M u pts cl H'∧PtsC c (repsA c (nsN c.P) i) pts cl∧∀k,(look k M).getD false=true↔∃r,r∈repsA c (nsN c.P) i∧k∈csP c r) ⟨M,u,pts,cl,by simp [f1,f3,f4,f5],rfl,hS,hC,hM⟩ ?_
  clear f1 f3 f4 f5 f11 f12 hS hC hM hl0' hi hfl fr
  rintro i hi fr L H1 ⟨M,u,pts,cl,⟨f1,f3,f4,f5,f30,f31⟩,rfl,hS,hC,hM⟩
  simp [f1,f3,f4,f5,f30,f31]
  refine cond_dec (fun ht => ?_) fun hfl => ?_
  · have ht:i<nsN c.P:=by omega
    have hg:=vmgetE (K:=kI) (vc:=V.bool) (a:=(i:Int)) (z:=false) hS.b1
    have hg':vmget false [.int .i64] false (.bool false) H1 (.mp (H.length+1)) (.int .i64 (i:Int))=some (.bool ((look (i:Int) M).getD false)):=hg
    have hl2:∀L,vload none L H1 (.ptr (H.length+2) 0)=some (.mp (H.length+1)):=fun L=>by rw [vload_ptr hS.b2];rfl
    have hfd:=(hM (i:Int)).trans (found_iff hok ht)
    generalize hfo:(look (i:Int) M).getD false=fo at *
    simp [f1,f3,f4,f5,f30,f31,hl2,hg',-vload_ptrO]
    cases fo with
    | true =>
      have hout:=hfd.1 rfl
      simp (disch:=omega) [f1,f3,f4,f5,f30,f31,wrap_i64]
      rw [repsA_out hout]
      exact ⟨ht,_,_,_,_,hS,hC,hM⟩
    | false =>
      have hinn:LeE (PtR c) i∧InnN (nsN c.P) (nxN c.P) (lsN c) i:=by
        apply Classical.byContradiction
        intro hn
        have:=hfd.2 hn
        cases this
      have hlen:pts.length≤1000:=by
        have h1:(repsA c (nsN c.P) i).length≤nsN c.P+i:=by
          unfold repsA
          rw [List.length_append]
          exact Nat.le_trans (Nat.add_le_add (List.length_filter_le _ _) (List.length_filter_le _ _)) (by simp)
        rw [hC.len];omega
      simp [f1,f3,f4,f5,f30,f31]
      refine surf_collect hok ht (Or.inr hinn.2) hlim hS hlv hlen fun H2 M2 u2 v2 hS2 hM2 => ?_
      have hb:true=innB c i:=by
        symm
        simp only [innB,decide_eq_true_eq]
        exact hinn.2
      simp (disch:=omega) [f1,f3,f4,f5,f30,f31,wrap_i64]
      refine ⟨ht,_,_,_,_,hS2,?_,fun k => ?_⟩
      · rw [repsA_inn hinn];exact hC.snoc hb
      · rw [hM2 k,hM k,repsA_inn hinn]
        constructor
        · rintro (⟨r,h1,h2⟩ | h)
          · exact ⟨r,List.mem_append_left _ h1,h2⟩
          · exact ⟨i,by simp,h⟩
        · rintro ⟨r,h1,h2⟩
          rcases List.mem_append.1 h1 with h1 | h1
          · exact Or.inl ⟨r,h1,h2⟩
          · rw [List.mem_singleton] at h1;subst h1;exact Or.inr h2
  have:i=nsN c.P:=by omega
  subst this
  rw [reps_all] at hC
  have hRp:Reps (PtR c) (nsN c.P) (stasN (nsN c.P) (nxN c.P) (lsN c)++innMins (nsN c.P) (nxN c.P) (lsN c)):=reps_sta hok.nu
  generalize stasN (nsN c.P) (nxN c.P) (lsN c)++innMins (nsN c.P) (nxN c.P) (lsN c)=R at *
  have hlu:∀L,vload none L H1 (.ptr (H.length+3) 0)=some u:=fun L=>by rw [vload_ptr hS.b3];rfl
  simp [f1,f3,f4,f5,f30,f31,hlu,hS.ou.lst.stor,-vload_ptrO]
  have hne:0<pts.length:=by
    obtain ⟨r,h1,_⟩:=hRp.cov 0 (by
      have:=hok.np
      have:=hok.ks (q:=0) (by omega)
      exact off_lt (pcs:=c.P) (q:=0) (j:=0) (by omega) (by omega))
    rw [hC.len];exact List.length_pos_of_mem h1
  have hlen:pts.length≤48:=by
    have h1:=few_below (nsN c.P) R (hRp.dis.imp fun {x y} hne (e:x=y)=>hne (by rw [e];exact hok.ptE.rf _)) hRp.lt
    rw [hC.len];omega
  obtain ⟨bu,rfl,hbu,hrow⟩:=hS.ou.row_of hne
  have hel:=fun i hi=>hC.elem hok hRp.lt (i:=i) hi
  have hcmp:CmpQ bu 89 [] [] H1 pts cfP:=by
    intro H2 lim2 x y K2 hx hy hle hoth hK2
    obtain ⟨i,hi,rfl⟩:=mem_at hx
    obtain ⟨j,hj,rfl⟩:=mem_at hy
    have hi':i<R.length:=by rw [←hC.len];exact hi
    have hj':j<R.length:=by rw [←hC.len];exact hj
    have own:∀i,i<pts.length→SlV H2 (pts.getD i default).v (cl.getD i []):=fun i hi =>
      ((hS.oc i hi).keepB fun b o m z e=>hoth b ((hS.oc i hi).belowB _ _ _ _ e).2 fun e'=>by
        subst e'
        exact hS.ap i hi _ _ _ _ _ _ _ rfl e).sl
    have kk:∀i,i<R.length→0<(cl.getD i []).length∧(cl.getD i []).getD 0 0=(pts.getD i default).k∧0≤(pts.getD i default).k∧(pts.getD i default).k≤1000:=fun i hi=>by
      obtain ⟨e1,e2,_⟩:=hel i hi
      obtain ⟨f1,f2⟩:=first_low hok e2
      have:=(lowE_spec hok.ptE (R.getD i 0)).1
      rw [(hC.at' i hi).1,f1,e1]
      exact ⟨f2,rfl,by omega,by omega⟩
    exact surf_cmpP (own i hi) (own j hj) (kk i hi') (kk j hj') (hK2 _ HX.refl)
  refine sq_sort (b:=bu) (l:=pts) (cf:=cfP) hrow (by omega) ⟨rfl,rfl,by decide⟩ hcmp cfP_ordr (by omega) fun H2 l2 hs2 hso => ?_
  have hb4:=hS.big
  have hlu2:H2[H.length+3]? = some (.row [.sl bu 0 pts.length 4] true):=by
    rw [hs2.oth _ (by omega) (by omega)];exact hS.b3
  have hlu':∀L,vload none L H2 (.ptr (H.length+3) 0)=some (.sl bu 0 pts.length 4):=fun L=>by rw [vload_ptr hlu2];rfl
  simp [f4,hlu',-vload_ptrO]
  have hl2:l2.length=pts.length:=hs2.n
  have hmin:=pts_sorted hok hRp hC hs2.perm (by rw [hl2];exact hso)
  have hlm:(minsE (PtR c) (nsN c.P)).length=pts.length:=by rw [←hmin,List.length_map,hl2]
  have hx2:HX H H2:=HX.of (by have:=hS.hx.len;have:=hs2.len;omega) fun b hb=>by
    have:=hS.hx.len
    rw [hs2.oth b (by omega) (by omega),hS.hx.same hb]
  refine hK _ _ hx2 ⟨l2,?_,by rw [hl2,ptsP,List.length_map,hlm],fun i hi => ?_⟩
  · rw [←hl2];exact .row (by omega) hs2.row
  · have hi2:i<l2.length:=by rw [ptsP,List.length_map,hlm] at hi;omega
    have hmem:l2.getD i default∈pts:=hs2.perm.mem_iff.1 (getD_mem hi2)
    obtain ⟨j,hj,ej⟩:=mem_at hmem
    have hj':j<R.length:=by rw [←hC.len];exact hj
    obtain ⟨e1,e2,e3,e4,e5⟩:=hel j hj'
    have hki:(l2.getD i default).k.toNat=(minsE (PtR c) (nsN c.P)).getD i 0:=by
      rw [←hmin]
      simp only [List.getD_eq_getElem?_getD,List.getElem?_map,List.getElem?_eq_getElem hi2];rfl
    rw [ej,e1] at hki
    simp only [Int.toNat_natCast] at hki
    obtain ⟨a1,a2,a3⟩:=lowE_spec hok.ptE (R.getD j 0)
    rw [hki] at a2
    obtain ⟨c1,c2,c3⟩:=ptOf_congr hok a2
    have hpt:(ptsP c).getD i default=ptOf c ((minsE (PtR c) (nsN c.P)).getD i 0):=by
      have him:i<(minsE (PtR c) (nsN c.P)).length:=by omega
      simp only [ptsP,List.getD_eq_getElem?_getD,List.getElem?_map,List.getElem?_eq_getElem him];rfl
    rw [hpt,ej,e3,e4,e5,c2,c3]
    refine ⟨rfl,rfl,rfl,?_⟩
    have:=((hS.oc j hj).keepB (H':=H2) fun b o m z e=>hs2.oth b ((hS.oc j hj).belowB _ _ _ _ e).2 fun e'=>by
        subst e'
        exact hS.ap j hj _ _ _ _ _ _ _ rfl e).le (n:=H.length) (by omega)
    rw [(hC.at' j hj').1,c1] at this
    exact this
end
end Go.Proofs.Ytclghkegfpcdpaa.Vm
namespace Go.Proofs.Ytclghkegfpcdpaa.Vm
open Go
set_option maxRecDepth 100000
set_option maxHeartbeats 1000000
set_option linter.unusedSimpArgs false
set_option linter.unusedVariables false
attribute [-simp] List.getD_eq_getElem?_getD
section
variable {c:Cp}{k s:Nat}
def sgP (c:Cp):Nat→Nat:=fun s=>s
noncomputable def sg (c:Cp)(s:Nat):Nat:=sgN (nsN c.P) (nxN c.P) (lsN c) s
def FrsP (c:Cp)(k:Nat):Prop:=LeE (Orb (nsN c.P) (sgN (nsN c.P) (nxN c.P) (lsN c))) k∧alf (lsN c) k=k
open Classical in
noncomputable def frsA (c:Cp)(b:Nat):List Nat:=(List.range b).filter fun k=>decide (FrsP c k)
theorem mem_frs {b r:Nat}:r∈frsA c b↔r<b∧FrsP c r:=by simp [frsA]
theorem frs_all:frsA c (nsN c.P)=firstsN (nsN c.P) (nxN c.P) (lsN c):=by
  unfold frsA firstsN minsE
  rw [List.filter_filter]
  refine List.filter_congr fun k _ => ?_
  rw [Bool.eq_iff_iff]
  simp only [decide_eq_true_eq,Bool.and_eq_true,freeN_iff]
  unfold FrsP
  exact ⟨fun h=>⟨h.2,h.1⟩,fun h=>⟨h.2,h.1⟩⟩
theorem frs_yes {b:Nat}(h:FrsP c b):frsA c (b+1)=frsA c b++[b]:=by
  unfold frsA
  rw [List.range_succ,List.filter_append]
  simp [h]
theorem frs_no {b:Nat}(h:¬FrsP c b):frsA c (b+1)=frsA c b:=by
  unfold frsA
  rw [List.range_succ,List.filter_append]
  simp [h]
noncomputable def lpP (c:Cp)(f:Nat):List Nat:=lpN (nsN c.P) (sgN (nsN c.P) (nxN c.P) (lsN c)) f
theorem seen_iff (hok:CapOk c)(hk:k<nsN c.P)(hf:alf (lsN c) k=k):(∃r,r∈frsA c k∧k∈lpP c r)↔¬FrsP c k:=by
  have hsg:=sg_pr hok.nu
  have hE:=hsg.eqv
  constructor
  · rintro ⟨r,hr,hm⟩ ⟨h1,h2⟩
    obtain ⟨r1,r2,r3⟩:=mem_frs.1 hr
    rw [lpP,lp_mem hsg (by omega)] at hm
    exact h1 r r1 (hE.sy hm)
  · intro h
    apply Classical.byContradiction
    intro hn
    refine h ⟨fun d hd he => ?_,hf⟩
    obtain ⟨a1,a2,a3⟩:=lowE_spec hE d
    have hfd:=sg_stays hok.nu hf (hE.tr he a2)
    exact hn ⟨_,mem_frs.2 ⟨by omega,a3,hfd⟩,by rw [lpP,lp_mem hsg (by omega)];exact hE.sy (hE.tr he a2)⟩
noncomputable def lpL (c:Cp)(f j:Nat):List Int:=(List.range j).map fun t=>((itN (sgN (nsN c.P) (nxN c.P) (lsN c)) t f:Nat):Int)
theorem lpL_snoc {f j:Nat}:lpL c f (j+1)=lpL c f j++[((itN (sgN (nsN c.P) (nxN c.P) (lsN c)) j f:Nat):Int)]:=by simp [lpL,List.range_succ]
theorem lpL_len {f j:Nat}:(lpL c f j).length=j:=by simp [lpL]
theorem lpL_all {f:Nat}:lpL c f (perN (nsN c.P) (sgN (nsN c.P) (nxN c.P) (lsN c)) f)=natL (lpP c f):=by
  rw [lpL,natL,lpP,lpN,List.map_map];rfl
end
def vC:Cod V 1:=⟨fun x=>[x],fun _=>rfl⟩
structure LpsS (n0:Nat)(H0:Hp)(M:List (Int×Bool))(u:V)(us:List V)(ls:List (List Int))(cv:V)(cur:List Int)(H:Hp):Prop where
  hx:HX H0 H
  hn:H0.length=n0
  b1:H[n0]? = some (.map (mE kI .bool M))
  ou:OwnT (n0+1) vC H u us
  len:us.length=ls.length
  oc:∀i,i<us.length→OwnV (n0+1) H (us.getD i dv) (ls.getD i [])
  ow:OwnV (n0+1) H cv cur
  ap:∀i,i<us.length→∀b o z y o' z' y',u=.sl b o z y→us.getD i dv=.sl b o' z' y'→False
  aw:∀b o z y o' z' y',u=.sl b o z y→cv=.sl b o' z' y'→False
  ac:∀i,i<us.length→∀b o z y o' z' y',cv=.sl b o z y→us.getD i dv=.sl b o' z' y'→False
section
variable {n0 lim:Nat}{H H0 H':Hp}{K:V→Hp→Prop}{lv u cv v:V}{M M':List (Int×Bool)}{us:List V}{ls:List (List Int)}{cur:List Int}{c:Cp}{s:Nat}
theorem LpsS.big (h:LpsS n0 H0 M u us ls cv cur H):n0+1≤H.length:=(List.getElem?_eq_some_iff.1 h.b1).1
theorem LpsS.move (h:LpsS n0 H0 M u us ls cv cur H)(ho:OthM n0 H H')(hm:H'[n0]? = some (.map (mE kI .bool M'))):LpsS n0 H0 M' u us ls cv cur H' where
  hx:=HX.of (by have:=h.hx.len;have:=ho.1;omega) fun b hb=>by
    have:=h.hx.len
    have:=h.hn
    rw [ho.2 b (by omega) (by omega),h.hx.same hb]
  hn:=h.hn
  b1:=hm
  ou:=h.ou.keepB fun b o m z e=>by have:=h.ou.belowB _ _ _ _ e;exact ho.2 b (by omega) (by omega)
  len:=h.len
  oc:=fun i hi=>(h.oc i hi).keepB fun b o m z e=>by have:=(h.oc i hi).belowB _ _ _ _ e;exact ho.2 b (by omega) (by omega)
  ow:=h.ow.keepB fun b o m z e=>by have:=h.ow.belowB _ _ _ _ e;exact ho.2 b (by omega) (by omega)
  ap:=h.ap
  aw:=h.aw
  ac:=h.ac
theorem LpsS.grow (h:LpsS n0 H0 M u us ls cv cur H)(hx:HX H H'):LpsS n0 H0 M u us ls cv cur H':=h.move ⟨hx.len,fun b hb _=>hx.same hb⟩ (hx.get h.b1)
theorem LpsS.put (h:LpsS n0 H0 M u us ls cv cur H){k:Int}:LpsS n0 H0 (putA k true M) u us ls cv cur (H.set n0 (.map (mE kI .bool (putA k true M)))) :=
  h.move ⟨by simp,fun b hb hne=>List.getElem?_set_ne (fun e=>hne e.symm)⟩ (List.getElem?_set_self h.big)
theorem LpsS.pushC (h:LpsS n0 H0 M u us ls cv cur H){x:Int}(hlim:lim≤n0)(hl:cur.length<1000000) :
    ∃cv' H',vappend lim 1 8 (H++[.row [.int .i64 x] true]) cv (.sl H.length 0 1 1)=some (cv',H')∧LpsS n0 H0 M u us ls cv' (cur++[x]) H':=by
  have hb:=h.big
  obtain ⟨v',H',a1,a2,a3,a4,a5,a6⟩:=h.ow.appendF (lim:=lim) (x:=x) ⟨by omega,by omega⟩ hl
  have bo:∀b,b<n0+1→∀o z y,cv≠.sl b o z y:=fun b hb o z y e=>by have:=h.ow.belowB _ _ _ _ e;omega
  have hh:=h.hn
  refine ⟨v',H',a1,⟨a3 _ h.hx (by omega),h.hn,(a5 n0 (by omega) (bo _ (by omega))).trans h.b1,h.ou.keepB fun b o m z e=>a5 b (h.ou.belowB _ _ _ _ e).2 fun o' z' y' e'=>h.aw _ _ _ _ _ _ _ e e',h.len,
    fun i hi=>(h.oc i hi).keepB fun b o m z e=>a5 b ((h.oc i hi).belowB _ _ _ _ e).2 fun o' z' y' e'=>h.ac i hi _ _ _ _ _ _ _ e' e,a2,h.ap,fun b o z y o' z' y' e e' => ?_,fun i hi b o z y o' z' y' e e' => ?_⟩⟩
  · have:=(h.ou.belowB _ _ _ _ e).2
    have:=a6 _ _ _ _ e'
    omega
  · have:=((h.oc i hi).belowB _ _ _ _ e').2
    have:=a6 _ _ _ _ e
    omega
theorem LpsS.pushU (h:LpsS n0 H0 M u us ls cv cur H)(hlim:lim≤n0)(hl:us.length<1000000) :
    ∃u' H',vappend lim 1 24 (H++[.row [cv] true]) u (.sl H.length 0 1 1)=some (u',H')∧LpsS n0 H0 M u' (us++[cv]) (ls++[cur]) .snil [] H':=by
  have hb:=h.big
  obtain ⟨v',H',a1,a2,a3,a4,a5,a6⟩:=h.ou.appendF2 (lim:=lim) (bytes:=24) (x:=cv) (cs:=[cv]) rfl ⟨by omega,by omega⟩ (by omega) hl
  have bo:∀b,b<n0+1→∀o z y,u≠.sl b o z y:=fun b hb o z y e=>by have:=h.ou.belowB _ _ _ _ e;omega
  have hh:=h.hn
  refine ⟨v',H',a1,⟨a3 _ h.hx (by omega),h.hn,(a5 n0 (by omega) (bo _ (by omega))).trans h.b1,a2,by simp [h.len],fun i hi => ?_,.nil,fun i hi b o z y o' z' y' e e' => ?_,fun b o z y o' z' y' _ e=>(by cases e),fun i hi b o z y o' z' y' e _=>(by cases e)⟩⟩
  · rw [List.length_append,List.length_singleton] at hi
    by_cases hlt:i<us.length
    · rw [getD_lt hlt,getD_lt (l:=ls) (by rw [←h.len];exact hlt)]
      exact (h.oc i hlt).keepB fun b o m z e=>a5 b ((h.oc i hlt).belowB _ _ _ _ e).2 fun o' z' y' e'=>h.ap i hlt _ _ _ _ _ _ _ e' e
    · have:i=us.length:=by omega
      subst this
      rw [getD_last rfl,getD_last h.len]
      exact h.ow.keepB fun b o m z e=>a5 b (h.ow.belowB _ _ _ _ e).2 fun o' z' y' e'=>h.aw _ _ _ _ _ _ _ e' e
  · rw [List.length_append,List.length_singleton] at hi
    have h6:=a6 _ _ _ _ e
    by_cases hlt:i<us.length
    · rw [getD_lt hlt] at e'
      have:=(h.oc i hlt).belowB _ _ _ _ e'
      omega
    · have:i=us.length:=by omega
      subst this
      rw [getD_last rfl] at e'
      have:=h.ow.belowB _ _ _ _ e'
      omega
structure LlsV (n:Nat)(H:Hp)(v:V)(q:List (List Int)):Prop where
  ex:∃us,OwnT n vC H v us∧us.length=q.length∧∀i,i<q.length→OwnV n H (us.getD i dv) (q.getD i [])
theorem after_sg (hok:CapOk c)(hs:s<nsN c.P)(hf:alf (lsN c) s=s)(hlv:LstV sdC H lv (layL c.P (lsN c)))(hlim:lim≤H.length)(hK:∀H',HX H H'→K (.int .i64 (sgN (nsN c.P) (nxN c.P) (lsN c) s:Nat)) H') :
    VCall tbl lim 92 [lv,.int .i64 s] H K:=by
  have hnu:=hok.nu
  have hns:=hok.ns
  have hc:nuP c s<nsN c.P:=hnu.lt s hs
  have e1:nuP c s=((layL c.P (lsN c)).getD s default).n.toNat:=by
    rw [layL_get hs]
    show nxN c.P (alf (lsN c) s)=_
    rw [hf];rfl
  obtain ⟨w1,w2,w3⟩:=walk_conds hok hc
  refine layout_after (n:=rnN (nsN c.P) (nxN c.P) (lsN c) (nuP c s)) hlv (lay_ok hok.sm_ok (by omega)) (by rw [layL_len];exact hs) e1 w2 w3 hlim fun H' hx => ?_
  have e2:wlk (layL c.P (lsN c)) (nuP c s) (rnN (nsN c.P) (nxN c.P) (lsN c) (nuP c s))=sgN (nsN c.P) (nxN c.P) (lsN c) s:=by
    rw [w1 _ (Nat.le_refl _),sgN,if_pos hf];rfl
  rw [e2]
  exact hK _ hx
theorem surf_loops (hok:CapOk c) (hlim:lim≤H.length) (hlv:LstV sdC H lv (layL c.P (lsN c))) (hK:∀H' v,HX H H'→LlsV H.length H' v ((loopP c).map natL)→K v H') :
    VCall tbl lim 62 [lv] H K:=by
  refine VCall_fn tbl_at62 rfl ?_
  have hns:=hok.ns
  have hnu:=hok.nu
  have hsg:=sg_pr hnu
  have hll:=layL_len (P:=c.P) (L:=lsN c)
  have hl0:vlenS lv=some (.int .i64 (nsN c.P)):=by rw [hlv.len,hll]
  simp [vf62,hl0]
  refine wLoop_up (nsN c.P) (fun i fr L H'=>∃M u us,(fr 0=lv∧fr 3=.mp H.length∧fr 4=u∧fr 10=.int .i64 (nsN c.P)∧fr 11=.int .i64 i)∧L=[]∧LpsS H.length H M u us ((frsA c i).map fun f=>natL (lpP c f)) .snil [] H'∧∀k:Nat,(look (k:Int) M).getD false=true↔∃r,r∈frsA c i∧k∈lpP c r) ⟨[],.snil,[],by simp,rfl,⟨⟨_,rfl⟩,rfl,by simp;rfl,.nil,by simp [frsA],fun i hi=>(by simp at hi),.nil,fun i hi=>(by simp at hi),fun b o z y o' z' y' e _=>(by cases e),fun i hi=>(by simp at hi)⟩,fun k=>by simp [look_nil,frsA]⟩ ?_
  rintro i hi fr L H1 ⟨M,u,us,⟨f0,f3,f4,f10,f11⟩,rfl,hS,hM⟩
  simp [f0,f3,f4,f10,f11]
  have hxl:=hlv.mono hS.hx
  refine cond_dec (fun ht => ?_) fun hfl => ?_
  · have ht : i < nsN c.P:=by omega
    have ad:=hxl.at (i:=i) (by rw [hll];exact ht)
    have fa:vfaddr 4 (ept 5 lv i)=some (eptf 5 lv i 4):=hxl.faddr (by rw [hll];exact ht)
    have ld:∀L,vload none L H1 (eptf 5 lv i 4)=some (.int .i64 (sdP c.P (lsN c) i).p):=fun L=>by
      rw [hxl.rd1 (by rw [hll];exact ht) (by omega),layL_get ht];rfl
    have hfree:=lay_free (P:=c.P) (L:=lsN c) ht
    rw [layL_get ht] at hfree
    have hg:vmget false [.int .i64] false (.bool false) H1 (.mp H.length) (.int .i64 (i:Int))=some (.bool ((look (i:Int) M).getD false)):=vmgetE (K:=kI) (vc:=V.bool) (a:=(i:Int)) (z:=false) hS.b1
    generalize (sdP c.P (lsN c) i).p=pp at *
    by_cases hp:pp = -1
    case neg =>
      have hnf:¬FrsP c i:=fun h=>hp (hfree.2 h.2)
      have hp':decide (pp = -1)=false:=decide_eq_false hp
      simp (disch:=omega) [f0,f3,f4,f10,f11,ad,fa,ld,hp,wrap_i64]
      rw [frs_no hnf]
      exact ⟨ht,_,⟨_,hS⟩,hM⟩
    subst hp
    have hf:alf (lsN c) i=i:=hfree.1 rfl
    have hsn:=(hM i).trans (seen_iff hok ht hf)
    cases hlo:(look (i:Int) M).getD false with
    | true =>
      have hnf:¬FrsP c i:=hsn.1 hlo
      rw [hlo] at hg
      simp (disch:=omega) [f0,f3,f4,f10,f11,ad,fa,ld,hg,wrap_i64]
      rw [frs_no hnf]
      exact ⟨ht,_,⟨_,hS⟩,hM⟩
    | false =>
      have hfr:FrsP c i:=by
        apply Classical.byContradiction
        intro hn
        have:=hsn.2 hn
        rw [hlo] at this;cases this
      rw [hlo] at hg
      simp [f0,f3,f4,f10,f11,ad,fa,ld,hg]
      obtain ⟨p1,⟨p2,p3⟩,p4⟩:=per_spec hsg ht
      have hlp:lpP c i=lpN (nsN c.P) (sgN (nsN c.P) (nxN c.P) (lsN c)) i:=rfl
      have hlall:=lpL_all (c:=c) (f:=i)
      generalize hm:perN (nsN c.P) (sgN (nsN c.P) (nxN c.P) (lsN c)) i=m at *
      refine wLoop_up m (fun j fr L H'=>∃M' cv,(fr 0=lv∧fr 3=.mp H.length∧fr 4=u∧fr 6=cv∧fr 7=.int .i64 (itN (sgN (nsN c.P) (nxN c.P) (lsN c)) j i:Nat)∧fr 10=.int .i64 (nsN c.P)∧fr 11=.int .i64 i)∧L=[]∧LpsS H.length H M' u us ((frsA c i).map fun f=>natL (lpP c f)) cv (lpL c i j) H'∧∀k:Nat,(look (k:Int) M').getD false=true↔(look (k:Int) M).getD false=true∨∃t,t<j∧k=itN (sgN (nsN c.P) (nxN c.P) (lsN c)) t i) ⟨M,.snil,by simp [f0,f3,f4,f10,f11,itN],rfl,by simpa [lpL] using hS,fun k=>by simp⟩ ?_
      clear f0 f3 f4 f10 f11 ad fa ld hg hxl hlo fr
      rintro j hj fr L H2 ⟨M',cv,⟨f0,f3,f4,f6,f7,f10,f11⟩,rfl,hS2,hM2⟩
      have hq:=hsg.it ht j
      have hqf:=sg_stays hnu hf (hsg.orb ht j)
      have hg:vmget false [.int .i64] false (.bool false) H2 (.mp H.length) (.int .i64 (itN (sgN (nsN c.P) (nxN c.P) (lsN c)) j i:Nat))=some (.bool ((look ((itN (sgN (nsN c.P) (nxN c.P) (lsN c)) j i:Nat):Int) M').getD false)):=vmgetE (K:=kI) (vc:=V.bool) (z:=false) hS2.b1
      have hsee:=hM2 (itN (sgN (nsN c.P) (nxN c.P) (lsN c)) j i)
      by_cases hjm:j=m
      · have hseen:(look ((itN (sgN (nsN c.P) (nxN c.P) (lsN c)) j i:Nat):Int) M').getD false=true:=by
          rw [hsee];right;exact ⟨0,by omega,by rw [hjm,p3];rfl⟩
        rw [hseen] at hg
        subst hjm
        obtain ⟨u2,H3,b1,hS3⟩:=hS2.pushU (lim:=lim) hlim (by
          have h1:=hS2.len
          rw [List.length_map] at h1
          have h2:(frsA c i).length≤i:=by
            unfold frsA;exact Nat.le_trans (List.length_filter_le _ _) (by simp)
          omega)
        simp (disch:=omega) [f0,f3,f4,f6,f7,f10,f11,hg,hS2.ow.sl.stor,hS2.ow.sl.one,splice,b1,wrap_i64]
        refine ⟨ht,M',⟨us++[cv],?_⟩,fun k => ?_⟩
        · rw [frs_yes hfr,List.map_append,List.map_cons,List.map_nil,←hlall]
          exact hS3
        · rw [hM2 k,hM k,frs_yes hfr]
          constructor
          · rintro (⟨r,h1,h2⟩ | ⟨t,h1,h2⟩)
            · exact ⟨r,List.mem_append_left _ h1,h2⟩
            · refine ⟨i,by simp,?_⟩
              rw [hlp,lp_mem hsg ht,h2]
              exact hsg.orb ht t
          · rintro ⟨r,h1,h2⟩
            rcases List.mem_append.1 h1 with h1 | h1
            · exact Or.inl ⟨r,h1,h2⟩
            · rw [List.mem_singleton] at h1
              subst h1
              right
              rw [hlp,lpN,hm] at h2
              obtain ⟨t,h3,h4⟩:=List.mem_map.1 h2
              exact ⟨t,List.mem_range.1 h3,h4.symm⟩
      · have hlt:j<m:=by omega
        have hseen:(look ((itN (sgN (nsN c.P) (nxN c.P) (lsN c)) j i:Nat):Int) M').getD false=false:=by
          cases hb:(look ((itN (sgN (nsN c.P) (nxN c.P) (lsN c)) j i:Nat):Int) M').getD false with
          | false=>rfl
          | true =>
            rcases hsee.1 hb with h | ⟨t,h1,h2⟩
            · obtain ⟨r,h1,h2⟩:=(hM _).1 h
              obtain ⟨r1,r2,r3⟩:=mem_frs.1 h1
              rw [lpP,lp_mem hsg (by omega)] at h2
              exact absurd (hsg.eqv.tr (hsg.orb ht j) (hsg.eqv.sy h2)) (hfr.1 r r1)
            · have:=hsg.back ht t (j-t) (by rw [show t+(j-t)=j by omega];exact h2)
              exact absurd ⟨by omega,this⟩ (p4 (j-t) (by omega))
        rw [hseen] at hg
        generalize hqe:itN (sgN (nsN c.P) (nxN c.P) (lsN c)) j i=q at *
        have hput:vmput lim false [.int .i64] H2 (.mp H.length) (.int .i64 (q:Int)) (.bool true)=some (H2.set H.length (.map (mE kI .bool (putA (q:Int) true M')))):=vmputE (K:=kI) (vc:=V.bool) (u:=true) hS2.b1 hlim rfl
        have hS3:=hS2.put (k:=(q:Int))
        generalize H2.set H.length (.map (mE kI .bool (putA (q:Int) true M')))=H3 at *
        obtain ⟨cv2,H4,b1,hS4⟩:=hS3.pushC (lim:=lim) (x:=(q:Int)) hlim (by rw [lpL_len];omega)
        have hb4:=hS4.big
        simp [f0,f3,f4,f6,f7,f10,f11,hg,hput,b1,hlv.stor]
        refine after_sg hok hq hqf (hlv.mono hS4.hx) (by omega) fun H5 x5 => ?_
        simp [f0,f3,f4,f6,f7,f10,f11]
        refine ⟨hlt,putA (q:Int) true M',cv2,⟨rfl,?_⟩,?_,fun k => ?_⟩
        · rw [←hqe];rfl
        · rw [lpL_snoc,hqe];exact hS4.grow x5
        · rw [look_put]
          by_cases e:(k:Int)=(q:Int)
          · have e':k=q:=by omega
            subst e'
            rw [if_pos rfl]
            simp only [Option.getD_some,true_iff]
            exact Or.inr ⟨j,by omega,hqe.symm⟩
          · rw [if_neg e,hM2 k]
            constructor
            · rintro (h | ⟨t,h1,h2⟩)
              · exact Or.inl h
              · exact Or.inr ⟨t,by omega,h2⟩
            · rintro (h | ⟨t,h1,h2⟩)
              · exact Or.inl h
              · rcases Nat.lt_or_ge t j with h3 | h3
                · exact Or.inr ⟨t,h3,h2⟩
                · have:t=j:=by omega
                  subst this
                  rw [hqe] at h2
                  exact absurd (by rw [h2]) e
  · have:i=nsN c.P:=by omega
    subst this
    simp [f4,hS.ou.lst.stor]
    refine hK _ _ hS.hx ⟨us,hS.ou.le (by omega),?_,fun i hi => ?_⟩
    · rw [hS.len,frs_all,List.length_map,List.length_map,loopP,loopsN,List.length_map]
    · have e:(loopP c).map natL=(frsA c (nsN c.P)).map fun f=>natL (lpP c f):=by
        rw [frs_all,loopP,loopsN,List.map_map];rfl
      rw [e] at hi ⊢
      exact (hS.oc i (by rw [hS.len];exact hi)).le (by omega)
end
end Go.Proofs.Ytclghkegfpcdpaa.Vm
namespace Go.Proofs.Ytclghkegfpcdpaa.Vm
open Go
set_option maxRecDepth 100000
set_option maxHeartbeats 1000000
set_option linter.unusedSimpArgs false
set_option linter.unusedVariables false
attribute [-simp] List.getD_eq_getElem?_getD
section
variable {c:Cp}
theorem pts_le:(ptsP c).length≤nsN c.P:=by
  rw [ptsP,List.length_map]
  exact few_below _ _ mins_nodup fun x hx=>(mem_mins.1 hx).1
def dfL (c:Cp)(i:Nat):Int:=0
noncomputable def msUp (c:Cp)(i:Nat):Int:=(((ptsP c).map (·.df)).take i).sum
theorem ls_bd (hok:CapOk c):c.S.length≤24:=by
  have:=frees_len hok.sm_ok
  rw [ls_len] at this
  have:=hok.ns
  omega
theorem loop_le:(loopP c).length≤nsN c.P:=by
  rw [loopP,loopsN,List.length_map]
  exact few_below _ _ (List.Nodup.sublist List.filter_sublist mins_nodup) fun x hx=>(mem_firsts.1 hx).1.1
def lnUp (c:Cp)(lo:List Nat)(j:Nat):Int:=((lo.take j).map (lnN c.P)).sum
theorem getD_any {α:Type}{l:List α}{i:Nat}{d d':α}(h:i<l.length):l.getD i d=l.getD i d':=by
  simp [List.getD_eq_getElem?_getD,h]
def PrR (c:Cp)(i:Nat):Nat→Nat→Prop:=prtE (pcN c.P) (prL c.P (c.S.take i))
end
section
variable {lim:Nat}{H H':Hp}{K:V→Hp→Prop}{pv sv:V}{ps:List (V×V)}{P:List Pc}{S:List Sm}{e:Int}{ws:List V}{c:Cp}
theorem CapV.form (h:CapV H ws c):∃pv sv ps,ws=[pv,sv,.int .i64 c.e]∧PcsV H pv ps c.P∧LstV smC H sv c.S∧stor pv=true∧cellsV pv=[pv]∧stor sv=true∧cellsV sv=[sv]:=by
  cases h with
  | mk hp hs=>exact ⟨_,_,_,rfl,hp,hs,hp.lst.stor,hp.lst.one,hs.stor,hs.one⟩
theorem surf_Points (hc:CapV H ws c)(hb:c.S.length≤1000000)(hlim:lim≤H.length)(hK:∀H' v,HX H H'→(capE c=0→PtlV H.length H' v (ptsP c))→(capE c≠0→v=.snil)→K (.tup [v,.int .i64 (capE c)]) H'):VCall tbl lim 21 [.agg ws] H K:=by
  obtain ⟨pv,sv,ps,rfl,hp,hs,z1,z2,z3,z4⟩:=hc.form
  refine VCall_fn tbl_at21 rfl ?_
  simp [vf21,z1,z2,z3,z4,rdA3]
  refine surf_Validate hc hb hlim fun H1 x1 => ?_
  replace x1:HX H H1:=x1
  by_cases he:capE c=0
  case neg =>
    have:=hK H1 .snil x1 (fun h=>absurd h he) (fun _=>rfl)
    simp [he,z1,z2,z3,z4]
    exact this
  have l1:=x1.len
  simp [he,rdA3,z1,z2,z3,z4]
  refine surf_lay (hc.mono x1) (capE_ok.1 he) (by omega) fun H2 lv x2 ol => ?_
  replace x2:HX H1 H2:=x2
  have l2:=x2.len
  simp [ol.lst.stor]
  refine surf_points (capE_ok.1 he) (by omega) ol.lst fun H3 v x3 hv => ?_
  replace x3:HX H2 H3:=x3
  obtain ⟨pts,o1,o2,o3⟩:=hv.ex
  have:=hK H3 v ((x1.trans x2).trans x3) (fun _=>⟨⟨pts,o1.le (by omega),o2,fun i hi=>⟨(o3 i hi).1,(o3 i hi).2.1,(o3 i hi).2.2.1,(o3 i hi).2.2.2.le (by omega)⟩⟩⟩) (fun h=>absurd he h)
  rw [he] at this
  simp [o1.lst.stor]
  exact this
theorem surf_Loops (hc:CapV H ws c)(hb:c.S.length≤1000000)(hlim:lim≤H.length)(hK:∀H' v,HX H H'→(capE c=0→LlsV H.length H' v ((loopP c).map natL))→(capE c≠0→v=.snil)→K (.tup [v,.int .i64 (capE c)]) H'):VCall tbl lim 24 [.agg ws] H K:=by
  obtain ⟨pv,sv,ps,rfl,hp,hs,z1,z2,z3,z4⟩:=hc.form
  refine VCall_fn tbl_at24 rfl ?_
  simp [vf24,z1,z2,z3,z4,rdA3]
  refine surf_Validate hc hb hlim fun H1 x1 => ?_
  replace x1:HX H H1:=x1
  by_cases he:capE c=0
  case neg =>
    have:=hK H1 .snil x1 (fun h=>absurd h he) (fun _=>rfl)
    simp [he,z1,z2,z3,z4]
    exact this
  have l1:=x1.len
  simp [he,rdA3,z1,z2,z3,z4]
  refine surf_lay (hc.mono x1) (capE_ok.1 he) (by omega) fun H2 lv x2 ol => ?_
  replace x2:HX H1 H2:=x2
  have l2:=x2.len
  simp [ol.lst.stor]
  refine surf_loops (capE_ok.1 he) (by omega) ol.lst fun H3 v x3 hv => ?_
  replace x3:HX H2 H3:=x3
  obtain ⟨us,o1,o2,o3⟩:=hv.ex
  have:=hK H3 v ((x1.trans x2).trans x3) (fun _=>⟨⟨us,o1.le (by omega),o2,fun i hi=>(o3 i hi).le (by omega)⟩⟩) (fun h=>absurd he h)
  rw [he] at this
  simp [o1.lst.stor]
  exact this
end
end Go.Proofs.Ytclghkegfpcdpaa.Vm
namespace Go.Proofs.Ytclghkegfpcdpaa.Vm
open Go
set_option maxRecDepth 100000
set_option maxHeartbeats 1000000
set_option linter.unusedSimpArgs false
set_option linter.unusedVariables false
attribute [-simp] List.getD_eq_getElem?_getD
structure OPcsV (n:Nat)(H:Hp)(v:V)(ps:List (V×V))(pcs:List Pc):Prop where
  own:OwnT n pvC H v ps
  len:ps.length=pcs.length
  at':∀i,i<pcs.length→OwnV n H (ps.getD i default).1 (pcs.getD i default).s∧OwnV n H (ps.getD i default).2 (pcs.getD i default).a
  ap:∀i,i<pcs.length→∀b o z y o' z' y',v=.sl b o z y→((ps.getD i default).1=.sl b o' z' y'∨(ps.getD i default).2=.sl b o' z' y')→False
inductive OCapV (n:Nat)(H:Hp):List V→Cp→Prop
  | mk {pv sv:V} {ps:List (V×V)} {P:List Pc} {S:List Sm} {e:Int}:OPcsV n H pv ps P→OwnT n smC H sv S→(∀b o z y o' z' y',pv=.sl b o z y→sv=.sl b o' z' y'→False)→(∀i,i<P.length→∀b o z y o' z' y',sv=.sl b o z y→((ps.getD i default).1=.sl b o' z' y'∨(ps.getD i default).2=.sl b o' z' y')→False)→OCapV n H [pv,sv,.int .i64 e] ⟨P,S,e⟩
section
variable {n lim:Nat}{H H' H1:Hp}{K:V→Hp→Prop}{v pv sv a b:V}{ps:List (V×V)}{pcs P:List Pc}{S:List Sm}{e:Int}{ws:List V}{c d:Cp}
theorem OPcsV.pcsV (h:OPcsV n H v ps pcs):PcsV H v ps pcs:=⟨h.own.lst,h.len,fun i hi=>⟨(h.at' i hi).1.sl,(h.at' i hi).2.sl⟩⟩
theorem OCapV.cap (h:OCapV n H ws c):CapV H ws c:=by
  cases h with
  | mk h1 h2 _ _=>exact .mk h1.pcsV h2.lst
theorem OPcsV.mono (hx:HX H H')(h:OPcsV n H v ps pcs):OPcsV n H' v ps pcs:=⟨h.own.mono hx,h.len,fun i hi=>⟨(h.at' i hi).1.mono hx,(h.at' i hi).2.mono hx⟩,h.ap⟩
theorem OPcsV.le {m:Nat}(hnm:n≤m)(h:OPcsV m H v ps pcs):OPcsV n H v ps pcs:=⟨h.own.le hnm,h.len,fun i hi=>⟨(h.at' i hi).1.le hnm,(h.at' i hi).2.le hnm⟩,h.ap⟩
theorem OCapV.mono (hx:HX H H')(h:OCapV n H ws c):OCapV n H' ws c:=by
  cases h with
  | mk h1 h2 h3 h4=>exact .mk (h1.mono hx) (h2.mono hx) h3 h4
theorem OCapV.le {m:Nat}(hnm:n≤m)(h:OCapV m H ws c):OCapV n H ws c:=by
  cases h with
  | mk h1 h2 h3 h4=>exact .mk (h1.le hnm) (h2.le hnm) h3 h4
theorem OPcsV.nil:OPcsV n H .snil [] []:=⟨.nil,rfl,fun i hi=>by simp at hi,fun i hi=>by simp at hi⟩
theorem OPcsV.keepB (h:OPcsV n H v ps pcs)(h1:∀b o m z,v=.sl b o m z→H'[b]? = H[b]?)(h2:∀i,i<pcs.length→∀b o m z,((ps.getD i default).1=.sl b o m z∨(ps.getD i default).2=.sl b o m z)→H'[b]? = H[b]?):OPcsV n H' v ps pcs :=
  ⟨h.own.keepB h1,h.len,fun i hi=>⟨(h.at' i hi).1.keepB fun b o m z e=>h2 i hi b o m z (Or.inl e),(h.at' i hi).2.keepB fun b o m z e=>h2 i hi b o m z (Or.inr e)⟩,h.ap⟩
theorem OPcsV.append {p:Pc}(h:OPcsV n H v ps pcs)(hx:HX H H1)(ha:OwnV H.length H1 a p.s)(hb:OwnV H.length H1 b p.a)(hn:lim≤n∧n≤H.length)(hl:pcs.length<1000000) :
    ∃v' H2,vappend lim 2 48 (H1++[.row [a,b] true]) v (.sl H1.length 0 1 2)=some (v',H2)∧OPcsV n H2 v' (ps++[(a,b)]) (pcs++[p])∧(∀H0,HX H0 H1→H0.length≤n→HX H0 H2)∧H1.length≤H2.length∧(∀b',b'<H1.length→(∀o z y,v≠.sl b' o z y)→H2[b']? = H1[b']?)∧∀b o z y,v'=.sl b o z y→H1.length≤b:=by
  have h1:=h.mono hx
  have hlen:=hx.len
  obtain ⟨v',H2,a1,a2,a3,a4,a5,a6⟩:=h1.own.appendF2 (lim:=lim) (bytes:=48) (x:=(a,b)) (cs:=[a,b]) rfl ⟨hn.1,by omega⟩ (by omega) (by rw [h.len];exact hl)
  have old:∀b' o z y,v=.sl b' o z y→b'<H.length:=fun b' o z y e=>(h.own.belowB _ _ _ _ e).2
  refine ⟨v',H2,a1,⟨a2,by simp [h.len],fun i hi => ?_,fun i hi b' o z y o' z' y' e e' => ?_⟩,a3,a4,a5,a6⟩
  · rw [List.length_append,List.length_singleton] at hi
    by_cases hlt:i<pcs.length
    · rw [getD_lt (l:=ps) (by rw [h.len];exact hlt),getD_lt hlt]
      have:=h1.at' i hlt
      exact ⟨this.1.keepB fun b' o m z e=>a5 b' (this.1.belowB _ _ _ _ e).2 fun o' z' y' e'=>h1.ap i hlt _ _ _ _ _ _ _ e' (Or.inl e),this.2.keepB fun b' o m z e=>a5 b' (this.2.belowB _ _ _ _ e).2 fun o' z' y' e'=>h1.ap i hlt _ _ _ _ _ _ _ e' (Or.inr e)⟩
    · have:i=pcs.length:=by omega
      subst this
      rw [getD_last h.len.symm,getD_last rfl]
      exact ⟨(ha.keepB fun b' o m z e=>a5 b' (ha.belowB _ _ _ _ e).2 fun o' z' y' e'=>by have:=old _ _ _ _ e';have:=(ha.belowB _ _ _ _ e).1;omega).le (by omega),(hb.keepB fun b' o m z e=>a5 b' (hb.belowB _ _ _ _ e).2 fun o' z' y' e'=>by have:=old _ _ _ _ e';have:=(hb.belowB _ _ _ _ e).1;omega).le (by omega)⟩
  · rw [List.length_append,List.length_singleton] at hi
    have h6:=a6 _ _ _ _ e
    by_cases hlt:i<pcs.length
    · rw [getD_lt (l:=ps) (by rw [h.len];exact hlt)] at e'
      have:=h1.at' i hlt
      rcases e' with e' | e'
      · have:=(this.1.belowB _ _ _ _ e').2;omega
      · have:=(this.2.belowB _ _ _ _ e').2;omega
    · have:i=pcs.length:=by omega
      subst this
      rw [getD_last h.len.symm] at e'
      rcases e' with e' | e'
      · have:=(ha.belowB _ _ _ _ e').2;omega
      · have:=(hb.belowB _ _ _ _ e').2;omega
def longB (c:Cp):Bool:=decide (30<c.P.length∨60<c.S.length∨∃q,q<c.P.length∧(30<(c.P.getD q default).s.length∨30<(c.P.getD q default).a.length))
structure ShortC (c:Cp):Prop where
  np:c.P.length≤30
  ns:c.S.length≤60
  pc:∀q,q<c.P.length→(c.P.getD q default).s.length≤30∧(c.P.getD q default).a.length≤30
theorem short_of (h:longB c=false):ShortC c:=by
  simp only [longB,decide_eq_false_iff_not,not_or,Nat.not_lt] at h
  refine ⟨h.1,h.2.1,fun q hq => ?_⟩
  have h3:=h.2.2
  constructor
  · apply Nat.le_of_not_lt;intro g;exact h3 ⟨q,hq,Or.inl g⟩
  · apply Nat.le_of_not_lt;intro g;exact h3 ⟨q,hq,Or.inr g⟩
theorem l02_Long (hc:CapV H ws c)(hK:K (.bool (longB c)) H):VCall tbl lim 15 [.agg ws] H K:=by
  obtain ⟨pv,sv,ps,rfl,hp,hs,z1,z2,z3,z4⟩:=hc.form
  refine VCall_fn tbl_at15 rfl ?_
  by_cases h1:30<c.P.length
  · have e:longB c=true:=by simp only [longB,decide_eq_true_eq];exact Or.inl h1
    have e1:decide (30<(c.P.length:Int))=true:=by simp;omega
    rw [e] at hK
    simp [vf15,z1,z2,z3,z4,rd0,rd1',hp.vlen,hs.len,e1]
    exact hK
  have e1:decide (30<(c.P.length:Int))=false:=by simp;omega
  by_cases h2:60<c.S.length
  · have e:longB c=true:=by simp only [longB,decide_eq_true_eq];exact Or.inr (Or.inl h2)
    have e2:decide (60<(c.S.length:Int))=true:=by simp;omega
    rw [e] at hK
    simp [vf15,z1,z2,z3,z4,rd0,rd1',hp.vlen,hs.len,e1,e2]
    exact hK
  have e2:decide (60<(c.S.length:Int))=false:=by simp;omega
  simp [vf15,z1,z2,z3,z4,rd0,rd1',hp.vlen,hs.len,e1,e2]
  refine wLoop_up c.P.length (fun i fr L H'=>(fr 1=.lp 0 0∧fr 3=.int .i64 i)∧L=[[pv,sv,.int .i64 c.e]]∧H'=H∧∀q,q<i→(c.P.getD q default).s.length≤30∧(c.P.getD q default).a.length≤30) ⟨by simp,rfl,rfl,fun q hq=>by omega⟩ ?_
  rintro i hi fr L H1 ⟨⟨f1,f3⟩,rfl,rfl,hall⟩
  simp [f1,f3,rd0,hp.vlen]
  refine cond_dec (fun ht => ?_) fun hfl => ?_
  · have ht:i<c.P.length:=by omega
    obtain ⟨s1,s2⟩:=hp.at' i ht
    by_cases g1:30<(c.P.getD i default).s.length
    · have e:longB c=true:=by simp only [longB,decide_eq_true_eq];exact Or.inr (Or.inr ⟨i,ht,Or.inl g1⟩)
      have e3:decide (30<((c.P.getD i default).s.length:Int))=true:=by simp;omega
      rw [e] at hK
      simp [f1,f3,rd0,hp.at ht,hp.fa ht,hp.ld0 ht,hp.ld1 ht,s1.len,s2.len,e3]
      exact hK
    have e3:decide (30<((c.P.getD i default).s.length:Int))=false:=by simp;omega
    by_cases g2:30<(c.P.getD i default).a.length
    · have e:longB c=true:=by simp only [longB,decide_eq_true_eq];exact Or.inr (Or.inr ⟨i,ht,Or.inr g2⟩)
      have e4:decide (30<((c.P.getD i default).a.length:Int))=true:=by simp;omega
      rw [e] at hK
      simp [f1,f3,rd0,hp.at ht,hp.fa ht,hp.ld0 ht,hp.ld1 ht,s1.len,s2.len,e3,e4]
      exact hK
    have e4:decide (30<((c.P.getD i default).a.length:Int))=false:=by simp;omega
    simp (disch:=omega) [f1,f3,rd0,hp.at ht,hp.fa ht,hp.ld0 ht,hp.ld1 ht,s1.len,s2.len,e3,e4,wrap_i64]
    refine ⟨ht,fun q hq => ?_⟩
    by_cases eq:q=i
    · subst eq;omega
    · exact hall q (by omega)
  · have:i=c.P.length:=by omega
    subst this
    have e:longB c=false:=by
      simp only [longB,decide_eq_false_iff_not,not_or]
      refine ⟨h1,h2,?_⟩
      rintro ⟨q,hq,g | g⟩
      · have:=(hall q hq).1;omega
      · have:=(hall q hq).2;omega
    rw [e] at hK
    simp
    exact hK
def sameB (c d:Cp):Bool:=decide (c.e=d.e∧c.P.length=d.P.length∧c.S.length=d.S.length∧(∀q,q<c.P.length→(c.P.getD q default).s=(d.P.getD q default).s∧(c.P.getD q default).a=(d.P.getD q default).a)∧∀q,q<c.S.length→(c.S.getD q default).A=(d.S.getD q default).A∧(c.S.getD q default).I=(d.S.getD q default).I∧(c.S.getD q default).B=(d.S.getD q default).B∧(c.S.getD q default).J=(d.S.getD q default).J)
end
end Go.Proofs.Ytclghkegfpcdpaa.Vm
namespace Go.Proofs.Ytclghkegfpcdpaa.Vm
open Go
set_option maxRecDepth 100000
set_option maxHeartbeats 1000000
set_option linter.unusedSimpArgs false
set_option linter.unusedVariables false
attribute [-simp] List.getD_eq_getElem?_getD
structure CapA (H:Hp)(ws:List V)(c:Cp):Prop where
  cap:CapV H ws c
theorem pick_pcs {H:Hp}:∀{ps:List (V×V)},(∀p∈ps,∃c:Pc,SlV H p.1 c.s∧SlV H p.2 c.a)→∃pcs:List Pc,ps.length=pcs.length∧∀i,i<pcs.length→SlV H (ps.getD i default).1 (pcs.getD i default).s∧SlV H (ps.getD i default).2 (pcs.getD i default).a
  | [],_=>⟨[],rfl,fun i hi=>by simp at hi⟩
  | p :: ps,h=>by
    obtain ⟨c,h1,h2⟩:=h p (by simp)
    obtain ⟨pcs,h3,h4⟩:=pick_pcs (ps:=ps) fun q hq=>h q (List.mem_cons_of_mem _ hq)
    refine ⟨c :: pcs,by simp [h3],fun i hi => ?_⟩
    cases i with
    | zero=>exact ⟨h1,h2⟩
    | succ i=>exact h4 i (by simpa using hi)
theorem cap_of {H:Hp}{ws:List V}{ds:List CD}(h:RepTs H [.sl [cInts,cInts],.sl [cInt,cInt,cInt,cInt],cInt] ws ds):∃c,CapA H ws c:=by
  obtain ⟨v0,u0,_,_,rfl,_,p0,q0⟩:=reps_cons h
  obtain ⟨v1,u1,_,_,rfl,_,p1,q1⟩:=reps_cons q0
  obtain ⟨v2,u2,_,_,rfl,_,p2,q2⟩:=reps_cons q1
  have e:=reps_nil q2
  subst e
  obtain ⟨n,rfl,_⟩:=int_of p2
  obtain ⟨l1,h1,hl,hall⟩:=lst_of (c:=pvC) rfl (fun z=>∃c:Pc,SlV H z.1 c.s∧SlV H z.2 c.a) (fun vs ds h=>by
    obtain ⟨v0,u0,_,_,rfl,_,p0,q0⟩:=reps_cons h
    obtain ⟨v1,u1,_,_,rfl,_,p1,q1⟩:=reps_cons q0
    have e:=reps_nil q1
    subst e
    obtain ⟨l0,g0,_,_⟩:=ints_of p0
    obtain ⟨l1,g1,_,_⟩:=ints_of p1
    exact ⟨(v0,v1),rfl,⟨l0,l1⟩,g0,g1⟩) p0
  obtain ⟨l2,h2,_,_⟩:=lst_of (c:=smC) rfl (fun z=>True) (fun vs ds h=>by
    obtain ⟨v0,u0,_,_,rfl,_,p0,q0⟩:=reps_cons h
    obtain ⟨v1,u1,_,_,rfl,_,p1,q1⟩:=reps_cons q0
    obtain ⟨v2,u2,_,_,rfl,_,p2,q2⟩:=reps_cons q1
    obtain ⟨v3,u3,_,_,rfl,_,p3,q3⟩:=reps_cons q2
    have e:=reps_nil q3
    subst e
    obtain ⟨n0,rfl,c0⟩:=int_of p0
    obtain ⟨n1,rfl,c1⟩:=int_of p1
    obtain ⟨n2,rfl,c2⟩:=int_of p2
    obtain ⟨n3,rfl,c3⟩:=int_of p3
    exact ⟨⟨n0,n1,n2,n3⟩,rfl,trivial⟩) p1
  obtain ⟨pcs,g1,g2⟩:=pick_pcs hall
  exact ⟨⟨pcs,l2,n⟩,⟨.mk ⟨h1,g1,g2⟩ h2⟩⟩
def boolL (l:List Bool):List V:=l.map V.bool
section
variable {n lim:Nat}{H H' H1:Hp}{K:V→Hp→Prop}{ws:List V}{c:Cp}{b x:Nat}{el:List Bool}{il:List Int}{own:Bool}
theorem rw_addr (h:x<n):viaddrS 1 (.sl b 0 n 1) (.int .i64 (x:Int))=some (.ptr b x):=by
  rw [viaddrS_in (by omega)];simp
theorem bl_ld (h:H[b]? = some (.row (boolL el) own))(hx:x<el.length):∀L,vload none L H (.ptr b x)=some (.bool (el.getD x false)):=fun L=>by
  rw [vload_ptr h]
  simp [rd,boolL,hx,List.getD_eq_getElem?_getD]
theorem bl_st {y:Bool}(h:H[b]? = some (.row (boolL el) true))(hl:lim≤b)(hx:x<el.length):∀L,vstore lim L H (.ptr b x) (.bool y) 1=some (L,H.set b (.row (boolL (el.set x y)) true)):=fun L=>by
  have h1:x+1≤(boolL el).length:=by simp [boolL];omega
  have e:splice (boolL el) x [.bool y]=boolL (el.set x y):=by
    simp [splice,boolL,List.set_eq_take_append_cons_drop,hx,List.map_append,List.map_take,List.map_drop]
  simp [vstore,vstoreH,h,hl,h1,e]
theorem il_ld (h:H[b]? = some (.row (ints il) own))(hx:x<il.length):∀L,vload none L H (.ptr b x)=some (.int .i64 (il.getD x 0)):=fun L=>by
  rw [vload_ptr h,rd_ints hx]
theorem il_st {y:Int}(h:H[b]? = some (.row (ints il) true))(hl:lim≤b)(hx:x<il.length):∀L,vstore lim L H (.ptr b x) (.int .i64 y) 1=some (L,H.set b (.row (ints (il.set x y)) true)):=fun L=>by
  have h1:x+1≤il.length:=hx
  simp [vstore,vstoreH,h,hl,h1,splice_ints_one hx]
theorem mk_bools {L:Lo}(h:n≤1000):vmks 1 1 [.bool false] L H (.int .i64 (n:Int)) (.int .i64 (n:Int))=some (.val (.sl H.length 0 n 1) L (H++[.row (boolL (List.replicate n false)) true])):=by
  have e:rowOf n [V.bool false]=boolL (List.replicate n false):=by
    simp only [rowOf,boolL,List.map_replicate]
    induction n with
    | zero=>rfl
    | succ n ih=>simp only [List.replicate_succ,List.flatten_cons,ih (by omega)];rfl
  simp only [vmks,Int.toNat_natCast,e]
  rw [if_pos ⟨trivial,by omega,by omega,by omega⟩]
theorem getD_setB {l:List Bool}{i t:Nat}{x:Bool}(h:i<l.length):(l.set i x).getD t false=if t=i then x else l.getD t false:=by
  simp only [List.getD_eq_getElem?_getD,List.getElem?_set]
  by_cases e:i=t
  · subst e;simp [h]
  · rw [if_neg e,if_neg (fun h=>e h.symm)]
def upTo (q:List (List Nat))(i k:Nat):List Nat:=(q.take i).flatten++(q.getD i []).take k
theorem upTo_zero {q:List (List Nat)}:upTo q 0 0=[]:=by simp [upTo]
theorem upTo_next {q:List (List Nat)}{i k:Nat}(hk:k<(q.getD i []).length):upTo q i (k+1)=upTo q i k++[(q.getD i []).getD k 0]:=by
  unfold upTo
  generalize q.getD i []=l at *
  rw [List.append_assoc,List.take_add_one,List.getElem?_eq_getElem hk]
  simp [List.getD_eq_getElem?_getD,hk]
theorem upTo_row {q:List (List Nat)}{i:Nat}(hi:i<q.length):upTo q i (q.getD i []).length=upTo q (i+1) 0:=by
  unfold upTo
  rw [List.take_length,List.take_zero,List.append_nil,List.take_add_one,List.getElem?_eq_getElem hi,List.flatten_append]
  simp [List.getD_eq_getElem?_getD,hi]
theorem upTo_all {q:List (List Nat)}:upTo q q.length 0=q.flatten:=by simp [upTo]
theorem upTo_sub {q:List (List Nat)}{i k:Nat}(hi:i<q.length)(hk:k<(q.getD i []).length):∃r,q.flatten=upTo q i k++(q.getD i []).getD k 0 :: r:=by
  have e1:q=q.take i++q.getD i [] :: q.drop (i+1):=by
    conv=>lhs;rw [←List.take_append_drop i q,List.drop_eq_getElem_cons hi]
    simp [List.getD_eq_getElem?_getD,hi]
  have e2:q.getD i []=(q.getD i []).take k++(q.getD i []).getD k 0 :: (q.getD i []).drop (k+1):=by
    clear e1
    generalize q.getD i []=l at *
    conv=>lhs;rw [←List.take_append_drop k l,List.drop_eq_getElem_cons hk]
    simp [List.getD_eq_getElem?_getD,hk]
  refine ⟨(q.getD i []).drop (k+1)++(q.drop (i+1)).flatten,?_⟩
  conv=>lhs;rw [e1,List.flatten_append,List.flatten_cons,e2]
  simp [upTo]
theorem upTo_new {q:List (List Nat)}(hn:q.flatten.Nodup){i k:Nat}(hi:i<q.length)(hk:k<(q.getD i []).length):(q.getD i []).getD k 0∉upTo q i k:=by
  obtain ⟨r,hr⟩:=upTo_sub hi hk
  rw [hr,List.nodup_append] at hn
  intro hm
  exact hn.2.2 _ hm _ (by simp) rfl
noncomputable def ptQ (c:Cp):List (List Nat):=(ptsP c).map (·.cs)
theorem ptQ_perm (hok:CapOk c):((ptQ c).flatten).Perm (List.range (nsN c.P)):=by
  have:=flat_reps hok.ptE (Reps.mins (N:=nsN c.P) hok.ptE)
  rw [ptQ,ptsP,List.map_map]
  exact this
theorem loop_perm (hok:CapOk c):((loopP c).flatten).Perm (freesN (lsN c) (nsN c.P)):=loops_perm hok.nu
def outN (c:Cp)(l:List Nat)(k:Nat):Nat:=((l.take k).filter (freeN (lsN c))).length
theorem outN_next {l:List Nat}{k:Nat}(hk:k<l.length):outN c l (k+1)=outN c l k+if freeN (lsN c) (l.getD k 0) then 1 else 0:=by
  unfold outN
  rw [List.take_add_one,List.getElem?_eq_getElem hk,List.filter_append,List.length_append]
  congr 1
  have:l.getD k 0=l[k]:=by simp [List.getD_eq_getElem?_getD,hk]
  rw [this]
  cases h:freeN (lsN c) l[k]<;>simp [h]
theorem outN_all (hok:CapOk c){i:Nat}(hi:i<(ptsP c).length):outN c ((ptsP c).getD i default).cs ((ptsP c).getD i default).cs.length=if ((ptsP c).getD i default).inn then 0 else 1:=by
  have him:i<(minsE (PtR c) (nsN c.P)).length:=by simpa [ptsP] using hi
  have hpt:(ptsP c).getD i default=ptOf c ((minsE (PtR c) (nsN c.P)).getD i 0):=by
    simp only [ptsP,List.getD_eq_getElem?_getD,List.getElem?_map,List.getElem?_eq_getElem him];rfl
  rw [hpt]
  generalize hm:(minsE (PtR c) (nsN c.P)).getD i 0=m
  have hmm:m∈minsE (PtR c) (nsN c.P):=by
    rw [←hm,List.getD_eq_getElem?_getD,List.getElem?_eq_getElem him];exact List.getElem_mem him
  have hml:=(mem_mins.1 hmm).1
  show outN c (memE (PtR c) (nsN c.P) m) (memE (PtR c) (nsN c.P) m).length=if innB c m then 0 else 1
  unfold outN
  rw [List.take_length]
  by_cases hi:innB c m=true
  · rw [if_pos hi]
    have hI:InnN (nsN c.P) (nxN c.P) (lsN c) m:=by simpa [innB] using hi
    rw [List.length_eq_zero_iff,List.filter_eq_nil_iff]
    intro x hx hf
    exact hI x (mem_memE.1 hx).2 (freeN_iff.1 hf)
  · rw [if_neg hi]
    have hI:¬InnN (nsN c.P) (nxN c.P) (lsN c) m:=fun h=>hi (by simpa [innB] using h)
    have:∃d,PtR c m d∧alf (lsN c) d=d:=by
      apply Classical.byContradiction
      intro hn
      exact hI fun d hd e=>hn ⟨d,hd,e⟩
    obtain ⟨d,hd,hf⟩:=this
    have hmem:d∈(memE (PtR c) (nsN c.P) m).filter (freeN (lsN c)):=List.mem_filter.2 ⟨mem_memE.2 ⟨ptE_lt hd hml,hd⟩,freeN_iff.2 hf⟩
    have hone:∀x,x∈(memE (PtR c) (nsN c.P) m).filter (freeN (lsN c))→x=d:=by
      intro x hx
      obtain ⟨h1,h2⟩:=List.mem_filter.1 hx
      exact free_one (N:=nsN c.P) (nx:=nxN c.P) (freeN_iff.1 h2) hf (hok.ptE.tr (hok.ptE.sy (mem_memE.1 h1).2) hd)
    have hnd:((memE (PtR c) (nsN c.P) m).filter (freeN (lsN c))).Nodup:=List.Nodup.sublist List.filter_sublist memE_nodup
    generalize (memE (PtR c) (nsN c.P) m).filter (freeN (lsN c))=l at *
    match l,hmem,hone,hnd with
    | [x],_,_,_=>rfl
    | x :: y :: l,_,h1,h2 =>
      exfalso
      rw [List.nodup_cons] at h2
      exact h2.1 (by rw [h1 x (by simp),h1 y (by simp)];simp)
theorem count_one (hok:CapOk c){k:Nat}(hk:k<nsN c.P):(ptQ c).flatten.count k=1:=by
  rw [(ptQ_perm hok).count_eq]
  rw [List.Nodup.count List.nodup_range,if_pos (List.mem_range.2 hk)]
end
end Go.Proofs.Ytclghkegfpcdpaa.Vm
namespace Go.Proofs.Ytclghkegfpcdpaa.Vm
open Go
set_option maxRecDepth 100000
set_option maxHeartbeats 1000000
set_option linter.unusedSimpArgs false
set_option linter.unusedVariables false
attribute [-simp] List.getD_eq_getElem?_getD
section
variable {n lim:Nat}{H H' H1:Hp}{K:V→Hp→Prop}{ws:List V}{c:Cp}
theorem law_CapCorners (ha:CapA H ws c) (hlim:lim≤H.length) (hK:∀H',K (.bool true) H'):VCall tbl lim 5 [.agg ws] H K:=by
  have hc:=ha.cap
  obtain ⟨pv,sv,ps,rfl,hp,hs,z1,z2,z3,z4⟩:=hc.form
  refine VCall_fn tbl_at5 rfl ?_
  simp [vf5,z1,z2,z3,z4,rdA3]
  refine l02_Long hc ?_
  cases hl:longB c with
  | true =>
    simp
    refine cp_known hlim fun H' _ => ?_
    simp
    exact hK _
  | false =>
  have hsh:=short_of hl
  have s2:=hsh.ns
  simp [rdA3,z1,z2,z3,z4]
  refine surf_Points hc (by omega) hlim fun H1 v x1 hv hvn => ?_
  replace x1:HX H H1:=x1
  have l1:=x1.len
  simp [rdA3,z1,z2,z3,z4]
  refine surf_Loops (hc.mono x1) (by omega) (by omega) fun H2 w x2 hw hwn => ?_
  replace x2:HX H1 H2:=x2
  have l2:=x2.len
  by_cases he:capE c=0
  case neg =>
    have ev:=hvn he
    have ew:=hwn he
    subst ev;subst ew
    have w0:IntKind.wrap .i64 0=0:=by decide
    simp [he,w0]
    refine cp_known (by omega) fun H3 _ => ?_
    simp
    exact hK _
  have hok:=capE_ok.1 he
  have b2:=hok.ns
  have b3:=ls_bd hok
  obtain ⟨pts,o1,o2,o3⟩:=(hv he).ex
  obtain ⟨us,q1,q2,q3⟩:=(hw he).ex
  have hp2:=hp.mono (x1.trans x2)
  have o1:=o1.mono x2
  have hvl:vlenS v=some (.int .i64 (ptsP c).length):=by rw [←o2];exact o1.lst.len
  have hwl:vlenS w=some (.int .i64 (loopP c).length):=by rw [q1.lst.len,q2,List.length_map]
  rw [List.length_map] at q2
  have hpl:=pts_le (c:=c)
  have hll:=loop_le (c:=c)
  simp [he]
  refine wLoop_up c.P.length (fun i fr L H'=>(fr 1=.lp 0 0∧fr 3=v∧fr 5=w∧fr 6=.int .i64 0∧fr 7=.int .i64 (offN c.P i)∧fr 8=.int .i64 i)∧L=[[pv,sv,.int .i64 c.e]]∧H'=H2) ⟨by simp [he,offN],rfl,rfl⟩ ?_
  rintro i hi fr L H3 ⟨⟨f1,f3,f5,f6,f7,f8⟩,rfl,rfl⟩
  simp [f1,f3,f5,f6,f7,f8,rd0,hp2.vlen]
  refine cond_dec (fun ht => ?_) fun hfl => ?_
  · have ht:i<c.P.length:=by omega
    obtain ⟨t1,t2⟩:=hp2.at' i ht
    have hm:=off_mono (pcs:=c.P) (p:=i+1) (q:=c.P.length) (by omega)
    rw [off_step] at hm
    have hm2:offN c.P c.P.length=nsN c.P:=rfl
    have ek:((c.P.getD i default).s.length:Int)=(ksN c.P i:Int):=rfl
    have hn1:=hok.np
    simp (disch:=omega) [f1,f3,f5,f6,f7,f8,rd0,hp2.at ht,hp2.fa ht,hp2.ld0 ht,t1.len,ek,wrap_i64,offN]
    exact ht
  have:i=c.P.length:=by omega
  subst this
  have hNe:offN c.P c.P.length=nsN c.P:=rfl
  rw [hNe] at f7
  generalize hN:nsN c.P=N at *
  have hmi:∀L,vmks 1 8 [V.int .i64 0] L H3 (.int .i64 (N:Int)) (.int .i64 (N:Int))=some (.val (.sl H3.length 0 N 1) L (H3++[.row (ints (zs N)) true])):=fun L=>vmks_int ⟨by omega,by omega⟩
  have hmb:∀L X,vmks 1 1 [V.bool false] L (H3++[X]) (.int .i64 (N:Int)) (.int .i64 (N:Int))=some (.val (.sl (H3++[X]).length 0 N 1) L (H3++[X]++[.row (boolL (List.replicate N false)) true])):=fun L X=>mk_bools (by omega)
  simp [f1,f3,f5,f6,f7,f8,hmi,hmb]
  have hxA:∀a b,HX H3 (H3++[a,b]):=fun a b=>⟨_,rfl⟩
  have g0:∀(a b:Blk),(H3++[a,b])[H3.length]? = some a:=fun a b=>by simp
  have g1:∀(a b:Blk),(H3++[a,b])[H3.length+1]? = some b:=fun a b=>by simp
  have gs0:∀(a b d:Blk),(H3++[a,b]).set H3.length d=H3++[d,b]:=fun a b d=>by simp
  have gs1:∀(a b d:Blk),(H3++[a,b]).set (H3.length+1) d=H3++[a,d]:=fun a b d=>by simp
  have hlp:=loop_perm hok
  have hlnd:(loopP c).flatten.Nodup:=hlp.nodup_iff.2 frees_nodup
  rw [hN] at hlp
  have hlt:∀x,x∈(loopP c).flatten→x<N:=fun x hx=>(mem_frees.1 (hlp.mem_iff.1 hx)).1
  refine wLoop_up (loopP c).length (fun i fr L H'=>∃el,(fr 1=.lp 0 0∧fr 3=v∧fr 5=w∧fr 6=.int .i64 0∧fr 7=.int .i64 N∧fr 9=.sl H3.length 0 N 1∧fr 10=.sl (H3.length+1) 0 N 1∧fr 11=.int .i64 i)∧L=[[pv,sv,.int .i64 c.e]]∧H'=H3++[.row (ints (zs N)) true,.row (boolL el) true]∧el.length=N∧∀b,b<N→(el.getD b false=true↔b∈upTo (loopP c) i 0)) ⟨List.replicate N false,by simp [f1,f3,f5,f6,f7],rfl,rfl,by simp,fun b hb=>by simp [upTo_zero,List.getD_eq_getElem?_getD,List.getElem?_replicate,hb]⟩ ?_
  clear f1 f3 f5 f6 f7 f8 hi hfl fr
  rintro i hi fr L H4 ⟨el,⟨f1,f3,f5,f6,f7,f9,f10,f11⟩,rfl,rfl,hel,hin⟩
  simp [f1,f3,f5,f6,f7,f9,f10,f11,hwl]
  refine cond_dec (fun ht => ?_) fun hfl => ?_
  · have ht:i<(loopP c).length:=by omega
    have ad:=q1.lst.at (i:=i) (by omega)
    have ld:∀a b L,vload none L (H3++[a,b]) (ept 1 w i)=some (us.getD i dv):=fun a b L=>by
      rw [(q1.lst.mono (hxA a b)).load1 (by omega)]
      show some (us.getD i default)=_
      rw [getD_any (by omega)]
    have ow:=q3 i (by rw [List.length_map];exact ht)
    have eg:((loopP c).map natL).getD i []=natL ((loopP c).getD i []):=by simp [List.getD_eq_getElem?_getD,ht]
    rw [eg] at ow
    have huq:∀x,x∈(loopP c).getD i []→x∈(loopP c).flatten:=fun x hx=>List.mem_flatten.2 ⟨_,by
      rw [List.getD_eq_getElem?_getD,List.getElem?_eq_getElem ht];exact List.getElem_mem ht,hx⟩
    have hlo48:((loopP c).getD i []).length≤N:=by
      have hnd:((loopP c).getD i []).Nodup:=by
        rw [List.Nodup,List.pairwise_flatten] at hlnd
        refine hlnd.1 _ ?_
        rw [List.getD_eq_getElem?_getD,List.getElem?_eq_getElem ht];exact List.getElem_mem ht
      exact few_below _ _ hnd fun x hx=>hlt x (huq x hx)
    have hnext:=fun k=>upTo_next (q:=loopP c) (i:=i) (k:=k)
    have hnew:=fun k=>upTo_new hlnd (i:=i) (k:=k) ht
    have hrow:=upTo_row ht
    generalize hlo:(loopP c).getD i []=lo at *
    generalize huv:us.getD i dv=uv at *
    have hol:vlenS uv=some (.int .i64 lo.length):=by rw [ow.sl.len,natL_len]
    simp [f1,f3,f5,f6,f7,f9,f10,f11,ad,ld,hol]
    refine wLoop_up lo.length (fun k fr L H'=>∃el,(fr 1=.lp 0 0∧fr 3=v∧fr 5=w∧fr 6=.int .i64 0∧fr 7=.int .i64 N∧fr 9=.sl H3.length 0 N 1∧fr 10=.sl (H3.length+1) 0 N 1∧fr 11=.int .i64 i∧fr 12=.int .i64 k)∧L=[[pv,sv,.int .i64 c.e]]∧H'=H3++[.row (ints (zs N)) true,.row (boolL el) true]∧el.length=N∧∀b,b<N→(el.getD b false=true↔b∈upTo (loopP c) i k)) ⟨el,by simp [f1,f3,f5,f6,f7,f9,f10,f11],rfl,rfl,hel,hin⟩ ?_
    clear f1 f3 f5 f6 f7 f9 f10 f11 hel hin fr
    rintro k hk fr L H4 ⟨el,⟨f1,f3,f5,f6,f7,f9,f10,f11,f12⟩,rfl,rfl,hel,hin⟩
    simp [f1,f3,f5,f6,f7,f9,f10,f11,f12,ad,ld,hol]
    refine cond_dec (fun hkt => ?_) fun hkf => ?_
    · have hkt:k<lo.length:=by omega
      have hx:=hlt _ (huq _ (getD_mem (l:=lo) hkt))
      have ed:lo.getD k default=lo.getD k 0:=rfl
      rw [ed] at hx
      have hnw:=hnew k hkt
      have hnx:=hnext k hkt
      have a1:=ow.sl.addr (i:=(k:Int)) (by rw [natL_len];omega)
      simp only [Int.toNat_natCast] at a1
      have c1:∀a b L,vload none L (H3++[a,b]) (ept 1 uv k)=some (.int .i64 (lo.getD k 0:Nat)):=fun a b L=>by
        rw [(ow.mono (hxA a b)).sl.load (by rw [natL_len];exact hkt)]
        simp [natL,List.getD_eq_getElem?_getD,hkt]
      generalize lo.getD k 0=x at *
      have e1:decide ((x:Int)<0)=false:=by simp
      have e2:decide ((N:Int)≤(x:Int))=false:=by simp;omega
      have e4:decide (N≤x)=false:=by simp;omega
      have hel1:=g1 (.row (ints (zs N)) true) (.row (boolL el) true)
      have hr:=rw_addr (b:=H3.length+1) hx
      have hld:=bl_ld hel1 (by rw [hel];exact hx)
      have hst:=bl_st (lim:=lim) (y:=true) hel1 (by omega) (by rw [hel];exact hx)
      have hfx:el.getD x false=false:=by
        cases h:el.getD x false with
        | false=>rfl
        | true=>exact absurd ((hin x hx).1 h) hnw
      rw [hfx] at hld
      rw [gs1] at hst
      simp (disch:=omega) [f1,f3,f5,f6,f7,f9,f10,f11,f12,ad,ld,hol,a1,c1,e1,e2,e4,hr,hld,hst,-viaddrS_in,-vstore,-vload_ptrO,wrap_i64]
      refine ⟨hkt,_,rfl,by simpa using hel,fun b hb => ?_⟩
      rw [getD_setB (by omega),hnx,List.mem_append,List.mem_singleton]
      by_cases e:b=x
      · simp [e]
      · rw [if_neg e,hin b hb];simp [e]
    · have:k=lo.length:=by omega
      subst this
      rw [hrow] at hin
      simp (disch:=omega) [f1,f3,f5,f6,f7,f9,f10,f11,f12,wrap_i64]
      exact ⟨ht,_,rfl,hel,hin⟩
  have:i=(loopP c).length:=by omega
  subst this
  rw [upTo_all] at hin
  have hfr:∀b,b<N→el.getD b false=freeN (lsN c) b:=fun b hb=>by
    rw [Bool.eq_iff_iff,hin b hb,hlp.mem_iff,mem_frees]
    exact ⟨fun h=>h.2,fun h=>⟨hb,h⟩⟩
  clear hin
  have hpp:=ptQ_perm hok
  rw [hN] at hpp
  have hplt:∀x,x∈(ptQ c).flatten→x<N:=fun x hx=>List.mem_range.1 (hpp.mem_iff.1 hx)
  have hQl:(ptQ c).length=(ptsP c).length:=by simp [ptQ]
  have hQg:∀i,i<(ptsP c).length→(ptQ c).getD i []=((ptsP c).getD i default).cs:=fun i hi=>by simp [ptQ,List.getD_eq_getElem?_getD,hi]
  simp [f1,f3,f5,f6,f7,f9,f10]
  refine wLoop_up (ptsP c).length (fun i fr L H'=>∃il,(fr 1=.lp 0 0∧fr 3=v∧fr 6=.int .i64 0∧fr 7=.int .i64 N∧fr 9=.sl H3.length 0 N 1∧fr 10=.sl (H3.length+1) 0 N 1∧fr 13=.int .i64 i)∧L=[[pv,sv,.int .i64 c.e]]∧H'=H3++[.row (ints il) true,.row (boolL el) true]∧il.length=N∧∀b,b<N→il.getD b 0=(List.count b (upTo (ptQ c) i 0):Int)) ⟨zs N,by simp [f1,f3,f6,f7,f9,f10],rfl,rfl,zs_length _,fun b hb=>by simp [upTo_zero,zs_getD]⟩ ?_
  clear f1 f3 f5 f6 f7 f9 f10 f11 hi hfl fr
  rintro i hi fr L H4 ⟨il,⟨f1,f3,f6,f7,f9,f10,f13⟩,rfl,rfl,hil,hct⟩
  simp [f1,f3,f6,f7,f9,f10,f13,hvl]
  refine cond_dec (fun ht => ?_) fun hfl => ?_
  · have ht:i<(ptsP c).length:=by omega
    have hti:i<pts.length:=by omega
    have ad:=o1.lst.at (i:=i) hti
    have fa0:vfaddr 0 (ept 4 v i)=some (eptf 4 v i 0):=o1.lst.faddr hti
    have fa1:vfaddr 1 (ept 4 v i)=some (eptf 4 v i 1):=o1.lst.faddr hti
    obtain ⟨t1,t2,t3,t4⟩:=o3 i ht
    have ld0:∀a b L,vload none L (H3++[a,b]) (eptf 4 v i 0)=some (pts.getD i default).v:=fun a b L=>by
      rw [(o1.lst.mono (hxA a b)).rd1 hti (by omega)];rfl
    have ld1:∀a b L,vload none L (H3++[a,b]) (eptf 4 v i 1)=some (.bool ((ptsP c).getD i default).inn):=fun a b L=>by
      rw [(o1.lst.mono (hxA a b)).rd1 hti (by omega),←t1];rfl
    have hout:=outN_all hok ht
    have huq:∀x,x∈((ptsP c).getD i default).cs→x∈(ptQ c).flatten:=fun x hx=>List.mem_flatten.2 ⟨_,by
      rw [←hQg i ht,List.getD_eq_getElem?_getD,List.getElem?_eq_getElem (by omega)];exact List.getElem_mem _,hx⟩
    have hnext:=fun k=>upTo_next (q:=ptQ c) (i:=i) (k:=k)
    have hrow:=upTo_row (q:=ptQ c) (i:=i) (by omega)
    rw [hQg i ht] at hnext hrow
    have hlo48:((ptsP c).getD i default).cs.length≤N:=by
      have hnd:((ptsP c).getD i default).cs.Nodup:=by
        have:(ptQ c).flatten.Nodup:=hpp.nodup_iff.2 List.nodup_range
        rw [List.Nodup,List.pairwise_flatten] at this
        refine this.1 _ ?_
        rw [←hQg i ht,List.getD_eq_getElem?_getD,List.getElem?_eq_getElem (by omega)];exact List.getElem_mem _
      exact few_below _ _ hnd fun x hx=>hplt x (huq x hx)
    have ow:=t4.mono x2
    generalize ((ptsP c).getD i default).inn=inn at *
    generalize hlo:((ptsP c).getD i default).cs=lo at *
    generalize huv:(pts.getD i default).v=uv at *
    have hol:vlenS uv=some (.int .i64 lo.length):=by rw [ow.sl.len,natL_len]
    simp [f1,f3,f6,f7,f9,f10,f13]
    refine wLoop_up lo.length (fun k fr L H'=>∃il,(fr 1=.lp 0 0∧fr 3=v∧fr 6=.int .i64 0∧fr 7=.int .i64 N∧fr 9=.sl H3.length 0 N 1∧fr 10=.sl (H3.length+1) 0 N 1∧fr 13=.int .i64 i∧fr 14=.int .i64 (outN c lo k:Nat)∧fr 15=.int .i64 k)∧L=[[pv,sv,.int .i64 c.e]]∧H'=H3++[.row (ints il) true,.row (boolL el) true]∧il.length=N∧outN c lo k≤k∧∀b,b<N→il.getD b 0=(List.count b (upTo (ptQ c) i k):Int)) ⟨il,by simp [f1,f3,f6,f7,f9,f10,f13,outN],rfl,rfl,hil,by simp [outN],hct⟩ ?_
    clear f1 f3 f6 f7 f9 f10 f13 hil hct fr
    rintro k hk fr L H4 ⟨il,⟨f1,f3,f6,f7,f9,f10,f13,f14,f15⟩,rfl,rfl,hil,hok2,hct⟩
    simp [f1,f3,f6,f7,f9,f10,f13,f14,f15,ad,fa0,ld0,hol]
    refine cond_dec (fun hkt => ?_) fun hkf => ?_
    · have hkt:k<lo.length:=by omega
      have hx:=hplt _ (huq _ (getD_mem (l:=lo) hkt))
      have ed:lo.getD k default=lo.getD k 0:=rfl
      rw [ed] at hx
      have hnx:=hnext k hkt
      have hon:=outN_next (c:=c) hkt
      have a1:=ow.sl.addr (i:=(k:Int)) (by rw [natL_len];omega)
      simp only [Int.toNat_natCast] at a1
      have c1:∀a b L,vload none L (H3++[a,b]) (ept 1 uv k)=some (.int .i64 (lo.getD k 0:Nat)):=fun a b L=>by
        rw [(ow.mono (hxA a b)).sl.load (by rw [natL_len];exact hkt)]
        simp [natL,List.getD_eq_getElem?_getD,hkt]
      generalize lo.getD k 0=x at *
      have e1:decide ((x:Int)<0)=false:=by simp
      have e2:decide ((N:Int)≤(x:Int))=false:=by simp;omega
      have e4:decide (N≤x)=false:=by simp;omega
      have hil0:=g0 (.row (ints il) true) (.row (boolL el) true)
      have hr0:=rw_addr (b:=H3.length) hx
      have hr1:=rw_addr (b:=H3.length+1) hx
      have hld0:=il_ld hil0 (by rw [hil];exact hx)
      have hst:=il_st (lim:=lim) (y:=(List.count x (upTo (ptQ c) i k):Int)+1) hil0 (by omega) (by rw [hil];exact hx)
      rw [gs0] at hst
      rw [hct x hx] at hld0
      have hld1:=bl_ld (g1 (.row (ints (il.set x ((List.count x (upTo (ptQ c) i k):Int)+1))) true) (.row (boolL el) true)) (by rw [hel];exact hx)
      rw [hfr x hx] at hld1
      have hcb:(List.count x (upTo (ptQ c) i k):Int)≤1:=by
        have h1:=count_one hok (k:=x) (by rw [hN];exact hx)
        obtain ⟨r,hr⟩:=upTo_sub (q:=ptQ c) (i:=i) (k:=k) (by omega) (by rw [hQg i ht,hlo];exact hkt)
        rw [hr,List.count_append] at h1
        omega
      have hw:IntKind.wrap .i64 ((List.count x (upTo (ptQ c) i k):Int)+1)=(List.count x (upTo (ptQ c) i k):Int)+1:=wrap_i64 (by omega) (by omega)
      have hcn:∀b,b<N→(il.set x ((List.count x (upTo (ptQ c) i k):Int)+1)).getD b 0=(List.count b (upTo (ptQ c) i (k+1)):Int):=fun b hb=>by
        rw [getD_set (by omega),hnx,List.count_append]
        by_cases e:b=x
        · subst e;simp
        · rw [if_neg e,hct b hb]
          have:List.count b [x]=0:=by rw [List.count_eq_zero];simpa using e
          omega
      simp (disch:=omega) [f1,f3,f6,f7,f9,f10,f13,f14,f15,ad,fa0,ld0,hol,a1,c1,e1,e2,e4,hr0,hr1,hld0,hst,hld1,hw,-viaddrS_in,-vstore,-vload_ptrO]
      cases hfb:freeN (lsN c) x with
      | true =>
        rw [hfb] at hon
        simp only [if_true] at hon
        simp (disch:=omega) [f1,f3,f6,f7,f9,f10,f13,f14,f15,wrap_i64]
        exact ⟨hkt,by rw [hon];simp,_,rfl,by simpa using hil,by omega,hcn⟩
      | false =>
        rw [hfb] at hon
        simp only [Bool.false_eq_true,if_false] at hon
        simp (disch:=omega) [f1,f3,f6,f7,f9,f10,f13,f14,f15,wrap_i64]
        exact ⟨hkt,by rw [hon];simp,_,rfl,by simpa using hil,by omega,hcn⟩
    · have:k=lo.length:=by omega
      subst this
      rw [hrow] at hct
      rw [hout] at f14
      have hcase:inn=true∨inn=false:=by cases inn<;>simp
      rcases hcase with rfl | rfl
      · simp at f14
        simp (disch:=omega) [f1,f3,f6,f7,f9,f10,f13,f14,f15,ad,fa1,ld1,wrap_i64]
        exact ⟨ht,_,rfl,hil,hct⟩
      · simp at f14
        simp (disch:=omega) [f1,f3,f6,f7,f9,f10,f13,f14,f15,ad,fa1,ld1,wrap_i64]
        exact ⟨ht,_,rfl,hil,hct⟩
  have:i=(ptsP c).length:=by omega
  subst this
  rw [←hQl,upTo_all] at hct
  have hone:∀b,b<N→il.getD b 0=1:=fun b hb=>by
    rw [hct b hb,count_one hok (by rw [hN];exact hb)];rfl
  simp [f1,f3,f6,f7,f9,f10]
  refine wLoop_up N (fun i fr L H'=>(fr 1=.lp 0 0∧fr 6=.int .i64 0∧fr 7=.int .i64 N∧fr 9=.sl H3.length 0 N 1∧fr 10=.sl (H3.length+1) 0 N 1∧fr 16=.int .i64 (((List.range i).filter (freeN (lsN c))).length:Nat)∧fr 17=.int .i64 i)∧L=[[pv,sv,.int .i64 c.e]]∧H'=H3++[.row (ints il) true,.row (boolL el) true]) ⟨by simp [f1,f6,f7,f9,f10],rfl,rfl⟩ ?_
  clear f1 f3 f6 f7 f9 f10 f13 hi hfl fr
  rintro i hi fr L H4 ⟨⟨f1,f6,f7,f9,f10,f16,f17⟩,rfl,rfl⟩
  simp [f1,f6,f7,f9,f10,f16,f17]
  have hil0:=g0 (.row (ints il) true) (.row (boolL el) true)
  have hel1:=g1 (.row (ints il) true) (.row (boolL el) true)
  refine cond_dec (fun ht => ?_) fun hfl => ?_
  · have ht:i<N:=by omega
    have hr0:=rw_addr (b:=H3.length) ht
    have hr1:=rw_addr (b:=H3.length+1) ht
    have hld0:=il_ld hil0 (by rw [hil];exact ht)
    have hld1:=bl_ld hel1 (by rw [hel];exact ht)
    rw [hone i ht] at hld0
    rw [hfr i ht] at hld1
    have hle:((List.range i).filter (freeN (lsN c))).length≤i:=Nat.le_trans (List.length_filter_le _ _) (by simp)
    have hsn:((List.range (i+1)).filter (freeN (lsN c))).length=((List.range i).filter (freeN (lsN c))).length+if freeN (lsN c) i then 1 else 0:=by
      rw [List.range_succ,List.filter_append,List.length_append]
      cases h:freeN (lsN c) i<;>simp [h]
    generalize ((List.range i).filter (freeN (lsN c))).length=m at *
    simp (disch:=omega) [f1,f6,f7,f9,f10,f16,f17,hr0,hr1,hld0,hld1,-viaddrS_in,-vload_ptrO]
    cases hfb:freeN (lsN c) i with
    | true =>
      rw [hfb] at hsn
      simp (disch:=omega) [f1,f6,f7,f9,f10,f16,f17,wrap_i64]
      exact ⟨ht,by rw [hsn];simp⟩
    | false =>
      rw [hfb] at hsn
      simp (disch:=omega) [f1,f6,f7,f9,f10,f16,f17,wrap_i64]
      exact ⟨ht,by rw [hsn];simp⟩
  · have:i=N:=by omega
    subst this
    have hfl2:=frees_len hok.sm_ok
    rw [ls_len,hN] at hfl2
    have e3:(((List.range i).filter (freeN (lsN c))).length:Int)=(i:Int)-2*(c.S.length:Int):=by
      have:freesN (lsN c) i=(List.range i).filter (freeN (lsN c)):=rfl
      rw [←this];omega
    rw [e3] at f16
    simp (disch:=omega) [f1,f6,f7,f9,f10,f16,f17,rd1',hs.len,wrap_i64]
    refine cp_known (by simp;omega) fun H5 _ => ?_
    simp
    exact hK _
end
end Go.Proofs.Ytclghkegfpcdpaa.Vm
