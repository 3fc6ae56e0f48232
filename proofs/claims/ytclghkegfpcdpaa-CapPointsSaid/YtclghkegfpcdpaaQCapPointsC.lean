/- Points over the machine: a point is collected. -/
import Derived.Test.YtclghkegfpcdpaaQCapPointsB
import Derived.Test.YtclghkegfpcdpaaQCapPointsA
namespace Go.Proofs.Ytclghkegfpcdpaa.Vm
open Go
set_option maxRecDepth 100000
set_option maxHeartbeats 1000000
set_option linter.unusedSimpArgs false
set_option linter.unusedVariables false
attribute [-simp] List.getD_eq_getElem?_getD
noncomputable def csP (c:Cp)(s:Nat):List Int:=natL (memE (PtR c) (nsN c.P) s)
noncomputable def sumP (c:Cp)(s:Nat):Int:=((memE (PtR c) (nsN c.P) s).map (anN c.P)).sum
noncomputable def pntP (c:Cp)(s:Nat)(inner:Bool)(v:V):Pnt:=⟨v,inner,sumP c s,(if inner then 360 else 180)-sumP c s,(csP c s).getD 0 0⟩
section
variable {n0 lim:Nat}{H H0 Hc H':Hp}{K:V→Hp→Prop}{lv u v:V}{M:List (Int×Bool)}{pts:List Pnt}{cl:List (List Int)}{c:Cp}{s:Nat}
theorem cfI_ordr:Ordr cfI:=⟨fun x y z h1 h2=>by simp only [leC,cfI] at *;omega,fun x y=>by simp only [leC,cfI];omega⟩
theorem st_all {cs xs:List V}(hl:lim≤H.length)(h:xs.length=cs.length):vstoreH lim (H++[Blk.row cs true]) H.length 0 xs=some (H++[Blk.row xs true]):=by
  have e:splice cs 0 xs=xs:=by simp [splice,h]
  simp [vstoreH,hl,h,e]
theorem getD_last {α:Type}{l:List α}{x d:α}{i:Nat}(h:i=l.length):(l++[x]).getD i d=x:=by
  subst h;simp [List.getD_eq_getElem?_getD]
theorem OwnV.row_of {m:Nat}{f:List Int}(h:OwnV m H v f)(hne:0<f.length):∃b,v=.sl b 0 f.length 1∧m≤b∧H[b]? = some (.row (ints f) true):=by
  cases h with
  | nil=>simp at hne
  | row h1 h2=>exact ⟨_,rfl,h1,h2⟩
theorem surf_collect {inner:Bool} (hok:CapOk c) (hs:s<nsN c.P) (hcl:StaN (nsN c.P) (nxN c.P) (lsN c) s∨InnN (nsN c.P) (nxN c.P) (lsN c) s) (hlim:lim≤n0) (hS:PtsS n0 H0 lv M u pts cl Hc) (hlv:LstV sdC H0 lv (layL c.P (lsN c))) (hpl:pts.length≤1000)
    (hK:∀H' M' u' v',PtsS n0 H0 lv M' u' (pts++[pntP c s inner v']) (cl++[csP c s]) H'→(∀k,(look k M').getD false=true↔(look k M).getD false=true∨k∈csP c s)→K (.tup []) H') :
    VCall tbl lim 85 [.int .i64 s,.bool inner,.ptr n0 0,.ptr (n0+2) 0,.ptr (n0+3) 0] Hc K:=by
  have hbig:=hS.big
  have hns:=hok.ns
  refine VCall_fn tbl_at85 rfl ?_
  have ld0:∀L X,vload none L (Hc++X) (.ptr n0 0)=some lv:=fun L X=>by
    rw [vload_ptr (cs:=[lv]) (own:=true) (by rw [List.getElem?_append_left (by omega)];exact hS.b0)];rfl
  have s4:=st_all (H:=Hc) (lim:=lim) (cs:=[V.snil,.bool false,.int .i64 0,.int .i64 0]) (xs:=[V.snil,.bool inner,.int .i64 0,.int .i64 0]) (by omega) rfl
  simp [vf85,splice,ld0,s4,hlv.stor,-vload_ptrO]
  refine surf_around hlv.stor hlv.one ?_
  simp
  generalize hg:hideF _ 48=frv
  have f2:∀v,frR (setPs frv [14] [v]) 2=.ptr n0 0:=by intro v;rw [←hg,frR_set (by omega)];simp
  have f3:∀v,frR (setPs frv [14] [v]) 3=.ptr (n0+2) 0:=by intro v;rw [←hg,frR_set (by omega)];simp
  have f7:∀v,frR (setPs frv [14] [v]) 7=.ptr Hc.length 0:=by intro v;rw [←hg,frR_set (by omega)];simp
  have f14:∀v,frR (setPs frv [14] [v]) 14=v:=by intro v;rw [←hg,frR_set (by omega)];simp
  have flen:48=frv.length:=by rw [←hg];simp [hideF]
  clear hg
  obtain ⟨w1,w2,w3⟩:=walk_conds hok hs
  obtain ⟨n1,_,_⟩:=rn_spec (L:=lsN c) hok.nu hs
  generalize hrn:rnN (nsN c.P) (nxN c.P) (lsN c) s=n at *
  have hsl:s<(layL c.P (lsN c)).length:=by rw [layL_len];exact hs
  refine around_walk (n:=n) (c:=s) (lv:=lv) (l:=layL c.P (lsN c)) (I:=fun i H'=>RndI Hc n0 Hc.length lv M inner frv c s i H') (lay_ok hok.sm_ok (by omega)) hsl w2 w3 ?_ ?_ ?_ ?_
  · intro i H' hI
    refine ⟨hI.r2,hI.r1,hlv.mono (HX.of (by have:=hS.hx.len;have:=hI.oth.1;omega) fun b hb => ?_)⟩
    have:=hS.hx.len
    have:=hS.hn
    rw [hI.oth.2 b (by omega) (by omega),hS.hx.same hb]
  · refine ⟨⟨by simp,fun b hb _=>by rw [List.getElem?_append_left hb]⟩,⟨.snil,M,?_,by simp [wkS],.nil,fun k=>by simp [wkL]⟩,by simp,by simp,by simp⟩
    rw [List.getElem?_append_left (by omega)];exact hS.b1
  · intro i H' hi hI
    rw [w1 i hi]
    exact collect_round hok hs (by rw [hrn];exact hi) hlim hS hlv f2 f3 f7 f14 flen hI
  · intro H' hI
    refine ⟨⟨_,_,_,hI.r3⟩,?_⟩
    obtain ⟨⟨o1,o2⟩,⟨cv,M',m1,m2,m3,m4⟩,r1,r2,r3⟩:=hI
    have hl3:=(List.getElem?_eq_some_iff.1 r3).1
    have e1:(H'.set (Hc.length+3) .dead)[n0+1]? = some (.map (mE kI .bool M')):=by rw [List.getElem?_set_ne (by omega)];exact m1
    have ep:(H'.set (Hc.length+3) .dead)[Hc.length]? = some (.row [cv,.bool inner,.int .i64 (wkS c s (n+1)),.int .i64 0] true):=by rw [List.getElem?_set_ne (by omega)];exact m2
    have ev:OwnV (Hc.length+4) (H'.set (Hc.length+3) .dead) cv (wkL c s (n+1)):=m3.keepB fun b o m z e=>by
      have:=m3.belowB _ _ _ _ e
      rw [List.getElem?_set_ne (by omega)]
    have eo:OthM (n0+1) Hc (H'.set (Hc.length+3) .dead):=⟨by simp;exact o1,fun b hb hne=>by rw [List.getElem?_set_ne (by omega)];exact o2 b hb hne⟩
    have elen:(H'.set (Hc.length+3) .dead).length=H'.length:=by simp
    generalize H'.set (Hc.length+3) .dead=Hd at *
    have sumE:wkS c s (n+1)=sumP c s:=by rw [←hrn];exact wkS_ring hok hs hcl
    rw [sumE] at ep m2
    have hls:0≤sumP c s∧sumP c s≤359*49:=by
      have:=wkS_bd hok hs (n+1)
      rw [sumE] at this;omega
    generalize hsum:sumP c s=sm at *
    have hwl:(wkL c s (n+1)).length=n+1:=wkL_len
    obtain ⟨bc,rfl,b1,b2⟩:=ev.row_of (by omega)
    have hbl:=(List.getElem?_eq_some_iff.1 b2).1
    simp [m2,rd0]
    refine so_sort (b:=bc) (l:=wkL c s (n+1)) b2 (by omega) cfI_ordr (by rw [hwl];omega) fun H2 l2 hs2 hso => ?_
    have hsorted:l2=csP c s:=by
      have hl2:l2.length=(wkL c s (n+1)).length:=hs2.n
      have:=sort_ring hok hs hcl (l:=l2) (by rw [hrn];exact hs2.perm) (sorted_le (by rw [hl2];exact hso))
      exact this
    have hp2:=(hs2.oth Hc.length (by omega) (by omega)).trans ep
    have hlen2:=hs2.len
    have l2len:l2.length=n+1:=by have:=hs2.n;omega
    have hrow:H2[bc]? = some (.row (ints (csP c s)) true):=by rw [←hsorted];exact hs2.row
    have hcl2:(csP c s).length=(wkL c s (n+1)).length:=by rw [←hsorted];omega
    generalize hdf:(if inner=true then (360:Int) else 180)-sm=df
    have hdfb : -100000≤df∧df≤360:=by rw [←hdf];split<;>omega
    have g3:∀H3:Hp,H3=H2.set Hc.length (.row [.sl bc 0 (wkL c s (n+1)).length 1,.bool inner,.int .i64 sm,.int .i64 df] true) →
        ∃v' Hx,vappend lim 4 48 (H3++[.row [.sl bc 0 (wkL c s (n+1)).length 1,.bool inner,.int .i64 sm,.int .i64 df] true]) u (.sl H3.length 0 1 4)=some (v',Hx)∧stor v'=true∧cellsV v'=[v']∧Hx[n0+3]? = some (.row [u] true)∧H3[n0+3]? = some (.row [u] true)∧K (.tup []) (Hx.set (n0+3) (.row [v'] true)):=by
      rintro H3 rfl
      have hO3:OthM (n0+1) Hc (H2.set Hc.length (.row [.sl bc 0 (wkL c s (n+1)).length 1,.bool inner,.int .i64 sm,.int .i64 df] true)):=by
        refine ⟨by have:=eo.1;simp;omega,fun b hb hne => ?_⟩
        rw [List.getElem?_set_ne (by omega),hs2.oth b (by have:=eo.1;omega) (by omega)]
        exact eo.2 b hb hne
      have hm3:(H2.set Hc.length (.row [.sl bc 0 (wkL c s (n+1)).length 1,.bool inner,.int .i64 sm,.int .i64 df] true))[n0+1]? = some (.map (mE kI .bool M')):=by
        rw [List.getElem?_set_ne (by omega),hs2.oth _ (by omega) (by omega)];exact e1
      have hS3:=hS.move hO3 hm3
      have hrow3:(H2.set Hc.length (.row [.sl bc 0 (wkL c s (n+1)).length 1,.bool inner,.int .i64 sm,.int .i64 df] true))[bc]? = some (.row (ints (csP c s)) true):=by
        rw [List.getElem?_set_ne (by omega)];exact hrow
      have hl3':Hd.length≤(H2.set Hc.length (.row [.sl bc 0 (wkL c s (n+1)).length 1,.bool inner,.int .i64 sm,.int .i64 df] true)).length:=by simpa using hlen2
      generalize H2.set Hc.length (.row [.sl bc 0 (wkL c s (n+1)).length 1,.bool inner,.int .i64 sm,.int .i64 df] true)=H3 at *
      have hbig3:=hS3.big
      obtain ⟨v',Hx,c1,c2,c3,c4,c5,c6⟩:=hS3.ou.appendF2 (lim:=lim) (bytes:=48) (x:=pntP c s inner (.sl bc 0 (wkL c s (n+1)).length 1)) (cs:=[.sl bc 0 (wkL c s (n+1)).length 1,.bool inner,.int .i64 sm,.int .i64 df]) (by
        rw [←hdf,←hsum];rfl) ⟨by omega,by omega⟩ (by omega) (by omega)
      have ub:∀b,b<n0+4→∀o z y,u≠.sl b o z y:=fun b hb o z y e=>by have:=hS3.ou.belowB _ _ _ _ e;omega
      have hbu:∀o z y,u≠.sl bc o z y:=fun o z y e=>by
        have:=hS.ou.belowB _ _ _ _ e;omega
      refine ⟨v',Hx,c1,c2.lst.stor,c2.lst.one,(c5 _ (by omega) (ub _ (by omega))).trans hS3.b3,hS3.b3,?_⟩
      have d0:=(c5 n0 (by omega) (ub _ (by omega))).trans hS3.b0
      have d1:=(c5 (n0+1) (by omega) (ub _ (by omega))).trans hS3.b1
      have d2:=(c5 (n0+2) (by omega) (ub _ (by omega))).trans hS3.b2
      have dr:=(c5 bc (by omega) hbu).trans hrow3
      have hH0:=hS3.hn
      refine hK _ M' v' (.sl bc 0 (wkL c s (n+1)).length 1) ⟨?_,hS3.hn,?_,?_,?_,?_,?_,?_,?_,?_⟩ ?_
      · have:=c3 H0 hS3.hx (by omega)
        refine HX.of (by have:=this.len;simpa using this) fun b hb => ?_
        rw [List.getElem?_set_ne (by omega),this.same hb]
      · rw [List.getElem?_set_ne (by omega)];exact d0
      · rw [List.getElem?_set_ne (by omega)];exact d1
      · rw [List.getElem?_set_ne (by omega)];exact d2
      · rw [List.getElem?_set_self (by omega)]
      · refine c2.keepB fun b o m z e => ?_
        have:=c2.belowB _ _ _ _ e
        rw [List.getElem?_set_ne (by omega)]
      · simp [hS.len]
      · intro i hi
        rw [List.length_append,List.length_singleton] at hi
        by_cases hlt:i<pts.length
        · rw [getD_lt hlt,getD_lt (by rw [hS.len];exact hlt)]
          refine (hS3.oc i hlt).keepB fun b o m z e => ?_
          have hb:=(hS3.oc i hlt).belowB _ _ _ _ e
          rw [List.getElem?_set_ne (by omega)]
          exact c5 b hb.2 fun o' z' y' e'=>hS3.ap i hlt _ _ _ _ _ _ _ e' e
        · have:i=pts.length:=by omega
          subst this
          rw [getD_last rfl,getD_last hS.len.symm]
          show OwnV (n0+4) _ (V.sl bc 0 (wkL c s (n+1)).length 1) (csP c s)
          rw [←hcl2]
          exact .row (by omega) (by rw [List.getElem?_set_ne (by omega)];exact dr)
      · intro i hi b o z y o' z' y' e e'
        rw [List.length_append,List.length_singleton] at hi
        have hb6:=c6 _ _ _ _ e
        by_cases hlt:i<pts.length
        · rw [getD_lt hlt] at e'
          have:=(hS3.oc i hlt).belowB _ _ _ _ e'
          omega
        · have:i=pts.length:=by omega
          subst this
          rw [getD_last rfl] at e'
          simp only [pntP] at e'
          cases e'
          omega
      · intro k
        rw [m4 k]
        have:k∈wkL c s (n+1)↔k∈csP c s:=by rw [←hsorted];exact hs2.perm.mem_iff.symm
        rw [this]
    obtain ⟨v',Hx,y1,y2,y3,y4,y5,y6⟩:=g3 _ rfl
    have w1:IntKind.wrap .i64 (180-sm)=180-sm:=wrap_i64 (by omega) (by omega)
    have w2:IntKind.wrap .i64 (360-sm)=360-sm:=wrap_i64 (by omega) (by omega)
    have hlt2:=(List.getElem?_eq_some_iff.1 hp2).1
    have st1:=fun L=>st_cell (L:=L) (x:=.int .i64 (180-sm)) hp2 (lim:=lim) (o:=3) (by omega) rfl rfl (by simp)
    have sp1:splice [.sl bc 0 (wkL c s (n+1)).length 1,.bool inner,.int .i64 sm,.int .i64 0] 3 [.int .i64 (180-sm)]=[.sl bc 0 (wkL c s (n+1)).length 1,.bool inner,.int .i64 sm,.int .i64 (180-sm)]:=by simp [splice]
    rw [sp1] at st1
    have stx:=fun L=>st_cell (L:=L) (x:=v') y4 (lim:=lim) (o:=0) (by omega) y2 y3 (by simp)
    have spx:splice [u] 0 [v']=[v']:=by simp [splice]
    rw [spx] at stx
    cases inner with
    | false =>
      have edf:df=180-sm:=by rw [←hdf];simp
      rw [edf] at y1 y5
      have hl4:∀L,vload (some 4) L (H2.set Hc.length (.row [.sl bc 0 (wkL c s (n+1)).length 1,.bool false,.int .i64 sm,.int .i64 (180-sm)] true)) (.ptr Hc.length 0)=some (.agg [.sl bc 0 (wkL c s (n+1)).length 1,.bool false,.int .i64 sm,.int .i64 (180-sm)]):=fun L=>by
        rw [vload_ptr (List.getElem?_set_self hlt2)];rfl
      have hl3:∀L,vload none L (H2.set Hc.length (.row [.sl bc 0 (wkL c s (n+1)).length 1,.bool false,.int .i64 sm,.int .i64 (180-sm)] true)) (.ptr (n0+3) 0)=some u:=fun L=>by
        rw [vload_ptr y5];rfl
      have hl2:∀L,vload none L H2 (.ptr Hc.length 2)=some (.int .i64 sm):=fun L=>by rw [vload_ptr hp2];rfl
      generalize H2.set Hc.length (.row [.sl bc 0 (wkL c s (n+1)).length 1,.bool false,.int .i64 sm,.int .i64 (180-sm)] true)=H3 at *
      simp [hl2,w1,st1,hl3,hl4,splice,y1,stx,-vstore,-vload_ptrO]
      exact y6
    | true =>
      have edf:df=360-sm:=by rw [←hdf];simp
      rw [edf] at y1 y5
      have hl2:∀L,vload none L H2 (.ptr Hc.length 2)=some (.int .i64 sm):=fun L=>by rw [vload_ptr hp2];rfl
      have hp3:(H2.set Hc.length (.row [.sl bc 0 (wkL c s (n+1)).length 1,.bool true,.int .i64 sm,.int .i64 (180-sm)] true))[Hc.length]? = some (.row [.sl bc 0 (wkL c s (n+1)).length 1,.bool true,.int .i64 sm,.int .i64 (180-sm)] true):=List.getElem?_set_self hlt2
      have hl2':∀L,vload none L (H2.set Hc.length (.row [.sl bc 0 (wkL c s (n+1)).length 1,.bool true,.int .i64 sm,.int .i64 (180-sm)] true)) (.ptr Hc.length 2)=some (.int .i64 sm):=fun L=>by rw [vload_ptr hp3];rfl
      have st2:=fun L=>st_cell (L:=L) (x:=.int .i64 (360-sm)) hp3 (lim:=lim) (o:=3) (by omega) rfl rfl (by simp)
      have sp2:splice [.sl bc 0 (wkL c s (n+1)).length 1,.bool true,.int .i64 sm,.int .i64 (180-sm)] 3 [.int .i64 (360-sm)]=[.sl bc 0 (wkL c s (n+1)).length 1,.bool true,.int .i64 sm,.int .i64 (360-sm)]:=by simp [splice]
      rw [sp2,List.set_set] at st2
      have hl4:∀L,vload (some 4) L (H2.set Hc.length (.row [.sl bc 0 (wkL c s (n+1)).length 1,.bool true,.int .i64 sm,.int .i64 (360-sm)] true)) (.ptr Hc.length 0)=some (.agg [.sl bc 0 (wkL c s (n+1)).length 1,.bool true,.int .i64 sm,.int .i64 (360-sm)]):=fun L=>by
        rw [vload_ptr (List.getElem?_set_self hlt2)];rfl
      have hl3:∀L,vload none L (H2.set Hc.length (.row [.sl bc 0 (wkL c s (n+1)).length 1,.bool true,.int .i64 sm,.int .i64 (360-sm)] true)) (.ptr (n0+3) 0)=some u:=fun L=>by
        rw [vload_ptr y5];rfl
      generalize H2.set Hc.length (.row [.sl bc 0 (wkL c s (n+1)).length 1,.bool true,.int .i64 sm,.int .i64 (180-sm)] true)=H3 at *
      generalize H2.set Hc.length (.row [.sl bc 0 (wkL c s (n+1)).length 1,.bool true,.int .i64 sm,.int .i64 (360-sm)] true)=H4 at *
      simp [hl2,w1,st1,hl2',w2,st2,hl3,hl4,splice,y1,stx,-vstore,-vload_ptrO]
      exact y6
end
end Go.Proofs.Ytclghkegfpcdpaa.Vm
namespace Go.Proofs.Ytclghkegfpcdpaa.Vm
open Go
set_option maxRecDepth 100000
set_option maxHeartbeats 1000000
set_option linter.unusedSimpArgs false
set_option linter.unusedVariables false
attribute [-simp] List.getD_eq_getElem?_getD
section
variable {c:Cp}{k s:Nat}
theorem sta_bf (hok:CapOk c)(hk:k<nsN c.P):alf (lsN c) (bfN c.P k)=bfN c.P k↔StaN (nsN c.P) (nxN c.P) (lsN c) k:=by
  obtain ⟨b1,b2⟩:=nx_bf hk
  have hsm:=hok.sm_ok
  constructor
  · intro h x hx e
    have e1:alf (lsN c) x=bfN c.P k:=nx_pr.inj _ _ (hsm.pr.lt x hx) b2 (by rw [b1];exact e)
    have e2:=hsm.inv hx
    rw [e1,h] at e2
    rw [e1];exact e2
  · intro h
    have hx:=hsm.pr.lt _ b2
    have:=h (alf (lsN c) (bfN c.P k)) hx (by
      show nxN c.P (alf (lsN c) (alf (lsN c) (bfN c.P k)))=k
      rw [hsm.inv b2,b1])
    rw [hsm.inv b2] at this
    exact this.symm
open Classical in
noncomputable def repsA (c:Cp)(a b:Nat):List Nat:=((List.range a).filter fun k=>decide (StaN (nsN c.P) (nxN c.P) (lsN c) k))++((List.range b).filter fun k=>decide (LeE (PtR c) k∧InnN (nsN c.P) (nxN c.P) (lsN c) k))
theorem mem_reps {a b r:Nat}:r∈repsA c a b↔(r<a∧StaN (nsN c.P) (nxN c.P) (lsN c) r)∨(r<b∧LeE (PtR c) r∧InnN (nsN c.P) (nxN c.P) (lsN c) r):=by simp [repsA]
theorem reps_all:repsA c (nsN c.P) (nsN c.P)=stasN (nsN c.P) (nxN c.P) (lsN c)++innMins (nsN c.P) (nxN c.P) (lsN c):=by
  unfold repsA stasN innMins minsE
  rw [List.filter_filter]
  congr 1
  refine List.filter_congr fun k _ => ?_
  rw [Bool.eq_iff_iff]
  simp only [decide_eq_true_eq,Bool.and_eq_true]
  exact ⟨fun h=>⟨h.2,h.1⟩,fun h=>⟨h.2,h.1⟩⟩
theorem repsA_sta {a:Nat}(h:StaN (nsN c.P) (nxN c.P) (lsN c) a):repsA c (a+1) 0=repsA c a 0++[a]:=by
  unfold repsA
  rw [List.range_succ,List.filter_append]
  simp [h]
theorem repsA_not {a:Nat}(h:¬StaN (nsN c.P) (nxN c.P) (lsN c) a):repsA c (a+1) 0=repsA c a 0:=by
  unfold repsA
  rw [List.range_succ,List.filter_append]
  simp [h]
theorem repsA_inn {a b:Nat}(h:LeE (PtR c) b∧InnN (nsN c.P) (nxN c.P) (lsN c) b):repsA c a (b+1)=repsA c a b++[b]:=by
  unfold repsA
  rw [List.range_succ,List.filter_append,List.append_assoc]
  simp [h]
theorem repsA_out {a b:Nat}(h:¬(LeE (PtR c) b∧InnN (nsN c.P) (nxN c.P) (lsN c) b)):repsA c a (b+1)=repsA c a b:=by
  unfold repsA
  rw [List.range_succ,List.filter_append]
  simp [h]
theorem mem_csP {r:Nat}(hok:CapOk c){j:Int}:j∈csP c r↔∃d:Nat,j=d∧d<nsN c.P∧PtR c r d:=by
  simp only [csP,natL,List.mem_map,mem_memE]
  exact ⟨fun ⟨d,h,e⟩=>⟨d,e.symm,h.1,h.2⟩,fun ⟨d,e,h1,h2⟩=>⟨d,⟨h1,h2⟩,e.symm⟩⟩
theorem found_iff (hok:CapOk c) (hk:k<nsN c.P):(∃r,r∈repsA c (nsN c.P) k∧(k:Int)∈csP c r)↔¬(LeE (PtR c) k∧InnN (nsN c.P) (nxN c.P) (lsN c) k):=by
  have hE:=hok.ptE
  have hnu:=hok.nu
  constructor
  · rintro ⟨r,hr,hm⟩ ⟨h1,h2⟩
    obtain ⟨d,e,hd,hrd⟩:=(mem_csP hok).1 hm
    have:k=d:=by omega
    subst this
    rcases mem_reps.1 hr with ⟨r1,r2⟩ | ⟨r1,r2,r3⟩
    · exact sta_free hnu r1 r2 ((InnN.iff hnu hrd).2 h2)
    · exact h1 r r1 (hE.sy hrd)
  · intro h
    apply Classical.byContradiction
    intro hn
    refine h ⟨fun d hd he => ?_,?_⟩
    · obtain ⟨a1,a2,a3⟩:=lowE_spec hE d
      by_cases hi:InnN (nsN c.P) (nxN c.P) (lsN c) k
      · exact hn ⟨lowE (PtR c) d,mem_reps.2 (Or.inr ⟨by omega,a3,(InnN.iff hnu (hE.tr he a2)).1 hi⟩),(mem_csP hok).2 ⟨k,rfl,hk,hE.sy (hE.tr he a2)⟩⟩
      · obtain ⟨s,s1,s2,s3⟩:=sta_ex hnu hk hi
        exact hn ⟨s,mem_reps.2 (Or.inl ⟨s1,s2⟩),(mem_csP hok).2 ⟨k,rfl,hk,hE.sy s3⟩⟩
    · apply Classical.byContradiction
      intro hi
      obtain ⟨s,s1,s2,s3⟩:=sta_ex hnu hk hi
      exact hn ⟨s,mem_reps.2 (Or.inl ⟨s1,s2⟩),(mem_csP hok).2 ⟨k,rfl,hk,hE.sy s3⟩⟩
theorem first_low (hok:CapOk c){r:Nat}(hr:r<nsN c.P):(csP c r).getD 0 0=(lowE (PtR c) r:Nat)∧0<(csP c r).length:=by
  obtain ⟨a1,a2,a3⟩:=lowE_spec hok.ptE r
  obtain ⟨m1,m2⟩:=mem_first hok (k:=lowE (PtR c) r) (mem_mins.2 ⟨by omega,a3⟩)
  rw [←memE_congr hok.ptE a2] at m1 m2
  refine ⟨?_,by rw [csP,natL_len];exact m2⟩
  simp only [csP,natL,List.getD_eq_getElem?_getD,List.getElem?_map] at m1 ⊢
  rw [List.getElem?_eq_getElem m2] at m1 ⊢
  simp only [Option.getD_some,Option.map_some] at m1 ⊢
  rw [m1]
theorem ptOf_congr (hok:CapOk c){a b:Nat}(h:PtR c a b):csP c a=csP c b∧sumP c a=sumP c b∧innB c a=innB c b:=by
  have e:=memE_congr (N:=nsN c.P) hok.ptE h
  refine ⟨by rw [csP,e];rfl,by rw [sumP,e];rfl,?_⟩
  simp only [innB,decide_eq_decide]
  exact InnN.iff hok.nu h
end
structure PtsC (c:Cp)(R:List Nat)(pts:List Pnt)(cl:List (List Int)):Prop where
  len:pts.length=R.length
  lc:cl.length=R.length
  at':∀i,i<R.length→cl.getD i []=csP c (R.getD i 0)∧∃v,pts.getD i default=pntP c (R.getD i 0) (innB c (R.getD i 0)) v
theorem PtsC.snoc {c:Cp}{R:List Nat}{pts:List Pnt}{cl:List (List Int)}{r:Nat}{v:V}{b:Bool}(h:PtsC c R pts cl)(hb:b=innB c r):PtsC c (R++[r]) (pts++[pntP c r b v]) (cl++[csP c r]) where
  len:=by simp [h.len]
  lc:=by simp [h.lc]
  at' := fun i hi=>by
    rw [List.length_append,List.length_singleton] at hi
    by_cases hlt:i<R.length
    · rw [getD_lt hlt,getD_lt (l:=pts) (by rw [h.len];exact hlt),getD_lt (l:=cl) (by rw [h.lc];exact hlt)];exact h.at' i hlt
    · have:i=R.length:=by omega
      subst this
      rw [getD_last rfl,getD_last h.len.symm,getD_last h.lc.symm]
      exact ⟨rfl,v,by rw [hb]⟩
structure PtlV (n:Nat)(H:Hp)(v:V)(q:List Ptt):Prop where
  ex:∃pts,OwnT n pntC H v pts∧pts.length=q.length∧∀i,i<q.length→(pts.getD i default).i=(q.getD i default).inn∧(pts.getD i default).a=(q.getD i default).ang∧(pts.getD i default).d=(q.getD i default).df∧OwnV n H (pts.getD i default).v (natL (q.getD i default).cs)
def cfP (x y:Pnt):Int:=x.k-y.k
theorem cfP_ordr:Ordr cfP:=⟨fun x y z h1 h2=>by simp only [leC,cfP] at *;omega,fun x y=>by simp only [leC,cfP];omega⟩
section
variable {n0 lim:Nat}{H H0 Hc H':Hp}{K:V→Hp→Prop}{lv u v:V}{M:List (Int×Bool)}{pts:List Pnt}{cl:List (List Int)}{c:Cp}{s:Nat}
theorem PtsC.elem (hok:CapOk c){R:List Nat}(hR:∀r,r∈R→r<nsN c.P)(h:PtsC c R pts cl){i:Nat}(hi:i<R.length):(pts.getD i default).k=(lowE (PtR c) (R.getD i 0):Nat)∧R.getD i 0<nsN c.P∧(pts.getD i default).i=innB c (R.getD i 0)∧(pts.getD i default).a=sumP c (R.getD i 0)∧(pts.getD i default).d=(if innB c (R.getD i 0) then 360 else 180)-sumP c (R.getD i 0):=by
  obtain ⟨_,v,e⟩:=h.at' i hi
  have hr:R.getD i 0<nsN c.P:=hR _ (by
    rw [List.getD_eq_getElem?_getD,List.getElem?_eq_getElem hi];exact List.getElem_mem hi)
  rw [e]
  exact ⟨(first_low hok hr).1,hr,rfl,rfl,rfl⟩
theorem pts_sorted (hok:CapOk c){R:List Nat}(hR:Reps (PtR c) (nsN c.P) R)(h:PtsC c R pts cl){l:List Pnt}(hp:l.Perm pts)(hs:SortR cfP 0 l.length l):l.map (fun e=>e.k.toNat)=minsE (PtR c) (nsN c.P):=by
  have hk:pts.map (fun e=>e.k.toNat)=R.map (lowE (PtR c)):=by
    apply List.ext_getElem (by simp [h.len])
    intro i h1 h2
    have hi:i<R.length:=by simpa using h2
    have:=(h.elem hok hR.lt hi).1
    simp only [List.getD_eq_getElem?_getD,List.getElem?_eq_getElem (show i<pts.length by rw [h.len];exact hi),List.getElem?_eq_getElem hi,Option.getD_some] at this
    simp [this]
  have hperm:(l.map fun e=>e.k.toNat).Perm (minsE (PtR c) (nsN c.P)):=by
    have:=hp.map fun e:Pnt=>e.k.toNat
    rw [hk] at this
    exact this.trans (hR.perm hok.ptE)
  have hnn:∀e,e∈l→0≤e.k:=by
    intro e he
    have he:=hp.mem_iff.1 he
    obtain ⟨i,hi,rfl⟩:=List.getElem_of_mem he
    have:=(h.elem hok hR.lt (i:=i) (by rw [←h.len];exact hi)).1
    rw [List.getD_eq_getElem?_getD,List.getElem?_eq_getElem hi,Option.getD_some] at this
    omega
  refine asc_uniq (key:=fun n:Nat=>(n:Int)) hperm ?_ (mins_asc.imp fun h=>by omega)
  have hnd:(l.map fun e=>e.k.toNat).Nodup:=hperm.nodup_iff.2 mins_nodup
  have hle:(l.map fun e=>e.k.toNat).Pairwise fun a b=>a≤b:=by
    rw [List.pairwise_map,List.pairwise_iff_getElem]
    intro i j hi hj hij
    have h1:=hs i j (Nat.zero_le _) hij hj
    have h2:=hnn _ (List.getElem_mem hi)
    have h3:=hnn _ (List.getElem_mem hj)
    simp only [leC,cfP,List.getD_eq_getElem?_getD,List.getElem?_eq_getElem hi,List.getElem?_eq_getElem hj,Option.getD_some] at h1
    omega
  have:(l.map fun e=>e.k.toNat).Pairwise fun a b=>a≤b∧a≠b:=by
    rw [List.pairwise_and_iff];exact ⟨hle,hnd⟩
  exact this.imp fun h=>by omega
theorem surf_cmpP {x y:Pnt}{l m:List Int}(h1:SlV H' x.v l)(h2:SlV H' y.v m)(k1:0<l.length∧l.getD 0 0=x.k∧0≤x.k∧x.k≤1000)(k2:0<m.length∧m.getD 0 0=y.k∧0≤y.k∧y.k≤1000)(hK:K (.int .i64 (cfP x y)) H'):VCall tbl lim 89 [eV x,eV y] H' K:=by
  refine VCall_fn tbl_at89 rfl ?_
  have a1:=h1.addr (i:=0) (by omega)
  have a2:=h2.addr (i:=0) (by omega)
  have b1:=fun L=>h1.load (i:=0) (by omega) (L:=L)
  have b2:=fun L=>h2.load (i:=0) (by omega) (L:=L)
  rw [k1.2.1] at b1
  rw [k2.2.1] at b2
  have a1':viaddrS 1 x.v (.int .i64 0)=some (ept 1 x.v 0):=a1
  have a2':viaddrS 1 y.v (.int .i64 0)=some (ept 1 y.v 0):=a2
  have w:IntKind.wrap .i64 (x.k-y.k)=x.k-y.k:=wrap_i64 (by omega) (by omega)
  simp [vf89,eV,Pnt.cells,rd0,h1.stor,h1.one,h2.stor,h2.one,a1',a2',b1,b2,w]
  exact hK
theorem OwnT.row_of {α:Type}{k m:Nat}{c:Cod α k}{l:List α}(h:OwnT m c H v l)(hne:0<l.length):∃b,v=.sl b 0 l.length k∧m≤b∧H[b]? = some (.row (c.all l) true):=by
  cases h with
  | nil=>simp at hne
  | row h1 h2=>exact ⟨_,rfl,h1,h2⟩
theorem mem_at {α:Type}[Inhabited α]{l:List α}{x:α}(h:x∈l):∃i,i<l.length∧x=l.getD i default:=by
  obtain ⟨i,hi,rfl⟩:=List.getElem_of_mem h
  exact ⟨i,hi,by rw [List.getD_eq_getElem?_getD,List.getElem?_eq_getElem hi];rfl⟩
theorem surf_points (hok:CapOk c) (hlim:lim≤H.length) (hlv:LstV sdC H lv (layL c.P (lsN c))) (hK:∀H' v,HX H H'→PtlV H.length H' v (ptsP c)→K v H') :
    VCall tbl lim 59 [lv] H K:=by
  refine VCall_fn tbl_at59 rfl ?_
  have hns:=hok.ns
  have hll:=layL_len (P:=c.P) (L:=lsN c)
  have hl0:vlenS lv=some (.int .i64 (nsN c.P)):=by rw [hlv.len,hll]
  have s1:vstoreH lim (H++[Blk.row [lv] true,Blk.map [],Blk.row [V.mnil] true]) (H.length+2) 0 [.mp (H.length+1)]=some (H++[.row [lv] true,.map [],.row [.mp (H.length+1)] true]):=by
    have:lim≤H.length+2:=by omega
    simp [vstoreH,this,splice]
  simp [vf59,hlv.stor,hlv.one,splice,s1,rd0,hl0]
  have hx0:∀{H'':Hp} {M u pts cl},PtsS H.length H lv M u pts cl H''→∀L,vload none L H'' (.ptr H.length 0)=some lv:=fun h L=>by rw [vload_ptr h.b0];rfl
  refine wLoop_up (nsN c.P) (fun i fr L H'=>∃M u pts cl,(fr 1=.ptr H.length 0∧fr 3=.ptr (H.length+2) 0∧fr 4=.ptr (H.length+3) 0∧fr 5=.func (.func 85) [] [.ptr H.length 0,.ptr (H.length+2) 0,.ptr (H.length+3) 0]∧fr 11=.int .i64 (nsN c.P)∧fr 12=.int .i64 i)∧L=[]∧PtsS H.length H lv M u pts cl H'∧PtsC c (repsA c i 0) pts cl∧∀k,(look k M).getD false=true↔∃r,r∈repsA c i 0∧k∈csP c r) ⟨[],.snil,[],[],by simp,rfl,⟨⟨_,rfl⟩,rfl,by simp,by simp;rfl,by simp,by simp,.nil,rfl,fun i hi=>by simp at hi,fun i hi=>by simp at hi⟩,⟨by simp [repsA],by simp [repsA],fun i hi=>by simp [repsA] at hi⟩,fun k=>by simp [look_nil,repsA]⟩ ?_
  rintro i hi fr L H1 ⟨M,u,pts,cl,⟨f1,f3,f4,f5,f11,f12⟩,rfl,hS,hC,hM⟩
  simp [f1,f3,f4,f5,f11,f12]
  refine cond_dec (fun ht => ?_) fun hfl => ?_
  · have ht:i<nsN c.P:=by omega
    have hxl:=hlv.mono hS.hx
    obtain ⟨n1,n2⟩:=nx_bf ht
    have ad:=hxl.at (i:=i) (by rw [hll];exact ht)
    have fa:vfaddr 3 (ept 5 lv i)=some (eptf 5 lv i 3):=hxl.faddr (by rw [hll];exact ht)
    have ld:∀L,vload none L H1 (eptf 5 lv i 3)=some (.int .i64 (bfN c.P i:Nat)):=fun L=>by
      rw [hxl.rd1 (by rw [hll];exact ht) (by omega),layL_get ht];rfl
    have ad2:=hxl.at (i:=bfN c.P i) (by rw [hll];exact n2)
    have fa2:vfaddr 4 (ept 5 lv (bfN c.P i))=some (eptf 5 lv (bfN c.P i) 4):=hxl.faddr (by rw [hll];exact n2)
    have ld2:∀L,vload none L H1 (eptf 5 lv (bfN c.P i) 4)=some (.int .i64 (sdP c.P (lsN c) (bfN c.P i)).p):=fun L=>by
      rw [hxl.rd1 (by rw [hll];exact n2) (by omega),layL_get n2];rfl
    have hfree:=lay_free (P:=c.P) (L:=lsN c) n2
    rw [layL_get n2,sta_bf hok ht] at hfree
    have hl0':=fun L=>hx0 hS L
    generalize (sdP c.P (lsN c) (bfN c.P i)).p=pp at *
    simp [f1,f3,f4,f5,f11,f12,hl0',ad,fa,ld,ad2,fa2,ld2,-vload_ptrO]
    refine cond_dec (fun hp => ?_) fun hp => ?_
    · have hsta:=hfree.1 hp
      have hlen:pts.length≤1000:=by
        have h1:(repsA c i 0).length≤i:=by
          unfold repsA
          have:=List.length_filter_le (fun k=>@decide (StaN (nsN c.P) (nxN c.P) (lsN c) k) (Classical.propDecidable _)) (List.range i)
          simp only [List.length_range] at this
          simpa using this
        rw [hC.len];omega
      simp [f1,f3,f4,f5,f11,f12]
      refine surf_collect hok ht (Or.inl hsta) hlim hS hlv hlen fun H2 M2 u2 v2 hS2 hM2 => ?_
      have hb:false=innB c i:=by
        symm
        simp only [innB,decide_eq_false_iff_not]
        exact sta_free hok.nu ht hsta
      simp (disch:=omega) [f1,f3,f4,f5,f11,f12,wrap_i64]
      refine ⟨ht,_,_,_,_,hS2,?_,fun k => ?_⟩
      · rw [repsA_sta hsta];exact hC.snoc hb
      · rw [hM2 k,hM k,repsA_sta hsta]
        constructor
        · rintro (⟨r,h1,h2⟩ | h)
          · exact ⟨r,List.mem_append_left _ h1,h2⟩
          · exact ⟨i,by simp,h⟩
        · rintro ⟨r,h1,h2⟩
          rcases List.mem_append.1 h1 with h1 | h1
          · exact Or.inl ⟨r,h1,h2⟩
          · rw [List.mem_singleton] at h1;subst h1;exact Or.inr h2
    · have hsta:¬StaN (nsN c.P) (nxN c.P) (lsN c) i:=fun h=>hp (hfree.2 h)
      simp (disch:=omega) [f1,f3,f4,f5,f11,f12,wrap_i64]
      rw [repsA_not hsta]
      exact ⟨ht,_,_,_,_,hS,hC,hM⟩
  have:i=nsN c.P:=by omega
  subst this
  have hl0':=fun L=>hx0 hS L
  simp [f1,f3,f4,f5,f11,f12,hl0',hl0,-vload_ptrO]
  refine wLoop_up (nsN c.P) (fun i fr L H'=>∃M u pts cl,(fr 1=.ptr H.length 0∧fr 3=.ptr (H.length+2) 0∧fr 4=.ptr (H.length+3) 0∧fr 5=.func (.func 85) [] [.ptr H.length 0,.ptr (H.length+2) 0,.ptr (H.length+3) 0]∧fr 30=.int .i64 (nsN c.P)∧fr 31=.int .i64 i)∧L=[]∧PtsS H.length H lv M u pts cl H'∧PtsC c (repsA c (nsN c.P) i) pts cl∧∀k,(look k M).getD false=true↔∃r,r∈repsA c (nsN c.P) i∧k∈csP c r) ⟨M,u,pts,cl,by simp [f1,f3,f4,f5],rfl,hS,hC,hM⟩ ?_
  clear f1 f3 f4 f5 f11 f12 hS hC hM hl0' hi hfl fr
  rintro i hi fr L H1 ⟨M,u,pts,cl,⟨f1,f3,f4,f5,f30,f31⟩,rfl,hS,hC,hM⟩
  simp [f1,f3,f4,f5,f30,f31]
  refine cond_dec (fun ht => ?_) fun hfl => ?_
  · have ht:i<nsN c.P:=by omega
    have hg:=vmgetE (K:=kI) (vc:=V.bool) (a:=(i:Int)) (z:=false) hS.b1
    have hg':vmget false [.int .i64] false (.bool false) H1 (.mp (H.length+1)) (.int .i64 (i:Int))=some (.bool ((look (i:Int) M).getD false)):=hg
    have hl2:∀L,vload none L H1 (.ptr (H.length+2) 0)=some (.mp (H.length+1)):=fun L=>by rw [vload_ptr hS.b2];rfl
    have hfd:=(hM (i:Int)).trans (found_iff hok ht)
    generalize hfo:(look (i:Int) M).getD false=fo at *
    simp [f1,f3,f4,f5,f30,f31,hl2,hg',-vload_ptrO]
    cases fo with
    | true =>
      have hout:=hfd.1 rfl
      simp (disch:=omega) [f1,f3,f4,f5,f30,f31,wrap_i64]
      rw [repsA_out hout]
      exact ⟨ht,_,_,_,_,hS,hC,hM⟩
    | false =>
      have hinn:LeE (PtR c) i∧InnN (nsN c.P) (nxN c.P) (lsN c) i:=by
        apply Classical.byContradiction
        intro hn
        have:=hfd.2 hn
        cases this
      have hlen:pts.length≤1000:=by
        have h1:(repsA c (nsN c.P) i).length≤nsN c.P+i:=by
          unfold repsA
          rw [List.length_append]
          exact Nat.le_trans (Nat.add_le_add (List.length_filter_le _ _) (List.length_filter_le _ _)) (by simp)
        rw [hC.len];omega
      simp [f1,f3,f4,f5,f30,f31]
      refine surf_collect hok ht (Or.inr hinn.2) hlim hS hlv hlen fun H2 M2 u2 v2 hS2 hM2 => ?_
      have hb:true=innB c i:=by
        symm
        simp only [innB,decide_eq_true_eq]
        exact hinn.2
      simp (disch:=omega) [f1,f3,f4,f5,f30,f31,wrap_i64]
      refine ⟨ht,_,_,_,_,hS2,?_,fun k => ?_⟩
      · rw [repsA_inn hinn];exact hC.snoc hb
      · rw [hM2 k,hM k,repsA_inn hinn]
        constructor
        · rintro (⟨r,h1,h2⟩ | h)
          · exact ⟨r,List.mem_append_left _ h1,h2⟩
          · exact ⟨i,by simp,h⟩
        · rintro ⟨r,h1,h2⟩
          rcases List.mem_append.1 h1 with h1 | h1
          · exact Or.inl ⟨r,h1,h2⟩
          · rw [List.mem_singleton] at h1;subst h1;exact Or.inr h2
  have:i=nsN c.P:=by omega
  subst this
  rw [reps_all] at hC
  have hRp:Reps (PtR c) (nsN c.P) (stasN (nsN c.P) (nxN c.P) (lsN c)++innMins (nsN c.P) (nxN c.P) (lsN c)):=reps_sta hok.nu
  generalize stasN (nsN c.P) (nxN c.P) (lsN c)++innMins (nsN c.P) (nxN c.P) (lsN c)=R at *
  have hlu:∀L,vload none L H1 (.ptr (H.length+3) 0)=some u:=fun L=>by rw [vload_ptr hS.b3];rfl
  simp [f1,f3,f4,f5,f30,f31,hlu,hS.ou.lst.stor,-vload_ptrO]
  have hne:0<pts.length:=by
    obtain ⟨r,h1,_⟩:=hRp.cov 0 (by
      have:=hok.np
      have:=hok.ks (q:=0) (by omega)
      exact off_lt (pcs:=c.P) (q:=0) (j:=0) (by omega) (by omega))
    rw [hC.len];exact List.length_pos_of_mem h1
  have hlen:pts.length≤48:=by
    have h1:=few_below (nsN c.P) R (hRp.dis.imp fun {x y} hne (e:x=y)=>hne (by rw [e];exact hok.ptE.rf _)) hRp.lt
    rw [hC.len];omega
  obtain ⟨bu,rfl,hbu,hrow⟩:=hS.ou.row_of hne
  have hel:=fun i hi=>hC.elem hok hRp.lt (i:=i) hi
  have hcmp:CmpQ bu 89 [] [] H1 pts cfP:=by
    intro H2 lim2 x y K2 hx hy hle hoth hK2
    obtain ⟨i,hi,rfl⟩:=mem_at hx
    obtain ⟨j,hj,rfl⟩:=mem_at hy
    have hi':i<R.length:=by rw [←hC.len];exact hi
    have hj':j<R.length:=by rw [←hC.len];exact hj
    have own:∀i,i<pts.length→SlV H2 (pts.getD i default).v (cl.getD i []):=fun i hi =>
      ((hS.oc i hi).keepB fun b o m z e=>hoth b ((hS.oc i hi).belowB _ _ _ _ e).2 fun e'=>by
        subst e'
        exact hS.ap i hi _ _ _ _ _ _ _ rfl e).sl
    have kk:∀i,i<R.length→0<(cl.getD i []).length∧(cl.getD i []).getD 0 0=(pts.getD i default).k∧0≤(pts.getD i default).k∧(pts.getD i default).k≤1000:=fun i hi=>by
      obtain ⟨e1,e2,_⟩:=hel i hi
      obtain ⟨f1,f2⟩:=first_low hok e2
      have:=(lowE_spec hok.ptE (R.getD i 0)).1
      rw [(hC.at' i hi).1,f1,e1]
      exact ⟨f2,rfl,by omega,by omega⟩
    exact surf_cmpP (own i hi) (own j hj) (kk i hi') (kk j hj') (hK2 _ HX.refl)
  refine sq_sort (b:=bu) (l:=pts) (cf:=cfP) hrow (by omega) ⟨rfl,rfl,by decide⟩ hcmp cfP_ordr (by omega) fun H2 l2 hs2 hso => ?_
  have hb4:=hS.big
  have hlu2:H2[H.length+3]? = some (.row [.sl bu 0 pts.length 4] true):=by
    rw [hs2.oth _ (by omega) (by omega)];exact hS.b3
  have hlu':∀L,vload none L H2 (.ptr (H.length+3) 0)=some (.sl bu 0 pts.length 4):=fun L=>by rw [vload_ptr hlu2];rfl
  simp [f4,hlu',-vload_ptrO]
  have hl2:l2.length=pts.length:=hs2.n
  have hmin:=pts_sorted hok hRp hC hs2.perm (by rw [hl2];exact hso)
  have hlm:(minsE (PtR c) (nsN c.P)).length=pts.length:=by rw [←hmin,List.length_map,hl2]
  have hx2:HX H H2:=HX.of (by have:=hS.hx.len;have:=hs2.len;omega) fun b hb=>by
    have:=hS.hx.len
    rw [hs2.oth b (by omega) (by omega),hS.hx.same hb]
  refine hK _ _ hx2 ⟨l2,?_,by rw [hl2,ptsP,List.length_map,hlm],fun i hi => ?_⟩
  · rw [←hl2];exact .row (by omega) hs2.row
  · have hi2:i<l2.length:=by rw [ptsP,List.length_map,hlm] at hi;omega
    have hmem:l2.getD i default∈pts:=hs2.perm.mem_iff.1 (getD_mem hi2)
    obtain ⟨j,hj,ej⟩:=mem_at hmem
    have hj':j<R.length:=by rw [←hC.len];exact hj
    obtain ⟨e1,e2,e3,e4,e5⟩:=hel j hj'
    have hki:(l2.getD i default).k.toNat=(minsE (PtR c) (nsN c.P)).getD i 0:=by
      rw [←hmin]
      simp only [List.getD_eq_getElem?_getD,List.getElem?_map,List.getElem?_eq_getElem hi2];rfl
    rw [ej,e1] at hki
    simp only [Int.toNat_natCast] at hki
    obtain ⟨a1,a2,a3⟩:=lowE_spec hok.ptE (R.getD j 0)
    rw [hki] at a2
    obtain ⟨c1,c2,c3⟩:=ptOf_congr hok a2
    have hpt:(ptsP c).getD i default=ptOf c ((minsE (PtR c) (nsN c.P)).getD i 0):=by
      have him:i<(minsE (PtR c) (nsN c.P)).length:=by omega
      simp only [ptsP,List.getD_eq_getElem?_getD,List.getElem?_map,List.getElem?_eq_getElem him];rfl
    rw [hpt,ej,e3,e4,e5,c2,c3]
    refine ⟨rfl,rfl,rfl,?_⟩
    have:=((hS.oc j hj).keepB (H':=H2) fun b o m z e=>hs2.oth b ((hS.oc j hj).belowB _ _ _ _ e).2 fun e'=>by
        subst e'
        exact hS.ap j hj _ _ _ _ _ _ _ rfl e).le (n:=H.length) (by omega)
    rw [(hC.at' j hj').1,c1] at this
    exact this
end
end Go.Proofs.Ytclghkegfpcdpaa.Vm
namespace Go.Proofs.Ytclghkegfpcdpaa.Vm
open Go
set_option maxRecDepth 100000
set_option maxHeartbeats 1000000
set_option linter.unusedSimpArgs false
set_option linter.unusedVariables false
attribute [-simp] List.getD_eq_getElem?_getD
section
variable {c:Cp}{k s:Nat}
def sgP (c:Cp):Nat→Nat:=fun s=>s
noncomputable def sg (c:Cp)(s:Nat):Nat:=sgN (nsN c.P) (nxN c.P) (lsN c) s
def FrsP (c:Cp)(k:Nat):Prop:=LeE (Orb (nsN c.P) (sgN (nsN c.P) (nxN c.P) (lsN c))) k∧alf (lsN c) k=k
open Classical in
noncomputable def frsA (c:Cp)(b:Nat):List Nat:=(List.range b).filter fun k=>decide (FrsP c k)
noncomputable def lpP (c:Cp)(f:Nat):List Nat:=lpN (nsN c.P) (sgN (nsN c.P) (nxN c.P) (lsN c)) f
noncomputable def lpL (c:Cp)(f j:Nat):List Int:=(List.range j).map fun t=>((itN (sgN (nsN c.P) (nxN c.P) (lsN c)) t f:Nat):Int)
end
def vC:Cod V 1:=⟨fun x=>[x],fun _=>rfl⟩
structure LpsS (n0:Nat)(H0:Hp)(M:List (Int×Bool))(u:V)(us:List V)(ls:List (List Int))(cv:V)(cur:List Int)(H:Hp):Prop where
  hx:HX H0 H
  hn:H0.length=n0
  b1:H[n0]? = some (.map (mE kI .bool M))
  ou:OwnT (n0+1) vC H u us
  len:us.length=ls.length
  oc:∀i,i<us.length→OwnV (n0+1) H (us.getD i dv) (ls.getD i [])
  ow:OwnV (n0+1) H cv cur
  ap:∀i,i<us.length→∀b o z y o' z' y',u=.sl b o z y→us.getD i dv=.sl b o' z' y'→False
  aw:∀b o z y o' z' y',u=.sl b o z y→cv=.sl b o' z' y'→False
  ac:∀i,i<us.length→∀b o z y o' z' y',cv=.sl b o z y→us.getD i dv=.sl b o' z' y'→False
section
variable {n0 lim:Nat}{H H0 H':Hp}{K:V→Hp→Prop}{lv u cv v:V}{M M':List (Int×Bool)}{us:List V}{ls:List (List Int)}{cur:List Int}{c:Cp}{s:Nat}
theorem LpsS.big (h:LpsS n0 H0 M u us ls cv cur H):n0+1≤H.length:=(List.getElem?_eq_some_iff.1 h.b1).1
theorem LpsS.move (h:LpsS n0 H0 M u us ls cv cur H)(ho:OthM n0 H H')(hm:H'[n0]? = some (.map (mE kI .bool M'))):LpsS n0 H0 M' u us ls cv cur H' where
  hx:=HX.of (by have:=h.hx.len;have:=ho.1;omega) fun b hb=>by
    have:=h.hx.len
    have:=h.hn
    rw [ho.2 b (by omega) (by omega),h.hx.same hb]
  hn:=h.hn
  b1:=hm
  ou:=h.ou.keepB fun b o m z e=>by have:=h.ou.belowB _ _ _ _ e;exact ho.2 b (by omega) (by omega)
  len:=h.len
  oc:=fun i hi=>(h.oc i hi).keepB fun b o m z e=>by have:=(h.oc i hi).belowB _ _ _ _ e;exact ho.2 b (by omega) (by omega)
  ow:=h.ow.keepB fun b o m z e=>by have:=h.ow.belowB _ _ _ _ e;exact ho.2 b (by omega) (by omega)
  ap:=h.ap
  aw:=h.aw
  ac:=h.ac
theorem LpsS.grow (h:LpsS n0 H0 M u us ls cv cur H)(hx:HX H H'):LpsS n0 H0 M u us ls cv cur H':=h.move ⟨hx.len,fun b hb _=>hx.same hb⟩ (hx.get h.b1)
theorem LpsS.put (h:LpsS n0 H0 M u us ls cv cur H){k:Int}:LpsS n0 H0 (putA k true M) u us ls cv cur (H.set n0 (.map (mE kI .bool (putA k true M)))) :=
  h.move ⟨by simp,fun b hb hne=>List.getElem?_set_ne (fun e=>hne e.symm)⟩ (List.getElem?_set_self h.big)
theorem LpsS.pushC (h:LpsS n0 H0 M u us ls cv cur H){x:Int}(hlim:lim≤n0)(hl:cur.length<1000000) :
    ∃cv' H',vappend lim 1 8 (H++[.row [.int .i64 x] true]) cv (.sl H.length 0 1 1)=some (cv',H')∧LpsS n0 H0 M u us ls cv' (cur++[x]) H':=by
  have hb:=h.big
  obtain ⟨v',H',a1,a2,a3,a4,a5,a6⟩:=h.ow.appendF (lim:=lim) (x:=x) ⟨by omega,by omega⟩ hl
  have bo:∀b,b<n0+1→∀o z y,cv≠.sl b o z y:=fun b hb o z y e=>by have:=h.ow.belowB _ _ _ _ e;omega
  have hh:=h.hn
  refine ⟨v',H',a1,⟨a3 _ h.hx (by omega),h.hn,(a5 n0 (by omega) (bo _ (by omega))).trans h.b1,h.ou.keepB fun b o m z e=>a5 b (h.ou.belowB _ _ _ _ e).2 fun o' z' y' e'=>h.aw _ _ _ _ _ _ _ e e',h.len,
    fun i hi=>(h.oc i hi).keepB fun b o m z e=>a5 b ((h.oc i hi).belowB _ _ _ _ e).2 fun o' z' y' e'=>h.ac i hi _ _ _ _ _ _ _ e' e,a2,h.ap,fun b o z y o' z' y' e e' => ?_,fun i hi b o z y o' z' y' e e' => ?_⟩⟩
  · have:=(h.ou.belowB _ _ _ _ e).2
    have:=a6 _ _ _ _ e'
    omega
  · have:=((h.oc i hi).belowB _ _ _ _ e').2
    have:=a6 _ _ _ _ e
    omega
theorem LpsS.pushU (h:LpsS n0 H0 M u us ls cv cur H)(hlim:lim≤n0)(hl:us.length<1000000) :
    ∃u' H',vappend lim 1 24 (H++[.row [cv] true]) u (.sl H.length 0 1 1)=some (u',H')∧LpsS n0 H0 M u' (us++[cv]) (ls++[cur]) .snil [] H':=by
  have hb:=h.big
  obtain ⟨v',H',a1,a2,a3,a4,a5,a6⟩:=h.ou.appendF2 (lim:=lim) (bytes:=24) (x:=cv) (cs:=[cv]) rfl ⟨by omega,by omega⟩ (by omega) hl
  have bo:∀b,b<n0+1→∀o z y,u≠.sl b o z y:=fun b hb o z y e=>by have:=h.ou.belowB _ _ _ _ e;omega
  have hh:=h.hn
  refine ⟨v',H',a1,⟨a3 _ h.hx (by omega),h.hn,(a5 n0 (by omega) (bo _ (by omega))).trans h.b1,a2,by simp [h.len],fun i hi => ?_,.nil,fun i hi b o z y o' z' y' e e' => ?_,fun b o z y o' z' y' _ e=>(by cases e),fun i hi b o z y o' z' y' e _=>(by cases e)⟩⟩
  · rw [List.length_append,List.length_singleton] at hi
    by_cases hlt:i<us.length
    · rw [getD_lt hlt,getD_lt (l:=ls) (by rw [←h.len];exact hlt)]
      exact (h.oc i hlt).keepB fun b o m z e=>a5 b ((h.oc i hlt).belowB _ _ _ _ e).2 fun o' z' y' e'=>h.ap i hlt _ _ _ _ _ _ _ e' e
    · have:i=us.length:=by omega
      subst this
      rw [getD_last rfl,getD_last h.len]
      exact h.ow.keepB fun b o m z e=>a5 b (h.ow.belowB _ _ _ _ e).2 fun o' z' y' e'=>h.aw _ _ _ _ _ _ _ e' e
  · rw [List.length_append,List.length_singleton] at hi
    have h6:=a6 _ _ _ _ e
    by_cases hlt:i<us.length
    · rw [getD_lt hlt] at e'
      have:=(h.oc i hlt).belowB _ _ _ _ e'
      omega
    · have:i=us.length:=by omega
      subst this
      rw [getD_last rfl] at e'
      have:=h.ow.belowB _ _ _ _ e'
      omega
structure LlsV (n:Nat)(H:Hp)(v:V)(q:List (List Int)):Prop where
  ex:∃us,OwnT n vC H v us∧us.length=q.length∧∀i,i<q.length→OwnV n H (us.getD i dv) (q.getD i [])
end
end Go.Proofs.Ytclghkegfpcdpaa.Vm
namespace Go.Proofs.Ytclghkegfpcdpaa.Vm
open Go
set_option maxRecDepth 100000
set_option maxHeartbeats 1000000
set_option linter.unusedSimpArgs false
set_option linter.unusedVariables false
attribute [-simp] List.getD_eq_getElem?_getD
section
variable {c:Cp}
theorem pts_le:(ptsP c).length≤nsN c.P:=by
  rw [ptsP,List.length_map]
  exact few_below _ _ mins_nodup fun x hx=>(mem_mins.1 hx).1
theorem sum_le (hok:CapOk c):∀{l:List Nat},(∀x∈l,x<nsN c.P)→0≤(l.map (anN c.P)).sum∧(l.map (anN c.P)).sum≤359*l.length
  | [],_=>by simp
  | x :: l,h=>by
    have h1:=sum_le hok (l:=l) fun y hy=>h y (List.mem_cons_of_mem _ hy)
    have h2:=an_bd hok (h x (by simp))
    simp only [List.map_cons,List.sum_cons,List.length_cons];omega
def dfL (c:Cp)(i:Nat):Int:=0
noncomputable def msUp (c:Cp)(i:Nat):Int:=(((ptsP c).map (·.df)).take i).sum
theorem ls_bd (hok:CapOk c):c.S.length≤24:=by
  have:=frees_len hok.sm_ok
  rw [ls_len] at this
  have:=hok.ns
  omega
def lnUp (c:Cp)(lo:List Nat)(j:Nat):Int:=((lo.take j).map (lnN c.P)).sum
def PrR (c:Cp)(i:Nat):Nat→Nat→Prop:=prtE (pcN c.P) (prL c.P (c.S.take i))
end
section
variable {lim:Nat}{H H':Hp}{K:V→Hp→Prop}{pv sv:V}{ps:List (V×V)}{P:List Pc}{S:List Sm}{e:Int}{ws:List V}{c:Cp}
theorem CapV.form (h:CapV H ws c):∃pv sv ps,ws=[pv,sv,.int .i64 c.e]∧PcsV H pv ps c.P∧LstV smC H sv c.S∧stor pv=true∧cellsV pv=[pv]∧stor sv=true∧cellsV sv=[sv]:=by
  cases h with
  | mk hp hs=>exact ⟨_,_,_,rfl,hp,hs,hp.lst.stor,hp.lst.one,hs.stor,hs.one⟩
theorem surf_Points (hc:CapV H ws c)(hb:c.S.length≤1000000)(hlim:lim≤H.length)(hK:∀H' v,HX H H'→(capE c=0→PtlV H.length H' v (ptsP c))→(capE c≠0→v=.snil)→K (.tup [v,.int .i64 (capE c)]) H'):VCall tbl lim 21 [.agg ws] H K:=by
  obtain ⟨pv,sv,ps,rfl,hp,hs,z1,z2,z3,z4⟩:=hc.form
  refine VCall_fn tbl_at21 rfl ?_
  simp [vf21,z1,z2,z3,z4,rdA3]
  refine surf_Validate hc hb hlim fun H1 x1 => ?_
  replace x1:HX H H1:=x1
  by_cases he:capE c=0
  case neg =>
    have:=hK H1 .snil x1 (fun h=>absurd h he) (fun _=>rfl)
    simp [he,z1,z2,z3,z4]
    exact this
  have l1:=x1.len
  simp [he,rdA3,z1,z2,z3,z4]
  refine surf_lay (hc.mono x1) (capE_ok.1 he) (by omega) fun H2 lv x2 ol => ?_
  replace x2:HX H1 H2:=x2
  have l2:=x2.len
  simp [ol.lst.stor]
  refine surf_points (capE_ok.1 he) (by omega) ol.lst fun H3 v x3 hv => ?_
  replace x3:HX H2 H3:=x3
  obtain ⟨pts,o1,o2,o3⟩:=hv.ex
  have:=hK H3 v ((x1.trans x2).trans x3) (fun _=>⟨⟨pts,o1.le (by omega),o2,fun i hi=>⟨(o3 i hi).1,(o3 i hi).2.1,(o3 i hi).2.2.1,(o3 i hi).2.2.2.le (by omega)⟩⟩⟩) (fun h=>absurd he h)
  rw [he] at this
  simp [o1.lst.stor]
  exact this
end
end Go.Proofs.Ytclghkegfpcdpaa.Vm
namespace Go.Proofs.Ytclghkegfpcdpaa.Vm
open Go
set_option maxRecDepth 100000
set_option maxHeartbeats 1000000
set_option linter.unusedSimpArgs false
set_option linter.unusedVariables false
attribute [-simp] List.getD_eq_getElem?_getD
structure OPcsV (n:Nat)(H:Hp)(v:V)(ps:List (V×V))(pcs:List Pc):Prop where
  own:OwnT n pvC H v ps
  len:ps.length=pcs.length
  at':∀i,i<pcs.length→OwnV n H (ps.getD i default).1 (pcs.getD i default).s∧OwnV n H (ps.getD i default).2 (pcs.getD i default).a
  ap:∀i,i<pcs.length→∀b o z y o' z' y',v=.sl b o z y→((ps.getD i default).1=.sl b o' z' y'∨(ps.getD i default).2=.sl b o' z' y')→False
inductive OCapV (n:Nat)(H:Hp):List V→Cp→Prop
  | mk {pv sv:V} {ps:List (V×V)} {P:List Pc} {S:List Sm} {e:Int}:OPcsV n H pv ps P→OwnT n smC H sv S→(∀b o z y o' z' y',pv=.sl b o z y→sv=.sl b o' z' y'→False)→(∀i,i<P.length→∀b o z y o' z' y',sv=.sl b o z y→((ps.getD i default).1=.sl b o' z' y'∨(ps.getD i default).2=.sl b o' z' y')→False)→OCapV n H [pv,sv,.int .i64 e] ⟨P,S,e⟩
section
variable {n lim:Nat}{H H' H1:Hp}{K:V→Hp→Prop}{v pv sv a b:V}{ps:List (V×V)}{pcs P:List Pc}{S:List Sm}{e:Int}{ws:List V}{c d:Cp}
theorem OPcsV.pcsV (h:OPcsV n H v ps pcs):PcsV H v ps pcs:=⟨h.own.lst,h.len,fun i hi=>⟨(h.at' i hi).1.sl,(h.at' i hi).2.sl⟩⟩
theorem OCapV.cap (h:OCapV n H ws c):CapV H ws c:=by
  cases h with
  | mk h1 h2 _ _=>exact .mk h1.pcsV h2.lst
theorem OPcsV.mono (hx:HX H H')(h:OPcsV n H v ps pcs):OPcsV n H' v ps pcs:=⟨h.own.mono hx,h.len,fun i hi=>⟨(h.at' i hi).1.mono hx,(h.at' i hi).2.mono hx⟩,h.ap⟩
theorem OPcsV.le {m:Nat}(hnm:n≤m)(h:OPcsV m H v ps pcs):OPcsV n H v ps pcs:=⟨h.own.le hnm,h.len,fun i hi=>⟨(h.at' i hi).1.le hnm,(h.at' i hi).2.le hnm⟩,h.ap⟩
theorem OCapV.mono (hx:HX H H')(h:OCapV n H ws c):OCapV n H' ws c:=by
  cases h with
  | mk h1 h2 h3 h4=>exact .mk (h1.mono hx) (h2.mono hx) h3 h4
theorem OCapV.le {m:Nat}(hnm:n≤m)(h:OCapV m H ws c):OCapV n H ws c:=by
  cases h with
  | mk h1 h2 h3 h4=>exact .mk (h1.le hnm) (h2.le hnm) h3 h4
theorem OPcsV.nil:OPcsV n H .snil [] []:=⟨.nil,rfl,fun i hi=>by simp at hi,fun i hi=>by simp at hi⟩
theorem OPcsV.keepB (h:OPcsV n H v ps pcs)(h1:∀b o m z,v=.sl b o m z→H'[b]? = H[b]?)(h2:∀i,i<pcs.length→∀b o m z,((ps.getD i default).1=.sl b o m z∨(ps.getD i default).2=.sl b o m z)→H'[b]? = H[b]?):OPcsV n H' v ps pcs :=
  ⟨h.own.keepB h1,h.len,fun i hi=>⟨(h.at' i hi).1.keepB fun b o m z e=>h2 i hi b o m z (Or.inl e),(h.at' i hi).2.keepB fun b o m z e=>h2 i hi b o m z (Or.inr e)⟩,h.ap⟩
theorem OPcsV.append {p:Pc}(h:OPcsV n H v ps pcs)(hx:HX H H1)(ha:OwnV H.length H1 a p.s)(hb:OwnV H.length H1 b p.a)(hn:lim≤n∧n≤H.length)(hl:pcs.length<1000000) :
    ∃v' H2,vappend lim 2 48 (H1++[.row [a,b] true]) v (.sl H1.length 0 1 2)=some (v',H2)∧OPcsV n H2 v' (ps++[(a,b)]) (pcs++[p])∧(∀H0,HX H0 H1→H0.length≤n→HX H0 H2)∧H1.length≤H2.length∧(∀b',b'<H1.length→(∀o z y,v≠.sl b' o z y)→H2[b']? = H1[b']?)∧∀b o z y,v'=.sl b o z y→H1.length≤b:=by
  have h1:=h.mono hx
  have hlen:=hx.len
  obtain ⟨v',H2,a1,a2,a3,a4,a5,a6⟩:=h1.own.appendF2 (lim:=lim) (bytes:=48) (x:=(a,b)) (cs:=[a,b]) rfl ⟨hn.1,by omega⟩ (by omega) (by rw [h.len];exact hl)
  have old:∀b' o z y,v=.sl b' o z y→b'<H.length:=fun b' o z y e=>(h.own.belowB _ _ _ _ e).2
  refine ⟨v',H2,a1,⟨a2,by simp [h.len],fun i hi => ?_,fun i hi b' o z y o' z' y' e e' => ?_⟩,a3,a4,a5,a6⟩
  · rw [List.length_append,List.length_singleton] at hi
    by_cases hlt:i<pcs.length
    · rw [getD_lt (l:=ps) (by rw [h.len];exact hlt),getD_lt hlt]
      have:=h1.at' i hlt
      exact ⟨this.1.keepB fun b' o m z e=>a5 b' (this.1.belowB _ _ _ _ e).2 fun o' z' y' e'=>h1.ap i hlt _ _ _ _ _ _ _ e' (Or.inl e),this.2.keepB fun b' o m z e=>a5 b' (this.2.belowB _ _ _ _ e).2 fun o' z' y' e'=>h1.ap i hlt _ _ _ _ _ _ _ e' (Or.inr e)⟩
    · have:i=pcs.length:=by omega
      subst this
      rw [getD_last h.len.symm,getD_last rfl]
      exact ⟨(ha.keepB fun b' o m z e=>a5 b' (ha.belowB _ _ _ _ e).2 fun o' z' y' e'=>by have:=old _ _ _ _ e';have:=(ha.belowB _ _ _ _ e).1;omega).le (by omega),(hb.keepB fun b' o m z e=>a5 b' (hb.belowB _ _ _ _ e).2 fun o' z' y' e'=>by have:=old _ _ _ _ e';have:=(hb.belowB _ _ _ _ e).1;omega).le (by omega)⟩
  · rw [List.length_append,List.length_singleton] at hi
    have h6:=a6 _ _ _ _ e
    by_cases hlt:i<pcs.length
    · rw [getD_lt (l:=ps) (by rw [h.len];exact hlt)] at e'
      have:=h1.at' i hlt
      rcases e' with e' | e'
      · have:=(this.1.belowB _ _ _ _ e').2;omega
      · have:=(this.2.belowB _ _ _ _ e').2;omega
    · have:i=pcs.length:=by omega
      subst this
      rw [getD_last h.len.symm] at e'
      rcases e' with e' | e'
      · have:=(ha.belowB _ _ _ _ e').2;omega
      · have:=(hb.belowB _ _ _ _ e').2;omega
def longB (c:Cp):Bool:=decide (30<c.P.length∨60<c.S.length∨∃q,q<c.P.length∧(30<(c.P.getD q default).s.length∨30<(c.P.getD q default).a.length))
structure ShortC (c:Cp):Prop where
  np:c.P.length≤30
  ns:c.S.length≤60
  pc:∀q,q<c.P.length→(c.P.getD q default).s.length≤30∧(c.P.getD q default).a.length≤30
theorem short_of (h:longB c=false):ShortC c:=by
  simp only [longB,decide_eq_false_iff_not,not_or,Nat.not_lt] at h
  refine ⟨h.1,h.2.1,fun q hq => ?_⟩
  have h3:=h.2.2
  constructor
  · apply Nat.le_of_not_lt;intro g;exact h3 ⟨q,hq,Or.inl g⟩
  · apply Nat.le_of_not_lt;intro g;exact h3 ⟨q,hq,Or.inr g⟩
theorem l02_Long (hc:CapV H ws c)(hK:K (.bool (longB c)) H):VCall tbl lim 15 [.agg ws] H K:=by
  obtain ⟨pv,sv,ps,rfl,hp,hs,z1,z2,z3,z4⟩:=hc.form
  refine VCall_fn tbl_at15 rfl ?_
  by_cases h1:30<c.P.length
  · have e:longB c=true:=by simp only [longB,decide_eq_true_eq];exact Or.inl h1
    have e1:decide (30<(c.P.length:Int))=true:=by simp;omega
    rw [e] at hK
    simp [vf15,z1,z2,z3,z4,rd0,rd1',hp.vlen,hs.len,e1]
    exact hK
  have e1:decide (30<(c.P.length:Int))=false:=by simp;omega
  by_cases h2:60<c.S.length
  · have e:longB c=true:=by simp only [longB,decide_eq_true_eq];exact Or.inr (Or.inl h2)
    have e2:decide (60<(c.S.length:Int))=true:=by simp;omega
    rw [e] at hK
    simp [vf15,z1,z2,z3,z4,rd0,rd1',hp.vlen,hs.len,e1,e2]
    exact hK
  have e2:decide (60<(c.S.length:Int))=false:=by simp;omega
  simp [vf15,z1,z2,z3,z4,rd0,rd1',hp.vlen,hs.len,e1,e2]
  refine wLoop_up c.P.length (fun i fr L H'=>(fr 1=.lp 0 0∧fr 3=.int .i64 i)∧L=[[pv,sv,.int .i64 c.e]]∧H'=H∧∀q,q<i→(c.P.getD q default).s.length≤30∧(c.P.getD q default).a.length≤30) ⟨by simp,rfl,rfl,fun q hq=>by omega⟩ ?_
  rintro i hi fr L H1 ⟨⟨f1,f3⟩,rfl,rfl,hall⟩
  simp [f1,f3,rd0,hp.vlen]
  refine cond_dec (fun ht => ?_) fun hfl => ?_
  · have ht:i<c.P.length:=by omega
    obtain ⟨s1,s2⟩:=hp.at' i ht
    by_cases g1:30<(c.P.getD i default).s.length
    · have e:longB c=true:=by simp only [longB,decide_eq_true_eq];exact Or.inr (Or.inr ⟨i,ht,Or.inl g1⟩)
      have e3:decide (30<((c.P.getD i default).s.length:Int))=true:=by simp;omega
      rw [e] at hK
      simp [f1,f3,rd0,hp.at ht,hp.fa ht,hp.ld0 ht,hp.ld1 ht,s1.len,s2.len,e3]
      exact hK
    have e3:decide (30<((c.P.getD i default).s.length:Int))=false:=by simp;omega
    by_cases g2:30<(c.P.getD i default).a.length
    · have e:longB c=true:=by simp only [longB,decide_eq_true_eq];exact Or.inr (Or.inr ⟨i,ht,Or.inr g2⟩)
      have e4:decide (30<((c.P.getD i default).a.length:Int))=true:=by simp;omega
      rw [e] at hK
      simp [f1,f3,rd0,hp.at ht,hp.fa ht,hp.ld0 ht,hp.ld1 ht,s1.len,s2.len,e3,e4]
      exact hK
    have e4:decide (30<((c.P.getD i default).a.length:Int))=false:=by simp;omega
    simp (disch:=omega) [f1,f3,rd0,hp.at ht,hp.fa ht,hp.ld0 ht,hp.ld1 ht,s1.len,s2.len,e3,e4,wrap_i64]
    refine ⟨ht,fun q hq => ?_⟩
    by_cases eq:q=i
    · subst eq;omega
    · exact hall q (by omega)
  · have:i=c.P.length:=by omega
    subst this
    have e:longB c=false:=by
      simp only [longB,decide_eq_false_iff_not,not_or]
      refine ⟨h1,h2,?_⟩
      rintro ⟨q,hq,g | g⟩
      · have:=(hall q hq).1;omega
      · have:=(hall q hq).2;omega
    rw [e] at hK
    simp
    exact hK
def sameB (c d:Cp):Bool:=decide (c.e=d.e∧c.P.length=d.P.length∧c.S.length=d.S.length∧(∀q,q<c.P.length→(c.P.getD q default).s=(d.P.getD q default).s∧(c.P.getD q default).a=(d.P.getD q default).a)∧∀q,q<c.S.length→(c.S.getD q default).A=(d.S.getD q default).A∧(c.S.getD q default).I=(d.S.getD q default).I∧(c.S.getD q default).B=(d.S.getD q default).B∧(c.S.getD q default).J=(d.S.getD q default).J)
end
end Go.Proofs.Ytclghkegfpcdpaa.Vm
namespace Go.Proofs.Ytclghkegfpcdpaa.Vm
open Go
set_option maxRecDepth 100000
set_option maxHeartbeats 1000000
set_option linter.unusedSimpArgs false
set_option linter.unusedVariables false
attribute [-simp] List.getD_eq_getElem?_getD
structure CapA (H:Hp)(ws:List V)(c:Cp):Prop where
  cap:CapV H ws c
theorem pick_pcs {H:Hp}:∀{ps:List (V×V)},(∀p∈ps,∃c:Pc,SlV H p.1 c.s∧SlV H p.2 c.a)→∃pcs:List Pc,ps.length=pcs.length∧∀i,i<pcs.length→SlV H (ps.getD i default).1 (pcs.getD i default).s∧SlV H (ps.getD i default).2 (pcs.getD i default).a
  | [],_=>⟨[],rfl,fun i hi=>by simp at hi⟩
  | p :: ps,h=>by
    obtain ⟨c,h1,h2⟩:=h p (by simp)
    obtain ⟨pcs,h3,h4⟩:=pick_pcs (ps:=ps) fun q hq=>h q (List.mem_cons_of_mem _ hq)
    refine ⟨c :: pcs,by simp [h3],fun i hi => ?_⟩
    cases i with
    | zero=>exact ⟨h1,h2⟩
    | succ i=>exact h4 i (by simpa using hi)
theorem cap_of {H:Hp}{ws:List V}{ds:List CD}(h:RepTs H [.sl [cInts,cInts],.sl [cInt,cInt,cInt,cInt],cInt] ws ds):∃c,CapA H ws c:=by
  obtain ⟨v0,u0,_,_,rfl,_,p0,q0⟩:=reps_cons h
  obtain ⟨v1,u1,_,_,rfl,_,p1,q1⟩:=reps_cons q0
  obtain ⟨v2,u2,_,_,rfl,_,p2,q2⟩:=reps_cons q1
  have e:=reps_nil q2
  subst e
  obtain ⟨n,rfl,_⟩:=int_of p2
  obtain ⟨l1,h1,hl,hall⟩:=lst_of (c:=pvC) rfl (fun z=>∃c:Pc,SlV H z.1 c.s∧SlV H z.2 c.a) (fun vs ds h=>by
    obtain ⟨v0,u0,_,_,rfl,_,p0,q0⟩:=reps_cons h
    obtain ⟨v1,u1,_,_,rfl,_,p1,q1⟩:=reps_cons q0
    have e:=reps_nil q1
    subst e
    obtain ⟨l0,g0,_,_⟩:=ints_of p0
    obtain ⟨l1,g1,_,_⟩:=ints_of p1
    exact ⟨(v0,v1),rfl,⟨l0,l1⟩,g0,g1⟩) p0
  obtain ⟨l2,h2,_,_⟩:=lst_of (c:=smC) rfl (fun z=>True) (fun vs ds h=>by
    obtain ⟨v0,u0,_,_,rfl,_,p0,q0⟩:=reps_cons h
    obtain ⟨v1,u1,_,_,rfl,_,p1,q1⟩:=reps_cons q0
    obtain ⟨v2,u2,_,_,rfl,_,p2,q2⟩:=reps_cons q1
    obtain ⟨v3,u3,_,_,rfl,_,p3,q3⟩:=reps_cons q2
    have e:=reps_nil q3
    subst e
    obtain ⟨n0,rfl,c0⟩:=int_of p0
    obtain ⟨n1,rfl,c1⟩:=int_of p1
    obtain ⟨n2,rfl,c2⟩:=int_of p2
    obtain ⟨n3,rfl,c3⟩:=int_of p3
    exact ⟨⟨n0,n1,n2,n3⟩,rfl,trivial⟩) p1
  obtain ⟨pcs,g1,g2⟩:=pick_pcs hall
  exact ⟨⟨pcs,l2,n⟩,⟨.mk ⟨h1,g1,g2⟩ h2⟩⟩
def boolL (l:List Bool):List V:=l.map V.bool
section
variable {n lim:Nat}{H H' H1:Hp}{K:V→Hp→Prop}{ws:List V}{c:Cp}{b x:Nat}{el:List Bool}{il:List Int}{own:Bool}
def upTo (q:List (List Nat))(i k:Nat):List Nat:=(q.take i).flatten++(q.getD i []).take k
noncomputable def ptQ (c:Cp):List (List Nat):=(ptsP c).map (·.cs)
def outN (c:Cp)(l:List Nat)(k:Nat):Nat:=((l.take k).filter (freeN (lsN c))).length
end
end Go.Proofs.Ytclghkegfpcdpaa.Vm
namespace Go.Proofs.Ytclghkegfpcdpaa.Vm
open Go
set_option maxRecDepth 100000
set_option maxHeartbeats 1000000
set_option linter.unusedSimpArgs false
set_option linter.unusedVariables false
attribute [-simp] List.getD_eq_getElem?_getD
def zCap:Cp:=⟨[],[],0⟩
def sewC (c:Cp)(s:Sm):Cp:=⟨c.P,c.S++[s],c.e⟩
def unsC (c:Cp)(i:Nat):Cp:=⟨c.P,c.S.take i++c.S.drop (i+1),c.e⟩
def unsE (c:Cp)(i:Int):Int:=if capE c≠0 then capE c else if 0≤i∧i<c.S.length then 0 else 5
section
variable {n lim:Nat}{H H' H1:Hp}{K:V→Hp→Prop}{v pv sv a b:V}{ps:List (V×V)}{P:List Pc}{S:List Sm}{e:Int}{ws:List V}{c d:Cp}
end
end Go.Proofs.Ytclghkegfpcdpaa.Vm
namespace Go.Proofs.Ytclghkegfpcdpaa.Vm
open Go
set_option maxRecDepth 100000
set_option maxHeartbeats 1000000
set_option linter.unusedSimpArgs false
set_option linter.unusedVariables false
attribute [-simp] List.getD_eq_getElem?_getD
section
variable {n lim:Nat}{H H' H1:Hp}{K:V→Hp→Prop}{v pv sv a b u:V}{ps:List (V×V)}{P:List Pc}{S:List Sm}{e:Int}{ws:List V}{c d:Cp}
theorem OCapV.parts (h:OCapV n H ws c):∃pv sv ps,ws=[pv,sv,.int .i64 c.e]∧OPcsV n H pv ps c.P∧OwnT n smC H sv c.S∧(∀b o z y o' z' y',pv=.sl b o z y→sv=.sl b o' z' y'→False)∧∀i,i<c.P.length→∀b o z y o' z' y',sv=.sl b o z y→((ps.getD i default).1=.sl b o' z' y'∨(ps.getD i default).2=.sl b o' z' y')→False:=by
  cases h with
  | mk h1 h2 h3 h4=>exact ⟨_,_,_,rfl,h1,h2,h3,h4⟩
end
end Go.Proofs.Ytclghkegfpcdpaa.Vm
namespace Go.Proofs.Ytclghkegfpcdpaa.Vm
open Go
set_option maxRecDepth 100000
set_option maxHeartbeats 1000000
set_option linter.unusedSimpArgs false
set_option linter.unusedVariables false
attribute [-simp] List.getD_eq_getElem?_getD
section
variable {n lim:Nat}{H H' H1:Hp}{K:V→Hp→Prop}{v pv sv a b u:V}{ps:List (V×V)}{P:List Pc}{S:List Sm}{e:Int}{ws:List V}{c d:Cp}
noncomputable def measL (c:Cp):List V:=if capE c=0 then [.int .i64 (partP c),.int .i64 (eulP c),.int .i64 (missP c),.int .i64 (handP c),.int .i64 0] else [.int .i64 0,.int .i64 0,.int .i64 0,.int .i64 0,.int .i64 (capE c)]
structure WrS (m:Nat)(H0:Hp)(pv:V)(ps:List (V×V))(P:List Pc)(H:Hp):Prop where
  hx:HX H0 H
  hm:H0.length≤m
  own:OwnT m pvC H pv ps
  len:ps.length=P.length
  ol:∀i,i<P.length→OwnL m H (ps.getD i default).1 (P.getD i default).s.length
  ap:∀i,i<P.length→∀b o z y o' z' y',pv=.sl b o z y→(ps.getD i default).1=.sl b o' z' y'→False
theorem WrS.write {m:Nat}{H0:Hp}(h:WrS m H0 pv ps P H){i k:Nat}(hi:i<P.length)(hk:k<(P.getD i default).s.length)(hlim:lim≤m):∃H',(∀L,vstore lim L H (ept 1 (ps.getD i default).1 k) (.int .i64 (-1)) 1=some (L,H'))∧WrS m H0 pv ps P H':=by
  obtain ⟨l,hl,ho⟩:=h.ol i hi
  refine ⟨setH H (ps.getD i default).1 (ints (l.set k (-1))),fun L=>ho.store ⟨hlim,by omega⟩,setH_X h.hx ho h.hm,h.hm,h.own.keepB fun b o z y e => ?_,h.len,fun j hj=>(h.ol j hj).set ho (by simp),h.ap⟩
  cases hq:(ps.getD i default).1 with
  | sl b' o' z' y' =>
    simp only [setH]
    rw [List.getElem?_set_ne]
    rintro rfl
    exact h.ap i hi _ _ _ _ _ _ _ e hq
  | _=>rfl
theorem WrS.vlen {m:Nat}{H0:Hp}(h:WrS m H0 pv ps P H){i:Nat}(hi:i<P.length):vlenS (ps.getD i default).1=some (.int .i64 (P.getD i default).s.length):=by
  obtain ⟨l,hl,ho⟩:=h.ol i hi
  rw [←hl];exact ho.sl.len
theorem WrS.addr {m:Nat}{H0:Hp}(h:WrS m H0 pv ps P H){i k:Nat}(hi:i<P.length)(hk:k<(P.getD i default).s.length):viaddrS 1 (ps.getD i default).1 (.int .i64 (k:Int))=some (ept 1 (ps.getD i default).1 k):=by
  obtain ⟨l,hl,ho⟩:=h.ol i hi
  have:=ho.sl.addr (i:=(k:Int)) (by omega)
  simpa using this
end
end Go.Proofs.Ytclghkegfpcdpaa.Vm
namespace Go.Proofs.Ytclghkegfpcdpaa.Vm
set_option linter.unusedVariables false
set_option linter.unusedSimpArgs false
attribute [-simp] List.getD_eq_getElem?_getD
theorem sum_setN:∀{l:List Nat} {i x:Nat},i<l.length→(l.set i x).sum+l.getD i 0=l.sum+x
  | [],i,x,h=>absurd h (by simp)
  | y :: l,0,x,_=>by simp [List.set,List.getD_eq_getElem?_getD];omega
  | y :: l,i+1,x,h=>by
    have:=sum_setN (l:=l) (i:=i) (x:=x) (by simpa using h)
    simp only [List.set,List.sum_cons,List.getD_eq_getElem?_getD,List.getElem?_cons_succ] at this ⊢
    omega
theorem getD_setN {l:List Nat}{i t x:Nat}(h:i<l.length):(l.set i x).getD t 0=if t=i then x else l.getD t 0:=by
  simp only [List.getD_eq_getElem?_getD]
  by_cases e:t=i
  · subst e;simp [h]
  · rw [if_neg e,List.getElem?_set_ne (fun h=>e h.symm)]
def lowS (l:List Nat)(a b:Nat):List Nat:=(l.set a (min (l.getD a 0) (l.getD b 0))).set b (min (l.getD a 0) (l.getD b 0))
theorem lowS_len {l:List Nat}{a b:Nat}:(lowS l a b).length=l.length:=by simp [lowS]
theorem lowS_get {l:List Nat}{a b t:Nat}(ha:a<l.length)(hb:b<l.length):(lowS l a b).getD t 0=if t=b∨t=a then min (l.getD a 0) (l.getD b 0) else l.getD t 0:=by
  rw [lowS,getD_setN (by simpa using hb),getD_setN ha]
  by_cases e1:t=b<;>by_cases e2:t=a<;>simp [e1,e2]
theorem lowS_le {l:List Nat}{a b t:Nat}(ha:a<l.length)(hb:b<l.length):(lowS l a b).getD t 0≤l.getD t 0:=by
  rw [lowS_get ha hb]
  split
  · rename_i h
    rcases h with rfl | rfl
    · exact Nat.min_le_right _ _
    · exact Nat.min_le_left _ _
  · exact Nat.le_refl _
theorem lowS_sum {l:List Nat}{a b:Nat}(ha:a<l.length)(hb:b<l.length)(hne:l.getD a 0≠l.getD b 0):(lowS l a b).sum<l.sum:=by
  have hab:a≠b:=fun e=>hne (by rw [e])
  have h1:=sum_setN (l:=l) (i:=a) (x:=min (l.getD a 0) (l.getD b 0)) ha
  have h2:=sum_setN (l:=l.set a (min (l.getD a 0) (l.getD b 0))) (i:=b) (x:=min (l.getD a 0) (l.getD b 0)) (by simpa using hb)
  rw [getD_setN ha,if_neg (fun e=>hab e.symm)] at h2
  unfold lowS
  rcases Nat.lt_or_gt_of_ne hne with h | h
  · rw [Nat.min_eq_left (by omega)] at h1 h2 ⊢;omega
  · rw [Nat.min_eq_right (by omega)] at h1 h2 ⊢;omega
structure LowM (E:Nat→Nat→Prop)(N:Nat)(l:List Nat):Prop where
  len:l.length=N
  at':∀i,i<N→l.getD i 0≤i∧E i (l.getD i 0)
section
variable {E:Nat→Nat→Prop}{N:Nat}{l:List Nat}
theorem LowM.start (h:Eqv E):LowM E N (List.range N) where
  len:=by simp
  at':=fun i hi=>by
    have:(List.range N).getD i 0=i:=by simp [List.getD_eq_getElem?_getD,hi]
    rw [this];exact ⟨Nat.le_refl _,h.rf i⟩
theorem LowM.step (hE:Eqv E)(h:LowM E N l){a b:Nat}(ha:a<N)(hb:b<N)(he:E a b):LowM E N (lowS l a b) where
  len:=by rw [lowS_len,h.len]
  at' := fun i hi=>by
    have ha':=h.at' a ha
    have hb':=h.at' b hb
    refine ⟨Nat.le_trans (lowS_le (by rw [h.len];exact ha) (by rw [h.len];exact hb)) (h.at' i hi).1,?_⟩
    rw [lowS_get (by rw [h.len];exact ha) (by rw [h.len];exact hb)]
    have hm:E a (min (l.getD a 0) (l.getD b 0)):=by
      rcases Nat.le_total (l.getD a 0) (l.getD b 0) with g | g
      · rw [Nat.min_eq_left g];exact ha'.2
      · rw [Nat.min_eq_right g];exact hE.tr he hb'.2
    split
    · rename_i g
      rcases g with rfl | rfl
      · exact hE.tr (hE.sy he) hm
      · exact hm
    · exact (h.at' i hi).2
theorem LowM.lt (h:LowM E N l){i:Nat}(hi:i<N):l.getD i 0<N:=Nat.lt_of_le_of_lt (h.at' i hi).1 hi
theorem LowM.least (hE:Eqv E)(h:LowM E N l){i:Nat}(hi:i<N)(hl:LeE E i):l.getD i 0=i:=by
  obtain ⟨h1,h2⟩:=h.at' i hi
  rcases Nat.lt_or_ge (l.getD i 0) i with g | g
  · exact absurd h2 (hl _ g)
  · omega
theorem LowM.done (hE:Eqv E)(h:LowM E N l)(hfix:∀i j,i<N→j<N→E i j→l.getD i 0=l.getD j 0){i:Nat}(hi:i<N):l.getD i 0=lowE E i:=by
  obtain ⟨h1,h2,h3⟩:=lowE_spec hE i
  rw [hfix i (lowE E i) hi (by omega) h2,h.least hE (by omega) h3]
end
section
variable {c:Cp}{l:List Nat}
theorem low_points (hok:CapOk c)(h:LowM (PtR c) (nsN c.P) l)(hfix:∀a,a<nsN c.P→alf (lsN c) a≠a→l.getD a 0=l.getD (nuP c a) 0){i:Nat}(hi:i<nsN c.P):l.getD i 0=lowE (PtR c) i:=by
  have wk:∀{k x y:Nat},x<nsN c.P→WkN (nxN c.P) (lsN c) x k y→l.getD x 0=l.getD y 0:=by
    intro k
    induction k with
    | zero=>intro x y _ hw;rw [←hw.1];rfl
    | succ k ih =>
      intro x y hx hw
      have h1:l.getD x 0=l.getD (itN (nuP c) k x) 0:=ih hx ⟨rfl,fun i hi=>hw.2 i (by omega)⟩
      have hq:=hok.nu.it hx k
      have h2:=hfix _ hq (hw.2 k (by omega))
      rw [h1,h2]
      have:=hw.1
      rw [←this];rfl
  refine h.done hok.ptE (fun i j hi hj he => ?_) hi
  rcases he with e | ⟨_,_,k,hw | hw⟩
  · rw [e]
  · exact wk hi hw
  · exact (wk hj hw).symm
theorem prt_least {pc:Nat→Nat}{F:Nat→Nat→Prop}(hF:Eqv F):∀{L:List (Nat×Nat)},(∀s,s∈L→F (pc s.1) (pc s.2))→∀{x y:Nat},prtE pc L x y→F x y
  | [],_,x,y,h=>by rw [show x=y from h];exact hF.rf _
  | s :: L,hs,x,y,h=>by
    have ih:∀{x y:Nat},prtE pc L x y→F x y:=fun g=>prt_least hF (fun s hm=>hs s (List.mem_cons_of_mem _ hm)) g
    have h0:=hs s List.mem_cons_self
    rcases h with g | ⟨g1,g2⟩ | ⟨g1,g2⟩
    · exact ih g
    · exact hF.tr (ih g1) (hF.tr h0 (ih g2))
    · exact hF.tr (ih g1) (hF.tr (hF.sy h0) (ih g2))
theorem SmOk.alf_mem {N:Nat}{L:List (Nat×Nat)}(h:SmOk N L):∀s,s∈L→s.1<N∧s.2<N∧alf L s.1=s.2∧s.1≠s.2:=by
  induction h with
  | nil=>intro s hs;cases hs
  | cons hh h1 h2 h3 h4 ih =>
    intro s hs
    rename_i t L0
    have hco:=fun c=>alf_cons (s:=t) (L:=L0) (c:=c) (SmOk.cons hh h1 h2 h3 h4)
    rcases List.mem_cons.1 hs with e | hs
    · subst e
      refine ⟨h1,h2,?_,h3⟩
      rw [hco,if_pos rfl]
    · obtain ⟨a1,a2,a3,a4⟩:=ih s hs
      refine ⟨a1,a2,?_,a4⟩
      obtain ⟨b1,b2,_⟩:=h4 s hs
      rw [hco,if_neg b1,if_neg b2,a3]
def PrtR (c:Cp):Nat→Nat→Prop:=prtE (pcN c.P) (lsN c)
open Classical in
noncomputable def cntL (c:Cp)(l:List Nat)(v:Nat):List Nat:=(List.range c.P.length).filter fun x=>decide (l.getD x 0=v)
def RndP (c:Cp)(r:Nat)(l:List Nat):Prop:=∀v,v<c.P.length→LeE (PrtR c) v→(∀x,x<c.P.length→PrtR c x v→l.getD x 0=v)∨r+1≤(cntL c l v).length
theorem cnt_more {p q:Nat→Bool} {n y:Nat} (h:∀x,x<n→p x=true→q x=true) (hy:y<n) (h1:p y=false) (h2:q y=true):((List.range n).filter p).length+1≤((List.range n).filter q).length:=by
  induction n with
  | zero=>omega
  | succ n ih =>
    rw [List.range_succ,List.filter_append,List.filter_append,List.length_append,List.length_append]
    by_cases e:y=n
    · subst e
      have le : ((List.range y).filter p).length≤((List.range y).filter q).length:=by
        have:∀m,m≤y→((List.range m).filter p).length≤((List.range m).filter q).length:=by
          intro m
          induction m with
          | zero=>intro _;simp
          | succ m ihm =>
            intro hm
            rw [List.range_succ,List.filter_append,List.filter_append,List.length_append,List.length_append]
            have:=ihm (by omega)
            have:([m].filter p).length≤([m].filter q).length:=by
              cases hp:p m with
              | false=>simp [List.filter,hp]
              | true=>simp [List.filter,hp,h m (by omega) hp]
            omega
        exact this y (Nat.le_refl _)
      simp [List.filter,h1,h2];exact le
    · have:=ih (fun x hx=>h x (by omega)) (by omega)
      have:([n].filter p).length≤([n].filter q).length:=by
        cases hp:p n with
        | false=>simp [List.filter,hp]
        | true=>simp [List.filter,hp,h n (by omega) hp]
      omega
theorem RndP.start:RndP c 0 (List.range c.P.length):=by
  intro v hv hl
  right
  have:v∈cntL c (List.range c.P.length) v:=by
    simp [cntL,hv,List.getD_eq_getElem?_getD]
  have:=List.length_pos_of_mem this
  omega
theorem RndP.next (hok:CapOk c) {r:Nat} {l0 l1:List Nat} (h0:LowM (PrtR c) c.P.length l0) (h1:LowM (PrtR c) c.P.length l1) (hle:∀x,l1.getD x 0≤l0.getD x 0)
    (hs:∀a,a<nsN c.P→alf (lsN c) a≠a→l1.getD (pcN c.P a) 0≤l0.getD (pcN c.P (alf (lsN c) a)) 0) (h:RndP c r l0):RndP c (r+1) l1:=by
  have hE:Eqv (PrtR c):=prtE_eqv
  have hsm:=hok.sm_ok
  intro v hv hl
  have keep:∀x,x<c.P.length→l0.getD x 0=v→l1.getD x 0=v:=by
    intro x hx e
    have g1:=hle x
    have g2:=(h1.at' x hx).2
    have g3:=(h0.at' x hx).2
    rw [e] at g3 g1
    rcases Nat.lt_or_ge (l1.getD x 0) v with g | g
    · exact absurd (hE.tr (hE.sy g3) g2) (hl _ g)
    · omega
  rcases h v hv hl with g | g
  · exact Or.inl fun x hx he=>keep x hx (g x hx he)
  · by_cases hall:∀x,x<c.P.length→PrtR c x v→l0.getD x 0=v
    · exact Or.inl fun x hx he=>keep x hx (hall x hx he)
    · right
      have hex:∃a,a<nsN c.P∧alf (lsN c) a≠a∧l0.getD (pcN c.P a) 0≠v∧l0.getD (pcN c.P (alf (lsN c) a)) 0=v:=by
        apply Classical.byContradiction
        intro hno
        apply hall
        intro x hx he
        have hF:Eqv fun x y=>(l0.getD x 0=v↔l0.getD y 0=v):=⟨fun _=>Iff.rfl,fun h=>h.symm,fun h g=>h.trans g⟩
        have:=prt_least (pc:=pcN c.P) hF (L:=lsN c) (fun s hm=>by
          obtain ⟨a1,a2,a3,a4⟩:=hsm.alf_mem s hm
          have b3:alf (lsN c) s.2=s.1:=by rw [←a3,hsm.inv a1]
          constructor
          · intro e
            apply Classical.byContradiction
            intro hn
            exact hno ⟨s.2,a2,by rw [b3];exact a4,hn,by rw [b3];exact e⟩
          · intro e
            apply Classical.byContradiction
            intro hn
            exact hno ⟨s.1,a1,by rw [a3];exact fun e=>a4 e.symm,hn,by rw [a3];exact e⟩) he
        exact this.2 (h0.least hE hv hl)
      obtain ⟨a,a1,a2,a3,a4⟩:=hex
      have hpa:pcN c.P a<c.P.length:=pc_lt a1
      have hpb:pcN c.P (alf (lsN c) a)<c.P.length:=pc_lt (hsm.pr.lt a a1)
      have hnew:l1.getD (pcN c.P a) 0=v:=by
        have g1:=hs a a1 a2
        rw [a4] at g1
        have g2:=(h1.at' _ hpa).2
        have g3:=(h0.at' _ hpb).2
        rw [a4] at g3
        have g4:PrtR c (pcN c.P a) (pcN c.P (alf (lsN c) a)):=prtE_sewn
        rcases Nat.lt_or_ge (l1.getD (pcN c.P a) 0) v with q | q
        · exact absurd (hE.tr (hE.sy (hE.tr g4 g3)) g2) (hl _ q)
        · omega
      have:=cnt_more (p:=fun x=>decide (l0.getD x 0=v)) (q:=fun x=>decide (l1.getD x 0=v)) (n:=c.P.length) (y:=pcN c.P a) (fun x hx he=>by simpa using keep x hx (by simpa using he)) hpa (by simpa using a3) (by simpa using hnew)
      unfold cntL at g ⊢
      omega
theorem RndP.end (h0:LowM (PrtR c) c.P.length l)(h:RndP c c.P.length l){x:Nat}(hx:x<c.P.length):l.getD x 0=lowE (PrtR c) x:=by
  have hE:Eqv (PrtR c):=prtE_eqv
  obtain ⟨h1,h2,h3⟩:=lowE_spec hE x
  rcases h (lowE (PrtR c) x) (by omega) h3 with g | g
  · exact g x hx h2
  · have:(cntL c l (lowE (PrtR c) x)).length≤c.P.length:=by
      unfold cntL
      exact Nat.le_trans (List.length_filter_le _ _) (by simp)
    omega
def ownL (l:List Nat)(n:Nat):Nat:=((List.range n).filter fun i=>decide (l.getD i 0=i)).length
end
end Go.Proofs.Ytclghkegfpcdpaa.Vm
namespace Go.Proofs.Ytclghkegfpcdpaa.Vm
open Go
set_option maxRecDepth 100000
set_option maxHeartbeats 1000000
set_option linter.unusedSimpArgs false
set_option linter.unusedVariables false
attribute [-simp] List.getD_eq_getElem?_getD
structure Owns (n:Nat)(H0 H:Hp)(vs:List V)(ls:List (List Int)):Prop where
  hx:HX H0 H
  len:vs.length=ls.length
  at':∀i,i<ls.length→OwnV n H (vs.getD i dv) (ls.getD i [])
  ap:∀i j,i<ls.length→j<ls.length→i≠j→∀b o z y o' z' y',vs.getD i dv=.sl b o z y→vs.getD j dv=.sl b o' z' y'→False
theorem getD_setX {α:Type}{l:List α}{i t:Nat}{x d:α}(h:i<l.length):(l.set i x).getD t d=if t=i then x else l.getD t d:=by
  simp only [List.getD_eq_getElem?_getD]
  by_cases e:t=i
  · subst e;simp [h]
  · rw [if_neg e,List.getElem?_set_ne (fun h=>e h.symm)]
section
variable {n lim:Nat}{H H0 H':Hp}{vs:List V}{ls:List (List Int)}
theorem isLp_ept {sz i:Nat}{v:V}:isLp (ept sz v i)=false:=by cases v<;>rfl
theorem OwnV.isP {v:V}{l:List Int}(h:OwnV n H v l){i:Nat}(hi:i<l.length):isPtr (ept 1 v i)=true∧isLp (ept 1 v i)=false:=by
  cases h with
  | nil=>simp at hi
  | row h1 h3=>exact ⟨rfl,rfl⟩
theorem Owns.push (h:Owns n H0 H vs ls) {i:Nat} (hi:i<ls.length) {x:Int} (hn:lim≤n∧H0.length≤n∧n≤H.length) (hl:(ls.getD i []).length<1000000) :
    ∃v' H',vappend lim 1 8 (H++[.row [.int .i64 x] true]) (vs.getD i dv) (.sl H.length 0 1 1)=some (v',H')∧Owns n H0 H' (vs.set i v') (ls.set i (ls.getD i []++[x]))∧H.length≤H'.length:=by
  obtain ⟨v',H',a1,a2,a3,a4,a5,a6⟩:=(h.at' i hi).appendF (lim:=lim) (x:=x) ⟨hn.1,hn.2.2⟩ hl
  have hlen:=h.len
  have other:∀j,j<ls.length→j≠i→∀b o m z,vs.getD j dv=.sl b o m z→b<H.length∧∀o z y,vs.getD i dv≠.sl b o z y:=fun j hj hne b o m z e =>
    ⟨((h.at' j hj).belowB _ _ _ _ e).2,fun o' z' y' e'=>h.ap i j hi hj (fun q=>hne q.symm) _ _ _ _ _ _ _ e' e⟩
  refine ⟨v',H',a1,⟨a3 _ h.hx hn.2.1,by simp [hlen],fun j hj => ?_,fun j k hj hk hjk b o z y o' z' y' e e' => ?_⟩,a4⟩
  · rw [List.length_set] at hj
    rw [getD_setX (by omega),getD_setX (by omega)]
    by_cases e:j=i
    · rw [if_pos e,if_pos e];exact a2
    · rw [if_neg e,if_neg e]
      exact (h.at' j hj).keepB fun b o m z q=>a5 b (other j hj e b o m z q).1 (other j hj e b o m z q).2
  · rw [List.length_set] at hj hk
    rw [getD_setX (by omega)] at e e'
    by_cases ej:j=i
    · rw [if_pos ej] at e
      rw [if_neg (by omega)] at e'
      have:=a6 _ _ _ _ e
      have:=((h.at' k hk).belowB _ _ _ _ e').2
      omega
    · rw [if_neg ej] at e
      by_cases ek:k=i
      · rw [if_pos ek] at e'
        have:=a6 _ _ _ _ e'
        have:=((h.at' j hj).belowB _ _ _ _ e).2
        omega
      · rw [if_neg ek] at e'
        exact h.ap j k hj hk hjk _ _ _ _ _ _ _ e e'
theorem Owns.put (h:Owns n H0 H vs ls) {i:Nat} (hi:i<ls.length) {l':List Int} (hl:l'.length=(ls.getD i []).length) (hn:H0.length≤n):Owns n H0 (setH H (vs.getD i dv) (ints l')) vs (ls.set i l') where
  hx:=setH_X h.hx (h.at' i hi) hn
  len:=by simp [h.len]
  at' := fun j hj=>by
    rw [List.length_set] at hj
    rw [getD_setX hi]
    by_cases e:j=i
    · subst e;rw [if_pos rfl];exact (h.at' j hi).put hl
    · rw [if_neg e]
      refine (h.at' j hj).keepB fun b o m z q => ?_
      have hap:=h.ap i j hi hj (fun q=>e q.symm)
      cases hv:vs.getD i dv with
      | sl b' o' m' z' =>
        simp only [setH]
        rw [List.getElem?_set_ne]
        rintro rfl
        exact hap _ _ _ _ _ _ _ hv q
      | _=>rfl
  ap:=fun j k hj hk=>by
    rw [List.length_set] at hj hk
    exact h.ap j k hj hk
theorem Owns.grow (h:Owns n H0 H vs ls)(hx:HX H H'):Owns n H0 H' vs ls:=⟨h.hx.trans hx,h.len,fun i hi=>(h.at' i hi).mono hx,h.ap⟩
end
theorem rd5_0 {x y z u w:V}:rd none [x,y,z,u,w] 0=some x:=Eq.trans rfl rfl
theorem rd5_1 {x y z u w:V}:rd none [x,y,z,u,w] 1=some y:=Eq.trans rfl rfl
theorem rd5_2 {x y z u w:V}:rd none [x,y,z,u,w] 2=some z:=Eq.trans rfl rfl
theorem rd5_3 {x y z u w:V}:rd none [x,y,z,u,w] 3=some u:=Eq.trans rfl rfl
theorem rd5_4 {x y z u w:V}:rd none [x,y,z,u,w] 4=some w:=Eq.trans rfl rfl
theorem rdA5 {x y z u w:V}:rd (some 5) [x,y,z,u,w] 0=some (.agg [x,y,z,u,w]):=Eq.trans rfl rfl
def upM (g:Nat→Int)(m:Nat):List Int:=(List.range m).map g
theorem upM_snoc {g:Nat→Int}{m:Nat}:upM g (m+1)=upM g m++[g m]:=by simp [upM,List.range_succ]
theorem upM_len {g:Nat→Int}{m:Nat}:(upM g m).length=m:=by simp [upM]
theorem upM_get {g:Nat→Int}{m i:Nat}(h:i<m):(upM g m).getD i 0=g i:=getD_map_range h
def ptL (L:List (Nat×Nat))(i:Nat):Int:=if alf L i=i then -1 else (alf L i:Nat)
theorem ptL_nil {i:Nat}:ptL [] i = -1:=by simp [ptL,alf]
theorem pt_seam {P:List Pc}{L:List (Nat×Nat)}{a b:Nat}(h:SmOk (nsN P) ((a,b) :: L)):((upM (ptL L) (nsN P)).set a (b:Nat)).set b (a:Nat)=upM (ptL ((a,b) :: L)) (nsN P):=by
  have hab:a≠b:=by cases h with | cons _ _ _ h3 _=>exact h3
  have ha:a<nsN P:=by cases h with | cons _ h1 _ _ _=>exact h1
  have hb:b<nsN P:=by cases h with | cons _ _ h2 _ _=>exact h2
  refine ext_getDA (by simp [upM_len]) fun k hk => ?_
  have hk':k<nsN P:=by simpa [upM_len] using hk
  have hco:=alf_cons (c:=k) h
  simp only at hco
  rw [getD_setX (by simp [upM_len];exact hb),getD_setX (by simp [upM_len];exact ha)]
  show _=(upM (ptL ((a,b) :: L)) (nsN P)).getD k 0
  rw [upM_get hk',ptL,hco]
  by_cases e1:k=a
  · subst e1
    rw [if_neg hab,if_pos rfl,if_pos rfl,if_neg (fun e=>hab e.symm)]
  · by_cases e2:k=b
    · subst e2
      rw [if_pos rfl,if_neg e1,if_pos rfl,if_neg (fun e=>e1 e.symm)]
    · rw [if_neg e2,if_neg e1,if_neg e1,if_neg e2]
      show (upM (ptL L) (nsN P)).getD k 0=_
      rw [upM_get hk'];rfl
structure NetV (H:Hp)(vs:List V)(c:Cp):Prop where
  ex:∃a b p x q,vs=[a,b,p,x,q]∧SlV H a (upM (lnN c.P) (nsN c.P))∧SlV H b (upM (anN c.P) (nsN c.P))∧SlV H p (upM (fun i=>(pcN c.P i:Nat)) (nsN c.P))∧SlV H x (upM (fun i=>(nxN c.P i:Nat)) (nsN c.P))∧SlV H q (upM (ptL (lsN c)) (nsN c.P))
section
variable {n lim:Nat}{H H0 H':Hp}{K:V→Hp→Prop}{v:V}{ws vs:List V}{c:Cp}
theorem NetV.mono (hx:HX H H')(h:NetV H vs c):NetV H' vs c:=by
  obtain ⟨a,b,p,x,q,e,h1,h2,h3,h4,h5⟩:=h.ex
  exact ⟨a,b,p,x,q,e,h1.mono hx,h2.mono hx,h3.mono hx,h4.mono hx,h5.mono hx⟩
def netL (P:List Pc)(L:List (Nat×Nat))(m:Nat)(f:List Int):List (List Int):=[upM (lnN P) m,upM (anN P) m,upM (fun i=>(pcN P i:Nat)) m,upM (fun i=>(nxN P i:Nat)) m,upM (ptL L) m,f]
theorem r02_open (hc:CapV H ws c) (hok:CapOk c) (hlim:lim≤H.length) (hK:∀H' vs,HX H H'→NetV H' vs c→K (.agg vs) H'):VCall tbl lim 60 [.agg ws] H K:=by
  cases hc with
  | mk hp hsv =>
  rename_i pv sv ps P S e
  refine VCall_fn tbl_at60 rfl ?_
  have hnp:=hok.np
  have hns:=hok.ns
  simp only at hnp hns
  have hsl:=ls_bd hok
  simp only at hsl
  have hks:∀q,q<P.length→3≤ksN P q∧ksN P q≤6:=fun q hq=>hok.ks hq
  have hof:∀q,q≤P.length→offN P q≤48:=fun q hq=>by have:=off_mono (pcs:=P) hq;unfold nsN at hns;omega
  simp [vf60,rd0,rd1',rd2',hp.lst.stor,hp.lst.one,hsv.stor,hsv.one,hp.vlen]
  refine wLoop_up P.length (fun i fr L H'=>∃va vb vp vx vq fv X,(fr 1=.lp 0 0∧fr 2=.lp 1 0∧fr 3=.lp 2 0∧fr 4=fv∧fr 5=.int .i64 i)∧L=[pv,sv,.int .i64 e] :: [.snil,.snil,.snil,.snil,.snil] :: [va,vb,vp,vx,vq] :: X∧Owns H.length H H' [va,vb,vp,vx,vq,fv] (netL P [] (offN P i) (offL P i))) ⟨.snil,.snil,.snil,.snil,.snil,.snil,[],by simp,by simp,⟨.refl,rfl,fun i hi => ?_,fun i j hi hj _ b o z y o' z' y' e _ => ?_⟩⟩ ?_
  · have:i=0∨i=1∨i=2∨i=3∨i=4∨i=5:=by simp [netL] at hi;omega
    rcases this with h | h | h | h | h | h<;>subst h<;>exact .nil
  · have:i=0∨i=1∨i=2∨i=3∨i=4∨i=5:=by simp [netL] at hi;omega
    rcases this with h | h | h | h | h | h<;>subst h<;>cases e
  rintro i hi fr L H1 ⟨va,vb,vp,vx,vq,fv,X,⟨f1,f2,f3,f4,f5⟩,rfl,hS⟩
  simp [f1,f2,f3,f4,f5,rd0,hp.vlen]
  have x1:HX H H1:=hS.hx
  have l1:=x1.len
  refine cond_dec (fun ht => ?_) fun hfl => ?_
  · have ht:i<P.length:=by omega
    have hp1:=hp.mono x1
    obtain ⟨s1,s2⟩:=hp1.at' i ht
    have hpo:=hok.pc i ht
    obtain ⟨g1,g2,g3,g4⟩:=piece_ok hpo
    simp only at g1 g2 g3 g4
    have hki:=hks i ht
    have hoi:=hof i (by omega)
    have ksd:ksN P i=(P.getD i default).s.length:=rfl
    have hl0:vlenS va=some (.int .i64 (offN P i)):=by
      have:vlenS va=some (.int .i64 ((upM (lnN P) (offN P i)).length:Nat)):=(hS.at' 0 (by simp [netL])).sl.len
      rw [upM_len] at this;exact this
    obtain ⟨fv2,H2,b1,hS2,l2⟩:=hS.push (lim:=lim) (i:=5) (by simp [netL]) (x:=(offN P i:Int)) ⟨hlim,Nat.le_refl _,by omega⟩ (by
      simp only [netL,List.getD_cons_succ,List.getD_cons_zero,offL_len];omega)
    simp only [List.getD_cons_succ,List.getD_cons_zero] at b1
    have x2:HX H H2:=hS2.hx
    simp [f1,f2,f3,f4,f5,hp1.at ht,hp1.ld2 ht,rd0,rd1',rd2',rdA2,splice,lastO,lastS,s1.stor,s1.one,s2.stor,s2.one,s1.len,hl0,b1]
    refine wLoop_up (ksN P i) (fun j fr L' H'=>∃va vb vp vx vq,(fr 1=.lp 0 0∧fr 2=.lp 1 0∧fr 3=.lp 2 0∧fr 4=fv2∧fr 5=.int .i64 i∧fr 6=.lp (X.length+3) 0∧fr 7=.int .i64 (offN P i)∧fr 8=.int .i64 j)∧L'=[pv,sv,.int .i64 e] :: [.snil,.snil,.snil,.snil,.snil] :: [va,vb,vp,vx,vq] :: (X++[[(ps.getD i default).1,(ps.getD i default).2]])∧Owns H.length H H' [va,vb,vp,vx,vq,fv2] (netL P [] (offN P i+j) (offL P i++[(offN P i:Int)]))) ⟨va,vb,vp,vx,vq,by simp [f1,f2,f3,f4,f5],rfl,hS2⟩ ?_
    clear f1 f2 f3 f4 f5 hl0 hS hS2 b1 hi x2 l2 fr
    rintro j hj fr L' H3 ⟨va,vb,vp,vx,vq,⟨f1,f2,f3,f4,f5,f6,f7,f8⟩,rfl,hS3⟩
    have x3:HX H H3:=hS3.hx
    have l3:=x3.len
    have hp3:=hp.mono x3
    obtain ⟨t1,t2⟩:=hp3.at' i ht
    simp [f1,f2,f3,f4,f5,f6,f7,f8,lastO,rd0,rd1',t1.len,←ksd]
    refine cond_dec (fun hjt => ?_) fun hjf => ?_
    · have hjt:j<ksN P i:=by omega
      have n0:∀k,k<5→((netL P [] (offN P i+j) (offL P i++[(offN P i:Int)])).getD k []).length<1000000:=by
        intro k hk
        have:k=0∨k=1∨k=2∨k=3∨k=4:=by omega
        rcases this with h | h | h | h | h<;>subst h<;>simp only [netL,List.getD_cons_succ,List.getD_cons_zero,upM_len]<;>omega
      have aa:=t1.addr (i:=(j:Int)) (by rw [←ksd];omega)
      simp only [Int.toNat_natCast] at aa
      have la:=fun L=>t1.load (i:=j) (by rw [←ksd];omega) (L:=L)
      obtain ⟨v0,H4,c0,hS4,l4⟩:=hS3.push (lim:=lim) (i:=0) (by simp [netL]) (x:=lnN P (offN P i+j)) ⟨hlim,Nat.le_refl _,by omega⟩ (n0 0 (by omega))
      have x4:HX H H4:=hS4.hx
      obtain ⟨_,u2⟩:=(hp.mono x4).at' i ht
      have ab:=u2.addr (i:=(j:Int)) (by rw [g2,←ksd];omega)
      simp only [Int.toNat_natCast] at ab
      have lb:=fun L=>u2.load (i:=j) (by rw [g2,←ksd];omega) (L:=L)
      rw [←ln_at ht hjt] at la
      rw [←an_at ht hjt] at lb
      obtain ⟨v1,H5,c1,hS5,l5⟩:=hS4.push (lim:=lim) (i:=1) (by simp [netL]) (x:=anN P (offN P i+j)) ⟨hlim,Nat.le_refl _,by omega⟩ (n0 1 (by omega))
      obtain ⟨v2,H6,c2,hS6,l6⟩:=hS5.push (lim:=lim) (i:=2) (by simp [netL]) (x:=(i:Int)) ⟨hlim,Nat.le_refl _,by omega⟩ (n0 2 (by omega))
      obtain ⟨v4,H7,c4,hS7,l7⟩:=hS6.push (lim:=lim) (i:=4) (by simp [netL]) (x:=(-1:Int)) ⟨hlim,Nat.le_refl _,by omega⟩ (n0 4 (by omega))
      have x7:HX H H7:=hS7.hx
      have hl7:=((hp.mono x7).at' i ht).1.len
      have e1:((j:Int)+1).tmod (ksN P i:Int)=(((j+1) % ksN P i:Nat):Int):=tmod_nat (j+1) (ksN P i)
      have m1:(j+1) % ksN P i<ksN P i:=Nat.mod_lt _ (by omega)
      have hnx:((offN P i:Int)+((j+1) % ksN P i:Nat))=(nxN P (offN P i+j):Nat):=by rw [nx_at ht hjt];omega
      obtain ⟨v3,H8,c3,hS8,l8⟩:=hS7.push (lim:=lim) (i:=3) (by simp [netL]) (x:=(nxN P (offN P i+j):Nat)) ⟨hlim,Nat.le_refl _,by omega⟩ (n0 3 (by omega))
      have hnl:nxN P (offN P i+j)<1000:=by
        have:=nx_pr.lt (offN P i+j) (off_lt (p:=P.length) ht hjt)
        omega
      simp only [List.getD_cons_succ,List.getD_cons_zero,List.set] at c0 c1 c2 c3 c4
      have z0:stor v0=true∧cellsV v0=[v0]:=⟨(hS8.at' 0 (by simp [netL])).sl.stor,(hS8.at' 0 (by simp [netL])).sl.one⟩
      have z1:stor v1=true∧cellsV v1=[v1]:=⟨(hS8.at' 1 (by simp [netL])).sl.stor,(hS8.at' 1 (by simp [netL])).sl.one⟩
      have z2:stor v2=true∧cellsV v2=[v2]:=⟨(hS8.at' 2 (by simp [netL])).sl.stor,(hS8.at' 2 (by simp [netL])).sl.one⟩
      have z3:stor v3=true∧cellsV v3=[v3]:=⟨(hS8.at' 3 (by simp [netL])).sl.stor,(hS8.at' 3 (by simp [netL])).sl.one⟩
      have z4:stor v4=true∧cellsV v4=[v4]:=⟨(hS8.at' 4 (by simp [netL])).sl.stor,(hS8.at' 4 (by simp [netL])).sl.one⟩
      have hne:(ksN P i:Int)≠0:=by omega
      have hvr:∀a:Int,vbin .rem (.int .i64 a) (.int .i64 (ksN P i:Int))=some (.int .i64 (a.tmod (ksN P i:Int))):=fun a=>vbin_rem hne
      rw [←ksd] at hl7
      generalize hm1:(j+1) % ksN P i=r1 at *
      generalize hqn:nxN P (offN P i+j)=q1 at *
      simp (disch:=omega) [f1,f2,f3,f4,f5,f6,f7,f8,rd0,rd1',rd2',rd3',lastO,aa,ab,la,lb,wrap_i64,hvr,e1,hnx,splice,zs5,c0,c1,c2,c3,c4,hl7,isLp_ept,z0,z1,z2,z3,z4,rd5_0,rd5_1,rd5_2,rd5_3,rd5_4]
      refine ⟨hjt,v0,v1,v2,v3,v4,⟨rfl,rfl,rfl,rfl,rfl⟩,?_⟩
      have key:netL P [] (offN P i+(j+1)) (offL P i++[(offN P i:Int)])=[upM (lnN P) (offN P i+j)++[lnN P (offN P i+j)],upM (anN P) (offN P i+j)++[anN P (offN P i+j)],upM (fun i=>(pcN P i:Nat)) (offN P i+j)++[(i:Int)],upM (fun i=>(nxN P i:Nat)) (offN P i+j)++[(q1:Int)],upM (ptL []) (offN P i+j)++[-1],offL P i++[(offN P i:Int)]]:=by
        rw [←Nat.add_assoc]
        simp only [netL,upM_snoc,pc_at ht hjt,hqn,ptL_nil]
      rw [key]
      exact hS8
    · have:j=ksN P i:=by omega
      subst this
      simp (disch:=omega) [f1,f2,f3,f4,f5,f6,f7,f8,wrap_i64]
      exact ⟨ht,va,vb,vp,vx,vq,⟨rfl,rfl,rfl,rfl,rfl⟩,by rw [offL_snoc];exact hS3⟩
  · have:i=P.length:=by omega
    subst this
    simp [f1,f2,f3,f4,f5,rd1',hsv.len]
    refine wLoop_up S.length (fun i fr L H'=>∃X,(fr 1=.lp 0 0∧fr 2=.lp 1 0∧fr 3=.lp 2 0∧fr 4=fv∧fr 9=.int .i64 i)∧L=[pv,sv,.int .i64 e] :: [.snil,.snil,.snil,.snil,.snil] :: [va,vb,vp,vx,vq] :: X∧Owns H.length H H' [va,vb,vp,vx,vq,fv] (netL P (prL P (S.take i)) (nsN P) (offL P P.length))) ⟨X,by simp [f1,f2,f3,f4],rfl,by
      have e0:prL P (S.take 0)=[]:=by simp [prL]
      rw [e0];exact hS⟩ ?_
    clear f1 f2 f3 f4 f5 hS hi fr hfl
    rintro i hi fr L H3 ⟨X,⟨f1,f2,f3,f4,f9⟩,rfl,hS3⟩
    have x3:HX H H3:=hS3.hx
    have l3:=x3.len
    simp [f1,f2,f3,f4,f9,rd1',hsv.len]
    refine cond_dec (fun ht => ?_) fun hfl => ?_
    · have ht:i<S.length:=by omega
      have hs3:=hsv.mono x3
      have ld:=fun L=>hs3.load ht (L:=L)
      have hso:=hok.sm i ht
      have hpl:prL P (S.take (i+1))=prS P (S.getD i default) :: prL P (S.take i):=by
        rw [take_next ht,prL,List.map_append,List.reverse_append];rfl
      have hsk:=seams_ok hok (n:=i+1) ht
      simp only at hsk
      rw [hpl] at hsk ⊢
      simp only at hso
      generalize hs:S.getD i default=s at ld hso hsk ⊢
      have ec:smC.cells s=[.int .i64 s.A,.int .i64 s.I,.int .i64 s.B,.int .i64 s.J]:=rfl
      rw [ec] at ld
      obtain ⟨⟨q1,q2⟩,_,_,_⟩:=seam_ok hso
      obtain ⟨a1,a2,a3,a4⟩:=sd_ok q1
      obtain ⟨b1,b2,b3,b4⟩:=sd_ok q2
      have oa:=hof s.A.toNat (by omega)
      have ob:=hof s.B.toNat (by omega)
      have ka:=hks _ a1
      have kb:=hks _ b1
      have ofv:SlV H3 fv (offL P P.length):=(hS3.at' 5 (by simp [netL])).sl
      have aa:=ofv.addr (i:=s.A) (by rw [offL_len];omega)
      have ab:=ofv.addr (i:=s.B) (by rw [offL_len];omega)
      have la:=fun L=>ofv.load (i:=s.A.toNat) (by rw [offL_len];omega) (L:=L)
      have lb:=fun L=>ofv.load (i:=s.B.toNat) (by rw [offL_len];omega) (L:=L)
      rw [offL_get a1] at la
      rw [offL_get b1] at lb
      have hsk2:=hsk
      generalize hab:prS P s=ab' at hsk hsk2 ⊢
      obtain ⟨a,b⟩:=ab'
      simp only [prS,Prod.mk.injEq] at hab
      cases hsk2 with
      | cons _ h1 h2 h3 h4 =>
      simp only at h1 h2 h3
      have ea:(offN P s.A.toNat:Int)+s.I=(a:Nat):=by omega
      have eb:(offN P s.B.toNat:Int)+s.J=(b:Nat):=by omega
      have wa:IntKind.wrap .i64 (a:Int)=(a:Int):=wrap_i64 (by omega) (by omega)
      have wb:IntKind.wrap .i64 (b:Int)=(b:Int):=wrap_i64 (by omega) (by omega)
      have oq:OwnV H.length H3 vq (upM (ptL (prL P (S.take i))) (nsN P)):=hS3.at' 4 (by simp [netL])
      have ga:=oq.sl.addr (i:=(a:Int)) (by rw [upM_len];omega)
      have gb:=oq.sl.addr (i:=(b:Int)) (by rw [upM_len];omega)
      simp only [Int.toNat_natCast] at ga gb
      have st1:=fun L=>oq.store (lim:=lim) (i:=a) (x:=(b:Int)) (L:=L) ⟨hlim,by rw [upM_len];exact h1⟩
      have hS4:=hS3.put (i:=4) (by simp [netL]) (l':=(upM (ptL (prL P (S.take i))) (nsN P)).set a (b:Int)) (by rw [List.length_set];rfl) (Nat.le_refl _)
      have oq4:OwnV H.length (setH H3 vq (ints ((upM (ptL (prL P (S.take i))) (nsN P)).set a (b:Int)))) vq ((upM (ptL (prL P (S.take i))) (nsN P)).set a (b:Int)):=oq.put (by simp)
      have st2:=fun L=>oq4.store (lim:=lim) (i:=b) (x:=(a:Int)) (L:=L) ⟨hlim,by rw [List.length_set,upM_len];exact h2⟩
      have hS5:=hS4.put (i:=4) (by simp [netL]) (l':=((upM (ptL (prL P (S.take i))) (nsN P)).set a (b:Int)).set b (a:Int)) (by rw [List.length_set];rfl) (Nat.le_refl _)
      rw [pt_seam hsk] at hS5 st2
      have ls:vstore lim ([pv,sv,.int .i64 e] :: [.snil,.snil,.snil,.snil,.snil] :: [va,vb,vp,vx,vq] :: (X++[[.int .i64 0,.int .i64 0,.int .i64 0,.int .i64 0]])) H3 (.lp (X.length+3) 0) (.agg [.int .i64 s.A,.int .i64 s.I,.int .i64 s.B,.int .i64 s.J]) 4=some ([pv,sv,.int .i64 e] :: [.snil,.snil,.snil,.snil,.snil] :: [va,vb,vp,vx,vq] :: (X++[[.int .i64 s.A,.int .i64 s.I,.int .i64 s.B,.int .i64 s.J]]),H3):=by simp [vstore,splice]
      have ip1:=oq.isP (i:=a) (by rw [upM_len];exact h1)
      have ip2:=oq.isP (i:=b) (by rw [upM_len];exact h2)
      have r4:∀{x y z u w:V},rd none [x,y,z,u,w] 4=some w:=fun {x y z u w}=>Eq.trans rfl rfl
      simp (disch:=omega) [f1,f2,f3,f4,f9,hs3.at ht,ld,zs4,spl4,splice,lastO,lastS,rd0,rd1',rd2',rd3',r4,aa,ab,la,lb,ea,eb,wa,wb,ga,gb,st1,st2,ls,ip1,ip2,-vstore,wrap_i64]
      exact ⟨ht,hS5⟩
    · have:i=S.length:=by omega
      subst this
      rw [List.take_length] at hS3
      have s0:=(hS3.at' 0 (by simp [netL])).sl
      have s1:=(hS3.at' 1 (by simp [netL])).sl
      have s2:=(hS3.at' 2 (by simp [netL])).sl
      have s3:=(hS3.at' 3 (by simp [netL])).sl
      have s4:=(hS3.at' 4 (by simp [netL])).sl
      have r5:∀{x y z u w:V},rd (some 5) [x,y,z,u,w] 0=some (.agg [x,y,z,u,w]):=fun {x y z u w}=>Eq.trans rfl rfl
      simp [f2,f3,splice,r5]
      exact hK _ _ x3 ⟨_,_,_,_,_,rfl,s0,s1,s2,s3,s4⟩
end
end Go.Proofs.Ytclghkegfpcdpaa.Vm
namespace Go.Proofs.Ytclghkegfpcdpaa.Vm
open Go
set_option maxRecDepth 100000
set_option maxHeartbeats 1000000
set_option linter.unusedSimpArgs false
set_option linter.unusedVariables false
attribute [-simp] List.getD_eq_getElem?_getD Bool.exists_bool
section
variable {n lim:Nat}{H H0 H':Hp}{K:V→Hp→Prop}{v:V}{ws vs:List V}{c:Cp}{s:Nat}
theorem SlV.up {g:Nat→Int}{m:Nat}(h:SlV H v (upM g m)){i:Nat}(hi:i<m):viaddrS 1 v (.int .i64 (i:Int))=some (ept 1 v i)∧∀L,vload none L H (ept 1 v i)=some (.int .i64 (g i)):=by
  have a:=h.addr (i:=(i:Int)) (by rw [upM_len];omega)
  rw [Int.toNat_natCast] at a
  refine ⟨a,fun L => ?_⟩
  rw [h.load (by rw [upM_len];exact hi),upM_get hi]
theorem bf_last (hok:CapOk c)(hs:s<nsN c.P):∃m,perN (nsN c.P) (nxN c.P) s=m+1∧itN (nxN c.P) m s=bfN c.P s:=by
  obtain ⟨p1,⟨p2,p3⟩,p4⟩:=per_spec (nx_pr (pcs:=c.P)) hs
  obtain ⟨b1,b2⟩:=nx_bf hs
  refine ⟨perN (nsN c.P) (nxN c.P) s-1,by omega,?_⟩
  refine nx_pr.inj _ _ (nx_pr.it hs _) b2 ?_
  rw [b1]
  have:perN (nsN c.P) (nxN c.P) s=perN (nsN c.P) (nxN c.P) s-1+1:=by omega
  rw [this] at p3
  exact p3
theorem r02_previous (hn:NetV H vs c) (hok:CapOk c) (hs:s<nsN c.P) (hK:K (.int .i64 (bfN c.P s:Nat)) H):VCall tbl lim 91 [.agg vs,.int .i64 s] H K:=by
  obtain ⟨va,vb,vp,vx,vq,rfl,h1,h2,h3,h4,h5⟩:=hn.ex
  refine VCall_fn tbl_at91 rfl ?_
  obtain ⟨m,e1,e2⟩:=bf_last hok hs
  obtain ⟨p1,⟨p2,p3⟩,p4⟩:=per_spec (nx_pr (pcs:=c.P)) hs
  rw [e1] at p3 p4
  simp [vf91]
  refine wLoop_up m (fun k fr L H'=>(fr 1=.int .i64 s∧fr 2=.lp 0 0∧fr 5=.int .i64 (itN (nxN c.P) k s:Nat))∧L=[[va,vb,vp,vx,vq]]∧H'=H) ⟨by simp [itN],rfl,rfl⟩ ?_
  rintro k hk fr L H1 ⟨⟨f1,f2,f5⟩,rfl,rfl⟩
  have hq:=(nx_pr (pcs:=c.P)).it hs k
  obtain ⟨a1,l1⟩:=h4.up hq
  have e3:nxN c.P (itN (nxN c.P) k s)=itN (nxN c.P) (k+1) s:=rfl
  simp only [e3] at l1
  have hne:k<m→itN (nxN c.P) (k+1) s≠s:=fun h e=>p4 (k+1) (by omega) ⟨by omega,e⟩
  generalize hx:itN (nxN c.P) (k+1) s=x at *
  simp [f1,f2,f5,rd5_3,a1,l1]
  refine cond_ndec (fun ht => ?_) fun hf => ?_
  · have hlt:k<m:=by
      rcases Nat.lt_or_ge k m with h | h
      · exact h
      · exfalso;apply ht
        have:k=m:=by omega
        subst this
        rw [←hx,p3]
    simp [f1,f2,f5,rd5_3,a1,l1]
    exact hlt
  · have:k=m:=by
      apply Classical.byContradiction
      intro hn
      exact hne (by omega) (by omega)
    subst this
    simp [f1,f2,f5,rd5_3,a1,l1]
    rw [e2];exact hK
theorem natL_get {l:List Nat}{i:Nat}:(natL l).getD i 0=(l.getD i 0:Nat):=by
  unfold natL
  simp only [List.getD_eq_getElem?_getD,List.getElem?_map]
  cases l[i]? <;> rfl
theorem natL_set {l:List Nat}{i x:Nat}:(natL l).set i (x:Int)=natL (l.set i x):=by
  unfold natL;rw [List.map_set]
def PassM (c:Cp)(l0:List Nat)(a:Nat)(ag:Bool)(l:List Nat):Prop:=(ag=true∧l.sum<l0.sum)∨(ag=false∧l=l0∧∀i,i<a→alf (lsN c) i≠i→l.getD i 0=l.getD (nuP c i) 0)
def FixM (c:Cp)(ag:Bool)(l:List Nat):Prop:=ag=true∨∀i,i<nsN c.P→alf (lsN c) i≠i→l.getD i 0=l.getD (nuP c i) 0
def sumB (ag:Bool)(l:List Nat):Nat:=l.sum+if ag then 1 else 0
theorem r02_meets (hn:NetV H vs c) (hok:CapOk c) (hlim:lim≤H.length) (hK:∀H' v l,HX H H'→OwnV H.length H' v (natL l)→l.length=nsN c.P→(∀i,i<nsN c.P→l.getD i 0=lowE (PtR c) i)→K v H'):VCall tbl lim 90 [.agg vs] H K:=by
  obtain ⟨va,vb,vp,vx,vq,rfl,h1,h2,h3,h4,h5⟩:=hn.ex
  have hns:=hok.ns
  have hnu:=hok.nu
  have hsm:=hok.sm_ok
  refine VCall_fn tbl_at90 rfl ?_
  have len1:∀{H1:Hp},HX H H1→vlenS va=some (.int .i64 (nsN c.P)):=fun x=>by rw [h1.len,upM_len]
  simp [vf90]
  refine wLoop_up (nsN c.P) (fun i fr L H'=>∃v,(fr 1=.lp 0 0∧fr 3=v∧fr 4=.int .i64 i)∧L=[[va,vb,vp,vx,vq]]∧HX H H'∧OwnV H.length H' v (natL (List.range i))) ⟨.snil,by simp,rfl,.refl,.nil⟩ ?_
  rintro i hi fr L H1 ⟨v,⟨f1,f3,f4⟩,rfl,x1,o1⟩
  have hl0:=len1 x1
  simp [f1,f3,f4,rd5_0,hl0]
  refine cond_dec (fun ht => ?_) fun hfl => ?_
  · have ht:i<nsN c.P:=by omega
    have l1:=x1.len
    obtain ⟨v2,H2,b1,b2,b3,b4,_⟩:=o1.appendF (lim:=lim) (x:=(i:Int)) ⟨hlim,by omega⟩ (by simp [natL];omega)
    simp (disch:=omega) [f1,f3,f4,splice,b1,wrap_i64]
    refine ⟨ht,b3 _ x1 (Nat.le_refl _),?_⟩
    have:natL (List.range (i+1))=natL (List.range i)++[(i:Int)]:=by simp [natL,List.range_succ]
    rw [this];exact b2
  · have:i=nsN c.P:=by omega
    subst this
    simp [f1,f3,f4]
    refine wLoop_m (n:=sumB true (List.range (nsN c.P))) (fun k fr L H'=>∃l ag,(fr 1=.lp 0 0∧fr 3=v∧fr 5=.bool ag)∧L=[[va,vb,vp,vx,vq]]∧HX H H'∧OwnV H.length H' v (natL l)∧LowM (PtR c) (nsN c.P) l∧k=sumB ag l∧FixM c ag l) ⟨List.range (nsN c.P),true,by simp [f1,f3],rfl,x1,o1,LowM.start hok.ptE,rfl,Or.inl rfl⟩ ?_
    clear f1 f3 f4 o1 x1 hi hfl hl0 fr
    rintro k fr L H2 ⟨l,ag,⟨f1,f3,f5⟩,rfl,x2,o2,hl,rfl,hfix⟩
    simp [f1,f3,f5]
    refine cond_bool (fun ht => ?_) fun hf => ?_
    · subst ht
      clear hfix
      simp [f1,f3,f5]
      refine wLoop_up (nsN c.P) (fun a fr L H'=>∃l' ag,(fr 1=.lp 0 0∧fr 3=v∧fr 5=.bool ag∧fr 6=.int .i64 a)∧L=[[va,vb,vp,vx,vq]]∧HX H H'∧OwnV H.length H' v (natL l')∧LowM (PtR c) (nsN c.P) l'∧PassM c l a ag l') ⟨l,false,by simp [f1,f3],rfl,x2,o2,hl,Or.inr ⟨rfl,rfl,fun i h=>absurd h (by omega)⟩⟩ ?_
      clear f1 f3 f5 o2 x2 fr
      rintro a ha fr L H3 ⟨l',ag,⟨f1,f3,f5,f6⟩,rfl,x3,o3,hl',hp⟩
      have l3:=x3.len
      have hlen:(natL l').length=nsN c.P:=by simp [natL,hl'.len]
      have hl3:vlenS v=some (.int .i64 (nsN c.P)):=by rw [o3.sl.len,hlen]
      simp [f1,f3,f5,f6,hl3]
      refine cond_dec (fun ht => ?_) fun hf => ?_
      · have ht:a<nsN c.P:=by omega
        have q5:=(h5.mono x3).up ht
        by_cases hfr:alf (lsN c) a=a
        · have e5:ptL (lsN c) a = -1:=by rw [ptL,if_pos hfr]
          rw [e5] at q5
          simp (disch:=omega) [f1,f3,f5,f6,rd5_4,q5.1,q5.2,wrap_i64]
          refine ⟨ht,x3,l',o3,hl',?_⟩
          rcases hp with ⟨p1,p2⟩ | ⟨p1,p2,p3⟩
          · exact Or.inl ⟨p1,p2⟩
          · refine Or.inr ⟨p1,p2,fun i hi hne => ?_⟩
            by_cases e:i=a
            · subst e;exact absurd hfr hne
            · exact p3 i (by omega) hne
        · have e5:ptL (lsN c) a=(alf (lsN c) a:Nat):=by rw [ptL,if_neg hfr]
          have hal:=hsm.pr.lt a ht
          have hb:nuP c a<nsN c.P:=hnu.lt a ht
          have q4:=(h4.mono x3).up hal
          have e4:(nxN c.P (alf (lsN c) a):Int)=(nuP c a:Nat):=rfl
          rw [e5] at q5
          simp only [e4] at q4
          have hstep:=ptE_step hnu ht hfr
          have g1:=o3.sl.addr (i:=(a:Int)) (by rw [hlen];omega)
          have g2:=o3.sl.addr (i:=((nuP c a:Nat):Int)) (by rw [hlen];omega)
          simp only [Int.toNat_natCast] at g1 g2
          have d1:=fun L=>o3.sl.load (i:=a) (by rw [hlen];exact ht) (L:=L)
          have d2:=fun L=>o3.sl.load (i:=nuP c a) (by rw [hlen];exact hb) (L:=L)
          simp only [natL_get] at d1 d2
          have hx1:=hl'.lt ht
          have hx2:=hl'.lt hb
          have hLn:l'.length=nsN c.P:=hl'.len
          have hS:LowM (PtR c) (nsN c.P) (lowS l' a (nuP c a)):=hl'.step hok.ptE ht hb hstep
          have hsum:l'.getD a 0≠l'.getD (nuP c a) 0→(lowS l' a (nuP c a)).sum<l'.sum:=lowS_sum (by rw [hLn];exact ht) (by rw [hLn];exact hb)
          have st1:=fun L=>o3.store (lim:=lim) (i:=a) (x:=((min (l'.getD a 0) (l'.getD (nuP c a) 0):Nat):Int)) (L:=L) ⟨hlim,by rw [hlen];exact ht⟩
          have o4:OwnV H.length (setH H3 v (ints ((natL l').set a ((min (l'.getD a 0) (l'.getD (nuP c a) 0):Nat):Int)))) v ((natL l').set a ((min (l'.getD a 0) (l'.getD (nuP c a) 0):Nat):Int)):=o3.put (by simp)
          have x4:=setH_X x3 o3 (Nat.le_refl _) (cs:=ints ((natL l').set a ((min (l'.getD a 0) (l'.getD (nuP c a) 0):Nat):Int)))
          have st2:=fun L=>o4.store (lim:=lim) (i:=nuP c a) (x:=((min (l'.getD a 0) (l'.getD (nuP c a) 0):Nat):Int)) (L:=L) ⟨hlim,by rw [List.length_set,hlen];exact hb⟩
          have o5:=o4.put (l':=((natL l').set a ((min (l'.getD a 0) (l'.getD (nuP c a) 0):Nat):Int)).set (nuP c a) ((min (l'.getD a 0) (l'.getD (nuP c a) 0):Nat):Int)) (by simp)
          have x5:=setH_X x4 o4 (Nat.le_refl _) (cs:=ints (((natL l').set a ((min (l'.getD a 0) (l'.getD (nuP c a) 0):Nat):Int)).set (nuP c a) ((min (l'.getD a 0) (l'.getD (nuP c a) 0):Nat):Int)))
          have es:((natL l').set a ((min (l'.getD a 0) (l'.getD (nuP c a) 0):Nat):Int)).set (nuP c a) ((min (l'.getD a 0) (l'.getD (nuP c a) 0):Nat):Int)=natL (lowS l' a (nuP c a)):=by rw [natL_set,natL_set];rfl
          rw [es] at st2 o5 x5
          have em:min ((l'.getD a 0:Nat):Int) ((l'.getD (nuP c a) 0:Nat):Int)=((min (l'.getD a 0) (l'.getD (nuP c a) 0):Nat):Int):=by omega
          have hpass:l'.getD a 0=l'.getD (nuP c a) 0→PassM c l (a+1) ag l':=fun e=>by
            rcases hp with ⟨p1,p2⟩ | ⟨p1,p2,p3⟩
            · exact Or.inl ⟨p1,p2⟩
            · refine Or.inr ⟨p1,p2,fun i hi hne => ?_⟩
              by_cases e':i=a
              · subst e';exact e
              · exact p3 i (by omega) hne
          have hpass2:l'.getD a 0≠l'.getD (nuP c a) 0→PassM c l (a+1) true (lowS l' a (nuP c a)):=fun e=>by
            have:=hsum e
            rcases hp with ⟨p1,p2⟩ | ⟨p1,p2,p3⟩
            · exact Or.inl ⟨rfl,by omega⟩
            · exact Or.inl ⟨rfl,by rw [←p2];exact this⟩
          clear hp hsum
          generalize nuP c a=b at *
          generalize alf (lsN c) a=p at *
          generalize hm:min (l'.getD a 0) (l'.getD b 0)=m at *
          generalize lowS l' a b=l2 at *
          generalize hxa:l'.getD a 0=xa at *
          generalize hxb:l'.getD b 0=xb at *
          have dn:((p:Int)<0)=False:=eq_false (by omega)
          simp (disch:=omega) [f1,f3,f5,f6,rd5_3,rd5_4,q5.1,q5.2,q4.1,q4.2,g1,g2,d1,d2,dn,wrap_i64]
          refine cond_ndec (fun hne => ?_) fun heq => ?_
          · have hne:xa≠xb:=by omega
            simp (disch:=omega) [f1,f3,f5,f6,rd5_3,rd5_4,q5.1,q5.2,q4.1,q4.2,g1,g2,d1,d2,wrap_i64,em,st1,st2,-vstore]
            exact ⟨ht,x5,_,o5,hS,hpass2 hne⟩
          · have heq:xa=xb:=by omega
            simp (disch:=omega) [f1,f3,f5,f6,wrap_i64]
            exact ⟨ht,x3,_,o3,hl',hpass heq⟩
      · have:a=nsN c.P:=by omega
        subst this
        simp [f1,f3,f5,f6]
        rcases hp with ⟨p1,p2⟩ | ⟨p1,p2,p3⟩
        · exact ⟨sumB ag l',by rw [p1];simp only [sumB];simp;omega,x3,l',o3,hl',rfl,Or.inl p1⟩
        · exact ⟨sumB ag l',by rw [p1,p2];simp [sumB],x3,l',o3,hl',rfl,Or.inr p3⟩
    · subst hf
      simp [f1,f3,f5]
      rcases hfix with h | h
      · cases h
      · simp [o2.sl.stor]
        exact hK _ _ _ x2 o2 hl.len fun i hi=>low_points hok hl h hi
end
end Go.Proofs.Ytclghkegfpcdpaa.Vm
namespace Go.Proofs.Ytclghkegfpcdpaa.Vm
open Go
set_option maxRecDepth 100000
set_option maxHeartbeats 1000000
set_option linter.unusedSimpArgs false
set_option linter.unusedVariables false
attribute [-simp] List.getD_eq_getElem?_getD Bool.exists_bool
section
variable {c:Cp}{f i:Nat}
theorem memE_yes {E:Nat→Nat→Prop}{n d:Nat}(h:E d n):memE E (n+1) d=memE E n d++[n]:=by
  unfold memE
  rw [List.range_succ,List.filter_append]
  simp [h]
theorem memE_no {E:Nat→Nat→Prop}{n d:Nat}(h:¬E d n):memE E (n+1) d=memE E n d:=by
  unfold memE
  rw [List.range_succ,List.filter_append]
  simp [h]
theorem memE_low {E:Nat→Nat→Prop}{d:Nat}(h:LeE E d):memE E d d=[]:=by
  unfold memE
  rw [List.filter_eq_nil_iff]
  intro x hx
  simpa using h x (List.mem_range.1 hx)
def edgB (c:Cp)(d:Nat):Bool:=decide (alf (lsN c) d≠d)&&decide (alf (lsN c) (bfN c.P d)≠bfN c.P d)
noncomputable def innA (c:Cp)(f i:Nat):Bool:=(memE (PtR c) i f).all (edgB c)
noncomputable def sumA (c:Cp)(f i:Nat):Int:=((memE (PtR c) i f).map (anN c.P)).sum
theorem innA_all (hok:CapOk c)(hf:f<nsN c.P):innA c f (nsN c.P)=innB c f:=by
  rw [Bool.eq_iff_iff]
  unfold innA innB edgB
  simp only [List.all_eq_true,decide_eq_true_eq,Bool.and_eq_true,mem_memE]
  constructor
  · intro h d hd
    exact (h d ⟨ptE_lt hd hf,hd⟩).1
  · rintro h d ⟨hd,he⟩
    refine ⟨h d he,fun e => ?_⟩
    exact sta_free hok.nu hd ((sta_bf hok hd).1 e) ((InnN.iff hok.nu he).1 h)
theorem sumA_bd (hok:CapOk c)(hi:i≤nsN c.P):0≤sumA c f i∧sumA c f i≤17232:=by
  have h1:=sum_le hok (l:=memE (PtR c) i f) fun x hx=>by
    have:=(mem_memE.1 hx).1;omega
  have h2:(memE (PtR c) i f).length≤i:=by
    unfold memE;exact Nat.le_trans (List.length_filter_le _ _) (by simp)
  have:=hok.ns
  unfold sumA
  refine ⟨h1.1,Int.le_trans h1.2 ?_⟩
  omega
open Classical in
noncomputable def ptsA (c:Cp)(b:Nat):List Ptt:=((List.range b).filter fun k=>decide (LeE (PtR c) k)).map (ptOf c)
theorem ptsA_yes {b:Nat}(h:LeE (PtR c) b):ptsA c (b+1)=ptsA c b++[ptOf c b]:=by
  unfold ptsA
  rw [List.range_succ,List.filter_append]
  simp [h]
theorem ptsA_no {b:Nat}(h:¬LeE (PtR c) b):ptsA c (b+1)=ptsA c b:=by
  unfold ptsA
  rw [List.range_succ,List.filter_append]
  simp [h]
theorem ptsA_all:ptsA c (nsN c.P)=ptsP c:=rfl
theorem ptsA_len {b:Nat}:(ptsA c b).length≤b:=by
  unfold ptsA
  rw [List.length_map]
  exact Nat.le_trans (List.length_filter_le _ _) (by simp)
theorem low_iff (hok:CapOk c){k:Nat}:lowE (PtR c) k=k↔LeE (PtR c) k :=
  ⟨fun e=>by have:=(lowE_spec hok.ptE k).2.2;rwa [e] at this,fun h=>lowE_min hok.ptE h⟩
theorem low_eq (hok:CapOk c)(hf:LeE (PtR c) f):lowE (PtR c) i=f↔PtR c f i:=by
  constructor
  · intro e;rw [←e];exact hok.ptE.sy (lowE_spec hok.ptE i).2.1
  · intro h;rw [←lowE_eq hok.ptE h,lowE_min hok.ptE hf]
end
structure PpS (n:Nat)(H0:Hp)(u:V)(pts:List Pnt)(q:List Ptt)(cv:V)(cur:List Int)(H:Hp):Prop where
  hx:HX H0 H
  ou:OwnT n pntC H u pts
  len:pts.length=q.length
  eq:∀i,i<q.length→(pts.getD i default).i=(q.getD i default).inn∧(pts.getD i default).a=(q.getD i default).ang∧(pts.getD i default).d=(q.getD i default).df
  oc:∀i,i<q.length→OwnV n H (pts.getD i default).v (natL (q.getD i default).cs)
  ow:OwnV n H cv cur
  ap:∀i,i<q.length→∀b o z y o' z' y',u=.sl b o z y→(pts.getD i default).v=.sl b o' z' y'→False
  aw:∀b o z y o' z' y',u=.sl b o z y→cv=.sl b o' z' y'→False
  ac:∀i,i<q.length→∀b o z y o' z' y',cv=.sl b o z y→(pts.getD i default).v=.sl b o' z' y'→False
section
variable {n lim:Nat}{H H0 H':Hp}{K:V→Hp→Prop}{u cv v:V}{pts:List Pnt}{q:List Ptt}{cur:List Int}{ws vs:List V}{c:Cp}
theorem PpS.pushC (h:PpS n H0 u pts q cv cur H){x:Int}(hn:lim≤n∧H0.length≤n∧n≤H.length)(hl:cur.length<1000000) :
    ∃cv' H',vappend lim 1 8 (H++[.row [.int .i64 x] true]) cv (.sl H.length 0 1 1)=some (cv',H')∧PpS n H0 u pts q cv' (cur++[x]) H'∧H.length≤H'.length:=by
  obtain ⟨v',H',a1,a2,a3,a4,a5,a6⟩:=h.ow.appendF (lim:=lim) (x:=x) ⟨hn.1,hn.2.2⟩ hl
  refine ⟨v',H',a1,⟨a3 _ h.hx hn.2.1,h.ou.keepB fun b o m z e=>a5 b (h.ou.belowB _ _ _ _ e).2 fun o' z' y' e'=>h.aw _ _ _ _ _ _ _ e e',h.len,h.eq,
    fun i hi=>(h.oc i hi).keepB fun b o m z e=>a5 b ((h.oc i hi).belowB _ _ _ _ e).2 fun o' z' y' e'=>h.ac i hi _ _ _ _ _ _ _ e' e,a2,h.ap,fun b o z y o' z' y' e e' => ?_,fun i hi b o z y o' z' y' e e' => ?_⟩,a4⟩
  · have:=(h.ou.belowB _ _ _ _ e).2
    have:=a6 _ _ _ _ e'
    omega
  · have:=((h.oc i hi).belowB _ _ _ _ e').2
    have:=a6 _ _ _ _ e
    omega
theorem PpS.pushU {p:Ptt}(h:PpS n H0 u pts q cv (natL p.cs) H){k:Int}(hn:lim≤n∧H0.length≤n∧n≤H.length)(hl:q.length<1000000) :
    ∃u' H',vappend lim 4 48 (H++[.row [cv,.bool p.inn,.int .i64 p.ang,.int .i64 p.df] true]) u (.sl H.length 0 1 4)=some (u',H')∧PpS n H0 u' (pts++[⟨cv,p.inn,p.ang,p.df,k⟩]) (q++[p]) .snil [] H'∧H.length≤H'.length:=by
  obtain ⟨v',H',a1,a2,a3,a4,a5,a6⟩:=h.ou.appendF2 (lim:=lim) (bytes:=48) (x:=⟨cv,p.inn,p.ang,p.df,k⟩) (cs:=[cv,.bool p.inn,.int .i64 p.ang,.int .i64 p.df]) rfl ⟨hn.1,hn.2.2⟩ (by omega) (by rw [h.len];exact hl)
  have hlen:=h.len
  refine ⟨v',H',a1,⟨a3 _ h.hx hn.2.1,a2,by simp [h.len],fun i hi => ?_,fun i hi => ?_,.nil,fun i hi b o z y o' z' y' e e' => ?_,fun b o z y o' z' y' _ e=>(by cases e),fun i hi b o z y o' z' y' e _=>(by cases e)⟩,a4⟩
  · rw [List.length_append,List.length_singleton] at hi
    by_cases hlt:i<q.length
    · rw [getD_lt (by omega),getD_lt (l:=q) hlt];exact h.eq i hlt
    · have:i=q.length:=by omega
      subst this
      rw [getD_last hlen.symm,getD_last rfl]
      exact ⟨rfl,rfl,rfl⟩
  · rw [List.length_append,List.length_singleton] at hi
    by_cases hlt:i<q.length
    · rw [getD_lt (by omega),getD_lt (l:=q) hlt]
      exact (h.oc i hlt).keepB fun b o m z e=>a5 b ((h.oc i hlt).belowB _ _ _ _ e).2 fun o' z' y' e'=>h.ap i hlt _ _ _ _ _ _ _ e' e
    · have:i=q.length:=by omega
      subst this
      rw [getD_last hlen.symm,getD_last rfl]
      exact h.ow.keepB fun b o m z e=>a5 b (h.ow.belowB _ _ _ _ e).2 fun o' z' y' e'=>h.aw _ _ _ _ _ _ _ e' e
  · rw [List.length_append,List.length_singleton] at hi
    have h6:=a6 _ _ _ _ e
    by_cases hlt:i<q.length
    · rw [getD_lt (by omega)] at e'
      have:=(h.oc i hlt).belowB _ _ _ _ e'
      omega
    · have:i=q.length:=by omega
      subst this
      rw [getD_last hlen.symm] at e'
      have:=h.ow.belowB _ _ _ _ e'
      omega
theorem r02_points (hn:NetV H vs c) (hok:CapOk c) (hlim:lim≤H.length) (hK:∀H' v,HX H H'→PtlV H.length H' v (ptsP c)→K v H'):VCall tbl lim 61 [.agg vs] H K:=by
  have hn0:=hn
  obtain ⟨va,vb,vp,vx,vq,rfl,h1,h2,h3,h4,h5⟩:=hn.ex
  have hns:=hok.ns
  have hsm:=hok.sm_ok
  have hE:=hok.ptE
  refine VCall_fn tbl_at61 rfl ?_
  simp [vf61,rdA5,h1.stor,h1.one,h2.stor,h2.one,h3.stor,h3.one,h4.stor,h4.one,h5.stor,h5.one]
  refine r02_meets hn0 hok hlim fun H1 lw l x1 o1 hll hlo => ?_
  replace x1:HX H H1:=x1
  have l1:=x1.len
  have hll2:(natL l).length=nsN c.P:=by simp [natL,hll]
  have hvl:vlenS lw=some (.int .i64 (nsN c.P)):=by rw [o1.sl.len,hll2]
  have lwG:∀{H2:Hp} {k:Nat},HX H1 H2→k<nsN c.P→viaddrS 1 lw (.int .i64 (k:Int))=some (ept 1 lw k)∧∀L,vload none L H2 (ept 1 lw k)=some (.int .i64 (lowE (PtR c) k:Nat)):=by
    intro H2 k hx hk
    have a:=o1.sl.addr (i:=(k:Int)) (by rw [hll2];omega)
    rw [Int.toNat_natCast] at a
    refine ⟨a,fun L => ?_⟩
    rw [(o1.sl.mono hx).load (by rw [hll2];exact hk),natL_get,hlo k hk]
  simp [hvl]
  refine wLoop_up (nsN c.P) (fun i fr L H'=>∃u X pts,(fr 1=.lp 0 0∧fr 3=lw∧fr 4=u∧fr 5=.int .i64 i)∧L=[va,vb,vp,vx,vq] :: X∧PpS H1.length H1 u pts (ptsA c i) .snil [] H') ⟨.snil,[],[],by simp,rfl,.refl,.nil,rfl,fun i hi=>by simp [ptsA] at hi,fun i hi=>by simp [ptsA] at hi,.nil,fun i hi=>by simp [ptsA] at hi,fun b o z y o' z' y' e _=>(by cases e),fun i hi=>by simp [ptsA] at hi⟩ ?_
  rintro f hf fr L H2 ⟨u,X,pts,⟨f1,f3,f4,f5⟩,rfl,hS⟩
  simp [f1,f3,f4,f5,hvl]
  have x2:HX H1 H2:=hS.hx
  have l2:=x2.len
  refine cond_dec (fun ht => ?_) fun hfl => ?_
  · have ht : f<nsN c.P:=by omega
    have g0:=lwG x2 ht
    by_cases hlow:LeE (PtR c) f
    case neg =>
      have hne:lowE (PtR c) f≠f:=fun e=>hlow ((low_iff hok).1 e)
      have hd:decide (((lowE (PtR c) f:Nat):Int)=(f:Int))=false:=decide_eq_false (by omega)
      have hd2:(((lowE (PtR c) f:Nat):Int)=(f:Int))=False:=eq_false (by omega)
      generalize lowE (PtR c) f=lf at *
      have hd3:(lf=f)=False:=eq_false (by omega)
      simp (disch:=omega) [f1,f3,f4,f5,g0.1,g0.2,hd,hd2,hd3,wrap_i64]
      exact ⟨ht,pts,by rw [ptsA_no hlow];exact hS⟩
    have hlf:lowE (PtR c) f=f:=(low_iff hok).2 hlow
    rw [hlf] at g0
    simp (disch:=omega) [f1,f3,f4,f5,g0.1,g0.2,wrap_i64,splice,lastO,lastS]
    refine wLoop_up (nsN c.P-f) (fun k fr L H'=>∃cv,(fr 1=.lp 0 0∧fr 3=lw∧fr 4=u∧fr 5=.int .i64 f∧fr 6=.lp (X.length+1) 0∧fr 7=.int .i64 (f+k:Nat))∧L=[va,vb,vp,vx,vq] :: (X++[[cv,.bool (innA c f (f+k)),.int .i64 (sumA c f (f+k)),.int .i64 0]])∧PpS H1.length H1 u pts (ptsA c f) cv (natL (memE (PtR c) (f+k) f)) H') ⟨.snil,by simp [f1,f3,f4,f5],by simp [innA,sumA,memE_low hlow],by rw [Nat.add_zero,memE_low hlow];exact hS⟩ ?_
    clear f1 f3 f4 f5 hS x2 l2 g0 fr
    rintro k hk fr L H3 ⟨cv,⟨f1,f3,f4,f5,f6,f7⟩,rfl,hS⟩
    have x3:HX H1 H3:=hS.hx
    have l3:=x3.len
    simp [f1,f3,f4,f5,f6,f7,hvl]
    refine cond_dec (fun hkt => ?_) fun hkf => ?_
    · have hkt:f+k<nsN c.P:=by omega
      have hk':k<nsN c.P-f:=by omega
      have g1:=lwG x3 hkt
      have q1:((f:Int)+(k:Int))=((f+k:Nat):Int):=by omega
      rw [show f+(k+1)=f+k+1 by omega]
      have hsb:=sumA_bd (f:=f) hok (i:=f+k) (by omega)
      generalize hj:f+k=j at *
      by_cases hin:PtR c f j
      case neg =>
        have hne:lowE (PtR c) j≠f:=fun e=>hin ((low_eq hok hlow).1 e)
        generalize lowE (PtR c) j=lj at *
        have hd1:(lj=f)=False:=eq_false hne
        have hd2:((lj:Int)=(f:Int))=False:=eq_false (by omega)
        simp (disch:=omega) [f1,f3,f4,f5,f6,f7,q1,g1.1,g1.2,hd1,hd2,wrap_i64]
        refine ⟨hk',by omega,cv,?_,?_⟩
        · simp [innA,sumA,memE_no hin]
        · rw [memE_no hin];exact hS
      have hlj:lowE (PtR c) j=f:=(low_eq hok hlow).2 hin
      rw [hlj] at g1
      obtain ⟨cv2,H4,b1,hS4,l4⟩:=hS.pushC (lim:=lim) (x:=(j:Int)) ⟨by omega,Nat.le_refl _,by omega⟩ (by
        have:(memE (PtR c) j f).length≤j:=by unfold memE;exact Nat.le_trans (List.length_filter_le _ _) (by simp)
        simp only [natL,List.length_map];omega)
      have x4:HX H1 H4:=hS4.hx
      have x04:HX H H4:=x1.trans x4
      have zc:=hS.ow.sl
      have zc2:=hS4.ow.sl
      have a2:=(h2.mono x04).up hkt
      have a5:=(h5.mono x04).up hkt
      have hbf:=nx_bf hkt
      have a6:=(h5.mono x04).up hbf.2
      have hab:=an_bd hok hkt
      have es:sumA c f (j+1)=sumA c f j+anN c.P j:=by unfold sumA;rw [memE_yes hin];simp
      have ei:innA c f (j+1)=(innA c f j&&edgB c j):=by unfold innA;rw [memE_yes hin];simp
      have em:natL (memE (PtR c) (j+1) f)=natL (memE (PtR c) j f)++[(j:Int)]:=by rw [memE_yes hin];simp [natL]
      rw [em,ei,es]
      have hnv:NetV H4 [va,vb,vp,vx,vq] c:=hn0.mono x04
      cases hb:innA c f j with
      | false =>
        simp (disch:=omega) [f1,f3,f4,f5,f6,f7,q1,g1.1,g1.2,wrap_i64,lastO,lastS,rd0,rd1',rd2',rd5_1,rd5_4,zc.stor,zc.one,zc2.stor,zc2.one,splice,b1,a2.1,a2.2,isLp_ept,hb]
        first | exact ⟨hk',hS4⟩ | exact ⟨hk',by omega,hS4⟩
      | true =>
        by_cases hfr:alf (lsN c) j=j
        · have e5:ptL (lsN c) j = -1:=by rw [ptL,if_pos hfr]
          rw [e5] at a5
          have eb:edgB c j=false:=by simp [edgB,hfr]
          simp (disch:=omega) [f1,f3,f4,f5,f6,f7,q1,g1.1,g1.2,wrap_i64,lastO,lastS,rd0,rd1',rd2',rd5_1,rd5_4,zc.stor,zc.one,zc2.stor,zc2.one,splice,b1,a2.1,a2.2,a5.1,a5.2,isLp_ept,hb,eb]
          first | exact ⟨hk',hS4⟩ | exact ⟨hk',by omega,hS4⟩
        · have e5:ptL (lsN c) j=(alf (lsN c) j:Nat):=by rw [ptL,if_neg hfr]
          rw [e5] at a5
          generalize hal:alf (lsN c) j=al at a5
          have d5:((0:Int)≤(al:Int))=True:=eq_true (by omega)
          simp (disch:=omega) [f1,f3,f4,f5,f6,f7,q1,g1.1,g1.2,wrap_i64,lastO,lastS,rd0,rd1',rd2',rd5_1,rd5_4,rdA5,zc.stor,zc.one,zc2.stor,zc2.one,splice,b1,a2.1,a2.2,a5.1,a5.2,d5,isLp_ept,hb,h1.stor,h1.one,h2.stor,h2.one,h3.stor,h3.one,h4.stor,h4.one,h5.stor,h5.one]
          refine r02_previous hnv hok hkt ?_
          by_cases hfb:alf (lsN c) (bfN c.P j)=bfN c.P j
          · have e6:ptL (lsN c) (bfN c.P j) = -1:=by rw [ptL,if_pos hfb]
            rw [e6] at a6
            have eb:edgB c j=false:=by simp [edgB,hfb]
            generalize bfN c.P j=bj at *
            simp (disch:=omega) [f1,f3,f4,f5,f6,f7,wrap_i64,lastO,lastS,rd0,rd1',rd2',splice,a6.1,a6.2,eb]
            first | exact ⟨hk',hS4⟩ | exact ⟨hk',by omega,hS4⟩
          · have e6:ptL (lsN c) (bfN c.P j)=(alf (lsN c) (bfN c.P j):Nat):=by rw [ptL,if_neg hfb]
            rw [e6] at a6
            have eb:edgB c j=true:=by unfold edgB;rw [decide_eq_true hfr,decide_eq_true hfb];rfl
            generalize alf (lsN c) (bfN c.P j)=a7 at *
            have d6:((0:Int)≤(a7:Int))=True:=eq_true (by omega)
            generalize bfN c.P j=bj at *
            simp (disch:=omega) [f1,f3,f4,f5,f6,f7,wrap_i64,lastO,lastS,rd0,rd1',rd2',splice,a6.1,a6.2,eb,d6]
            first | exact ⟨hk',hS4⟩ | exact ⟨hk',by omega,hS4⟩
    · have hkN:f+k=nsN c.P:=by omega
      rw [hkN] at hS
      have zc:=hS.ow.sl
      have hsb:=sumA_bd (f:=f) hok (Nat.le_refl (nsN c.P))
      have hA:=innA_all hok ht
      have hps:(ptOf c f).cs=memE (PtR c) (nsN c.P) f∧(ptOf c f).inn=innB c f∧(ptOf c f).ang=sumA c f (nsN c.P)∧(ptOf c f).df=(if innB c f then 360 else 180)-sumA c f (nsN c.P):=⟨rfl,rfl,rfl,rfl⟩
      obtain ⟨p1,p2,p3,p4⟩:=hps
      rw [←p1] at hS
      obtain ⟨u2,H4,b1,hS4,l4⟩:=hS.pushU (lim:=lim) (k:=0) ⟨by omega,Nat.le_refl _,by omega⟩ (by have:=ptsA_len (c:=c) (b:=f);omega)
      rw [p2,p3,p4] at b1
      rw [←ptsA_yes hlow] at hS4
      cases hb:innB c f with
      | false =>
        rw [hb] at b1 hA
        simp only [Bool.false_eq_true,if_false] at b1
        simp (disch:=omega) [f1,f3,f4,f5,f6,f7,hkN,hA,wrap_i64,lastO,lastS,rd0,rd1',rd2',rd3',rdA4,zc.stor,zc.one,splice,b1]
        exact ⟨ht,_,hS4⟩
      | true =>
        rw [hb] at b1 hA
        simp only [if_true] at b1
        simp (disch:=omega) [f1,f3,f4,f5,f6,f7,hkN,hA,wrap_i64,lastO,lastS,rd0,rd1',rd2',rd3',rdA4,zc.stor,zc.one,splice,b1]
        exact ⟨ht,_,hS4⟩
  · have:f=nsN c.P:=by omega
    subst this
    simp [f1,f3,f4,f5,hS.ou.lst.stor]
    rw [ptsA_all] at hS
    exact hK _ _ (x1.trans x2) ⟨pts,hS.ou.le (by omega),hS.len,fun i hi=>⟨(hS.eq i hi).1,(hS.eq i hi).2.1,(hS.eq i hi).2.2,(hS.oc i hi).le (by omega)⟩⟩
end
end Go.Proofs.Ytclghkegfpcdpaa.Vm
namespace Go.Proofs.Ytclghkegfpcdpaa.Vm
open Go
set_option maxRecDepth 100000
set_option maxHeartbeats 1000000
set_option linter.unusedSimpArgs false
set_option linter.unusedVariables false
attribute [-simp] List.getD_eq_getElem?_getD Bool.exists_bool
structure PassP (c:Cp)(l0:List Nat)(a:Nat)(l:List Nat):Prop where
  low:LowM (PrtR c) c.P.length l
  le:∀x,l.getD x 0≤l0.getD x 0
  sm:∀i,i<a→alf (lsN c) i≠i→l.getD (pcN c.P i) 0≤l0.getD (pcN c.P (alf (lsN c) i)) 0
section
variable {n lim:Nat}{H H0 H':Hp}{K:V→Hp→Prop}{v:V}{ws vs:List V}{c:Cp}{a:Nat}{l l0:List Nat}
theorem PassP.skip (h:PassP c l0 a l)(hf:alf (lsN c) a=a):PassP c l0 (a+1) l where
  low:=h.low
  le:=h.le
  sm:=fun i hi hne=>by
    by_cases e:i=a
    · subst e;exact absurd hf hne
    · exact h.sm i (by omega) hne
theorem PassP.step (hok:CapOk c)(h:PassP c l0 a l)(ha:a<nsN c.P):PassP c l0 (a+1) (lowS l (pcN c.P a) (pcN c.P (alf (lsN c) a))):=by
  have hal:=hok.sm_ok.pr.lt a ha
  have h1:pcN c.P a<l.length:=by rw [h.low.len];exact pc_lt ha
  have h2:pcN c.P (alf (lsN c) a)<l.length:=by rw [h.low.len];exact pc_lt hal
  refine ⟨h.low.step prtE_eqv (pc_lt ha) (pc_lt hal) prtE_sewn,fun x=>Nat.le_trans (lowS_le h1 h2) (h.le x),fun i hi hne => ?_⟩
  by_cases e:i=a
  · subst e
    rw [lowS_get h1 h2,if_pos (Or.inr rfl)]
    exact Nat.le_trans (Nat.min_le_right _ _) (h.le _)
  · exact Nat.le_trans (lowS_le h1 h2) (h.sm i (by omega) hne)
end
end Go.Proofs.Ytclghkegfpcdpaa.Vm
namespace Go.Proofs.Ytclghkegfpcdpaa.Vm
open Go
set_option maxRecDepth 100000
set_option maxHeartbeats 1000000
set_option linter.unusedSimpArgs false
set_option linter.unusedVariables false
attribute [-simp] List.getD_eq_getElem?_getD Bool.exists_bool
structure LqS (n0:Nat)(H0:Hp)(M:List Bool)(u:V)(us:List V)(ls:List (List Int))(cv:V)(cur:List Int)(H:Hp):Prop where
  hx:HX H0 H
  hn:H0.length=n0
  b1:H[n0]? = some (.row (boolL M) true)
  ou:OwnT (n0+1) vC H u us
  len:us.length=ls.length
  oc:∀i,i<us.length→OwnV (n0+1) H (us.getD i dv) (ls.getD i [])
  ow:OwnV (n0+1) H cv cur
  ap:∀i,i<us.length→∀b o z y o' z' y',u=.sl b o z y→us.getD i dv=.sl b o' z' y'→False
  aw:∀b o z y o' z' y',u=.sl b o z y→cv=.sl b o' z' y'→False
  ac:∀i,i<us.length→∀b o z y o' z' y',cv=.sl b o z y→us.getD i dv=.sl b o' z' y'→False
section
variable {n0 lim:Nat}{H H0 H':Hp}{K:V→Hp→Prop}{lv u cv v:V}{M M':List Bool}{us:List V}{ls:List (List Int)}{cur:List Int}{c:Cp}{s:Nat}
theorem LqS.big (h:LqS n0 H0 M u us ls cv cur H):n0+1≤H.length:=(List.getElem?_eq_some_iff.1 h.b1).1
theorem LqS.move (h:LqS n0 H0 M u us ls cv cur H)(ho:OthM n0 H H')(hm:H'[n0]? = some (.row (boolL M') true)):LqS n0 H0 M' u us ls cv cur H' where
  hx:=HX.of (by have:=h.hx.len;have:=ho.1;omega) fun b hb=>by
    have:=h.hx.len
    have:=h.hn
    rw [ho.2 b (by omega) (by omega),h.hx.same hb]
  hn:=h.hn
  b1:=hm
  ou:=h.ou.keepB fun b o m z e=>by have:=h.ou.belowB _ _ _ _ e;exact ho.2 b (by omega) (by omega)
  len:=h.len
  oc:=fun i hi=>(h.oc i hi).keepB fun b o m z e=>by have:=(h.oc i hi).belowB _ _ _ _ e;exact ho.2 b (by omega) (by omega)
  ow:=h.ow.keepB fun b o m z e=>by have:=h.ow.belowB _ _ _ _ e;exact ho.2 b (by omega) (by omega)
  ap:=h.ap
  aw:=h.aw
  ac:=h.ac
theorem LqS.grow (h:LqS n0 H0 M u us ls cv cur H)(hx:HX H H'):LqS n0 H0 M u us ls cv cur H':=h.move ⟨hx.len,fun b hb _=>hx.same hb⟩ (hx.get h.b1)
theorem LqS.put (h:LqS n0 H0 M u us ls cv cur H){k:Nat}:LqS n0 H0 (M.set k true) u us ls cv cur (H.set n0 (.row (boolL (M.set k true)) true)) :=
  h.move ⟨by simp,fun b hb hne=>List.getElem?_set_ne (fun e=>hne e.symm)⟩ (List.getElem?_set_self h.big)
theorem LqS.pushC (h:LqS n0 H0 M u us ls cv cur H){x:Int}(hlim:lim≤n0)(hl:cur.length<1000000) :
    ∃cv' H',vappend lim 1 8 (H++[.row [.int .i64 x] true]) cv (.sl H.length 0 1 1)=some (cv',H')∧LqS n0 H0 M u us ls cv' (cur++[x]) H':=by
  have hb:=h.big
  obtain ⟨v',H',a1,a2,a3,a4,a5,a6⟩:=h.ow.appendF (lim:=lim) (x:=x) ⟨by omega,by omega⟩ hl
  have bo:∀b,b<n0+1→∀o z y,cv≠.sl b o z y:=fun b hb o z y e=>by have:=h.ow.belowB _ _ _ _ e;omega
  have hh:=h.hn
  refine ⟨v',H',a1,⟨a3 _ h.hx (by omega),h.hn,(a5 n0 (by omega) (bo _ (by omega))).trans h.b1,h.ou.keepB fun b o m z e=>a5 b (h.ou.belowB _ _ _ _ e).2 fun o' z' y' e'=>h.aw _ _ _ _ _ _ _ e e',h.len,
    fun i hi=>(h.oc i hi).keepB fun b o m z e=>a5 b ((h.oc i hi).belowB _ _ _ _ e).2 fun o' z' y' e'=>h.ac i hi _ _ _ _ _ _ _ e' e,a2,h.ap,fun b o z y o' z' y' e e' => ?_,fun i hi b o z y o' z' y' e e' => ?_⟩⟩
  · have:=(h.ou.belowB _ _ _ _ e).2
    have:=a6 _ _ _ _ e'
    omega
  · have:=((h.oc i hi).belowB _ _ _ _ e').2
    have:=a6 _ _ _ _ e
    omega
theorem LqS.pushU (h:LqS n0 H0 M u us ls cv cur H)(hlim:lim≤n0)(hl:us.length<1000000) :
    ∃u' H',vappend lim 1 24 (H++[.row [cv] true]) u (.sl H.length 0 1 1)=some (u',H')∧LqS n0 H0 M u' (us++[cv]) (ls++[cur]) .snil [] H':=by
  have hb:=h.big
  obtain ⟨v',H',a1,a2,a3,a4,a5,a6⟩:=h.ou.appendF2 (lim:=lim) (bytes:=24) (x:=cv) (cs:=[cv]) rfl ⟨by omega,by omega⟩ (by omega) hl
  have bo:∀b,b<n0+1→∀o z y,u≠.sl b o z y:=fun b hb o z y e=>by have:=h.ou.belowB _ _ _ _ e;omega
  have hh:=h.hn
  refine ⟨v',H',a1,⟨a3 _ h.hx (by omega),h.hn,(a5 n0 (by omega) (bo _ (by omega))).trans h.b1,a2,by simp [h.len],fun i hi => ?_,.nil,fun i hi b o z y o' z' y' e e' => ?_,fun b o z y o' z' y' _ e=>(by cases e),fun i hi b o z y o' z' y' e _=>(by cases e)⟩⟩
  · rw [List.length_append,List.length_singleton] at hi
    by_cases hlt:i<us.length
    · rw [getD_lt hlt,getD_lt (l:=ls) (by rw [←h.len];exact hlt)]
      exact (h.oc i hlt).keepB fun b o m z e=>a5 b ((h.oc i hlt).belowB _ _ _ _ e).2 fun o' z' y' e'=>h.ap i hlt _ _ _ _ _ _ _ e' e
    · have:i=us.length:=by omega
      subst this
      rw [getD_last rfl,getD_last h.len]
      exact h.ow.keepB fun b o m z e=>a5 b (h.ow.belowB _ _ _ _ e).2 fun o' z' y' e'=>h.aw _ _ _ _ _ _ _ e' e
  · rw [List.length_append,List.length_singleton] at hi
    have h6:=a6 _ _ _ _ e
    by_cases hlt:i<us.length
    · rw [getD_lt hlt] at e'
      have:=(h.oc i hlt).belowB _ _ _ _ e'
      omega
    · have:i=us.length:=by omega
      subst this
      rw [getD_last rfl] at e'
      have:=h.ow.belowB _ _ _ _ e'
      omega
end
end Go.Proofs.Ytclghkegfpcdpaa.Vm
namespace Go.Proofs.Ytclghkegfpcdpaa.Vm
open Go
set_option maxRecDepth 100000
set_option maxHeartbeats 1000000
set_option linter.unusedSimpArgs false
set_option linter.unusedVariables false
attribute [-simp] List.getD_eq_getElem?_getD Bool.exists_bool
section
variable {n lim:Nat}{H H0 H':Hp}{K:V→Hp→Prop}{v w:V}{ws vs:List V}{c:Cp}
theorem ShortC.vb (hsh:ShortC c):c.P.length≤1000000∧c.S.length≤1000000∧∀q,q<c.P.length→(c.P.getD q default).s.length≤100000 :=
  ⟨by have:=hsh.np;omega,by have:=hsh.ns;omega,fun q hq=>by have:=(hsh.pc q hq).1;omega⟩
theorem PtlV.le {m:Nat}{q:List Ptt}(h:PtlV m H v q)(hnm:n≤m):PtlV n H v q:=by
  obtain ⟨pts,o1,o2,o3⟩:=h.ex
  exact ⟨⟨pts,o1.le hnm,o2,fun i hi=>⟨(o3 i hi).1,(o3 i hi).2.1,(o3 i hi).2.2.1,(o3 i hi).2.2.2.le hnm⟩⟩⟩
theorem PtlV.mono {q:List Ptt}(hx:HX H H')(h:PtlV n H v q):PtlV n H' v q:=by
  obtain ⟨pts,o1,o2,o3⟩:=h.ex
  exact ⟨⟨pts,o1.mono hx,o2,fun i hi=>⟨(o3 i hi).1,(o3 i hi).2.1,(o3 i hi).2.2.1,(o3 i hi).2.2.2.mono hx⟩⟩⟩
theorem PtlV.nil:PtlV n H .snil []:=⟨⟨[],.nil,rfl,fun i hi=>by simp at hi⟩⟩
theorem LlsV.le {m:Nat}{q:List (List Int)}(h:LlsV m H v q)(hnm:n≤m):LlsV n H v q:=by
  obtain ⟨us,o1,o2,o3⟩:=h.ex
  exact ⟨⟨us,o1.le hnm,o2,fun i hi=>(o3 i hi).le hnm⟩⟩
theorem LlsV.mono {q:List (List Int)}(hx:HX H H')(h:LlsV n H v q):LlsV n H' v q:=by
  obtain ⟨us,o1,o2,o3⟩:=h.ex
  exact ⟨⟨us,o1.mono hx,o2,fun i hi=>(o3 i hi).mono hx⟩⟩
theorem LlsV.nil:LlsV n H .snil []:=⟨⟨[],.nil,rfl,fun i hi=>by simp at hi⟩⟩
theorem r02_Points (hc:CapV H ws c)(hsh:ShortC c)(hlim:lim≤H.length)(hK:∀H' v,HX H H'→(capE c=0→PtlV H.length H' v (ptsP c))→(capE c≠0→v=.snil)→K (.tup [v,.int .i64 (capE c)]) H'):VCall tbl lim 22 [.agg ws] H K:=by
  obtain ⟨pv,sv,ps,rfl,hp,hs,z1,z2,z3,z4⟩:=hc.form
  refine VCall_fn tbl_at22 rfl ?_
  simp [vf22,z1,z2,z3,z4,rdA3]
  refine r02_Validate hc hsh.vb ?_
  by_cases he:capE c=0
  case neg =>
    have:=hK H .snil .refl (fun h=>absurd h he) (fun _=>rfl)
    simp [he,z1,z2,z3,z4]
    exact this
  have hok:=capE_ok.1 he
  simp [he,rdA3,z1,z2,z3,z4]
  refine r02_open hc hok hlim fun H2 vs x2 hn => ?_
  replace x2:HX H H2:=x2
  have l2:=x2.len
  simp
  refine r02_points hn hok (by omega) fun H3 v x3 hv => ?_
  replace x3:HX H2 H3:=x3
  have:=hK H3 v (x2.trans x3) (fun _=>hv.le (by omega)) (fun h=>absurd he h)
  obtain ⟨pts,o1,o2,o3⟩:=hv.ex
  rw [he] at this
  simp [o1.lst.stor]
  exact this
end
end Go.Proofs.Ytclghkegfpcdpaa.Vm
namespace Go.Proofs.Ytclghkegfpcdpaa.Vm
open Go
set_option maxRecDepth 100000
set_option maxHeartbeats 1000000
set_option linter.unusedSimpArgs false
set_option linter.unusedVariables false
attribute [-simp] List.getD_eq_getElem?_getD Bool.exists_bool
section
variable {n m lim:Nat}{H H0 H':Hp}{K:V→Hp→Prop}{v w:V}{ws vs:List V}{c:Cp}
theorem r02_SamePoints {q:List Ptt}(h1:PtlV n H v q)(h2:PtlV m H w q)(hq:q.length≤1000)(hq2:∀i,i<q.length→(q.getD i default).cs.length≤1000)(hK:K (.bool true) H):VCall tbl lim 23 [v,w] H K:=by
  obtain ⟨pts,o1,o2,o3⟩:=h1.ex
  obtain ⟨qts,r1,r2,r3⟩:=h2.ex
  refine VCall_fn tbl_at23 rfl ?_
  have e1:vlenS v=some (.int .i64 q.length):=by rw [o1.lst.len,o2]
  have e2:vlenS w=some (.int .i64 q.length):=by rw [r1.lst.len,r2]
  simp [vf23,e1,e2]
  refine wLoop_up q.length (fun i fr L H'=>(fr 0=v∧fr 1=w∧fr 5=.int .i64 i)∧L=[]∧H'=H) ⟨by simp,rfl,rfl⟩ ?_
  rintro i hi fr L H1 ⟨⟨f0,f1,f5⟩,rfl,rfl⟩
  simp [f0,f1,f5,e1]
  refine cond_dec (fun ht => ?_) fun hfl => ?_
  · have ht:i<q.length:=by omega
    have a1:=o1.lst.at (i:=i) (by omega)
    have a2:=r1.lst.at (i:=i) (by omega)
    have fa1:=fun j=>o1.lst.faddr (i:=i) (j:=j) (by omega)
    have fa2:=fun j=>r1.lst.faddr (i:=i) (j:=j) (by omega)
    have g10:∀L,vload none L H1 (eptf 4 v i 0)=some (pts.getD i default).v:=fun L=>o1.lst.rd1 (by omega) (by omega)
    have g11:∀L,vload none L H1 (eptf 4 v i 1)=some (.bool (pts.getD i default).i):=fun L=>o1.lst.rd1 (by omega) (by omega)
    have g12:∀L,vload none L H1 (eptf 4 v i 2)=some (.int .i64 (pts.getD i default).a):=fun L=>o1.lst.rd1 (by omega) (by omega)
    have g13:∀L,vload none L H1 (eptf 4 v i 3)=some (.int .i64 (pts.getD i default).d):=fun L=>o1.lst.rd1 (by omega) (by omega)
    have g20:∀L,vload none L H1 (eptf 4 w i 0)=some (qts.getD i default).v:=fun L=>r1.lst.rd1 (by omega) (by omega)
    have g21:∀L,vload none L H1 (eptf 4 w i 1)=some (.bool (qts.getD i default).i):=fun L=>r1.lst.rd1 (by omega) (by omega)
    have g22:∀L,vload none L H1 (eptf 4 w i 2)=some (.int .i64 (qts.getD i default).a):=fun L=>r1.lst.rd1 (by omega) (by omega)
    have g23:∀L,vload none L H1 (eptf 4 w i 3)=some (.int .i64 (qts.getD i default).d):=fun L=>r1.lst.rd1 (by omega) (by omega)
    obtain ⟨p1,p2,p3,p4⟩:=o3 i ht
    obtain ⟨s1,s2,s3,s4⟩:=r3 i ht
    rw [p1] at g11;rw [p2] at g12;rw [p3] at g13
    rw [s1] at g21;rw [s2] at g22;rw [s3] at g23
    have hb:=hq2 i ht
    generalize (q.getD i default).inn=bi at *
    generalize (pts.getD i default).v=pv at *
    generalize (qts.getD i default).v=qv at *
    simp [f0,f1,f5,a1,a2,fa1,fa2,g10,g20,p4.sl.stor,s4.sl.stor]
    refine ref01_SameInts p4.sl s4.sl (by rw [natL_len];omega) ?_
    simp (disch:=omega) [f0,f1,f5,a1,a2,fa1,fa2,g11,g12,g13,g21,g22,g23,wrap_i64]
    exact ht
  · simp [f0,f1,f5]
    exact hK
theorem law_CapPoints (ha:CapA H ws c) (hlim:lim≤H.length) (hK:∀H',K (.bool true) H'):VCall tbl lim 4 [.agg ws] H K:=by
  have hc:=ha.cap
  obtain ⟨pv,sv,ps,rfl,hp,hs,z1,z2,z3,z4⟩:=hc.form
  refine VCall_fn tbl_at4 rfl ?_
  simp [vf4,z1,z2,z3,z4,rdA3]
  refine l02_Long hc ?_
  cases hl:longB c with
  | true =>
    simp
    refine cp_known hlim fun H' _ => ?_
    simp
    exact hK _
  | false =>
  have hsh:=short_of hl
  have s2:=hsh.ns
  simp [rdA3,z1,z2,z3,z4]
  refine surf_Points hc (by omega) hlim fun H1 v x1 v1 v2 => ?_
  replace x1:HX H H1:=x1
  have l1:=x1.len
  simp [rdA3,z1,z2,z3,z4]
  refine r02_Points (hc.mono x1) hsh (by omega) fun H2 w x2 w1 w2 => ?_
  replace x2:HX H1 H2:=x2
  have l2:=x2.len
  have hex:∃q,PtlV H.length H2 v q∧PtlV H1.length H2 w q∧q.length≤1000∧∀i,i<q.length→(q.getD i default).cs.length≤1000:=by
    by_cases he:capE c=0
    · have hok:=capE_ok.1 he
      have b1:=pts_le (c:=c)
      have b2:=hok.ns
      refine ⟨ptsP c,(v1 he).mono x2,w1 he,by omega,fun i hi => ?_⟩
      obtain ⟨k,hk⟩:∃k,(ptsP c).getD i default=ptOf c k:=by
        have:(ptsP c).getD i default∈ptsP c:=by
          rw [List.getD_eq_getElem?_getD,List.getElem?_eq_getElem hi];exact List.getElem_mem hi
        obtain ⟨k,_,hk⟩:=List.mem_map.1 this
        exact ⟨k,hk.symm⟩
      rw [hk]
      show (memE (PtR c) (nsN c.P) k).length≤1000
      have:(memE (PtR c) (nsN c.P) k).length≤nsN c.P:=by unfold memE;exact Nat.le_trans (List.length_filter_le _ _) (by simp)
      omega
    · rw [v2 he,w2 he]
      exact ⟨[],.nil,.nil,by simp,fun i hi=>by simp at hi⟩
  obtain ⟨q,q1,q2,q3,q4⟩:=hex
  have zv:=q1.ex
  have zw:=q2.ex
  obtain ⟨_,zv,_⟩:=zv
  obtain ⟨_,zw,_⟩:=zw
  simp [zv.lst.stor,zw.lst.stor]
  refine r02_SamePoints q1 q2 q3 q4 ?_
  simp
  refine cp_known (by omega) fun H' _ => ?_
  simp
  exact hK _
end
end Go.Proofs.Ytclghkegfpcdpaa.Vm
