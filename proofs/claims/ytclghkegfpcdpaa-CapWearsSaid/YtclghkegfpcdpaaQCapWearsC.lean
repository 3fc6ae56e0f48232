/- Quicksort over the machine (api.Point): patterns, pivots, the whole. -/
import Derived.Test.YtclghkegfpcdpaaQCapWearsB
import Derived.Test.YtclghkegfpcdpaaQCapWearsA
namespace Go.Proofs.Ytclghkegfpcdpaa.Vm
open Go
set_option maxRecDepth 100000
set_option maxHeartbeats 1000000
set_option linter.unusedSimpArgs false
set_option linter.unusedVariables false
attribute [-simp] List.getD_eq_getElem?_getD
section
variable {lim:Nat}{H H0:Hp}{K:V→Hp→Prop}{b g:Nat}{l l0:List EQ}{cf:EQ→EQ→Int}{fs cs:List V}
theorem sq_break (hs:SqS b H0 l0 l H)(hlim:lim≤b){a e:Nat}{f:V}(hf:stor f=true)(hae:a+8≤e∧e≤l0.length)(hl:l0.length<256)
    (hK:∀H' l',SqS b H0 l0 l' H'→PermR a e l l'→K (.tup []) H'):VCall tbl lim 113 [.sl b 0 l0.length 4,.int .i64 a,.int .i64 e,f] H K:=by
  refine VCall_fn tbl_at113 rfl ?_
  have hn:=hs.n
  have hb:=hs.blt
  have hle:=hs.len
  obtain ⟨d,rfl⟩:∃d,e=a+d:=⟨e-a,by omega⟩
  have e0:(a:Int)+(d:Int)-(a:Int)=(d:Int):=by omega
  have e8:((8:Int)≤(d:Int))=True:=eq_true (by omega)
  have eq4:(d:Int).tdiv 4=((d / 4:Nat):Int):=tdiv_nat _ 4
  have hd4:2*(d / 4)≤d / 2∧2≤d / 4∧4*(d / 4)≤d:=by omega
  have wu:∀k:Nat,k<256→IntKind.wrap .u64 (k:Int)=k:=fun k hk=>wrap_u64 (by omega)
  have stn:∀L,vstore lim L (H++[Blk.row [V.int .u64 0] true]) (.ptr H.length 0) (.int .u64 d) 1=some (L,H++[Blk.row [V.int .u64 d] true]):=fun L=>by
    rw [su_st (r:=.row [] true) (w:=0) (by simp) (by omega)];simp
  simp (disch:=omega) [vf113,wrap_i64,e0,e8,eq4,wu,stn,-vstore]
  have row1:(H++[Blk.row [V.int .u64 d] true])[H.length]? = some (.row [.int .u64 d] true):=by simp
  have hs1:SqS b H0 l0 l (H++[Blk.row [V.int .u64 d] true]):=hs.grow HX.push
  have hl1:H.length<(H++[Blk.row [V.int .u64 d] true]).length:=by simp
  generalize H++[Blk.row [V.int .u64 d] true]=H1 at *
  refine sq_pow (x:=d) (by omega) (by omega) fun m hm1 hm2 => ?_
  simp (disch:=omega) [wrap_i64,e0,e8,eq4]
  refine wLoop_up 3 (fun i fr L H'=>∃l' w,(fr 0=.sl b 0 l0.length 4∧fr 1=.int .i64 a∧fr 8=.int .i64 d∧fr 9=.ptr H.length 0∧fr 10=.int .u64 m∧fr 11=.int .i64 ((a+(d / 4*2-1)+i:Nat):Int))∧L=[]∧SqS b H0 l0 l' H'∧H'[H.length]? = some (.row [.int .u64 w] true)∧PermR a (a+d) l l') ⟨l,d,by simp;omega,rfl,hs1,row1,PermR.refl⟩ ?_
  rintro i hi fr L H' ⟨l',w,⟨f0,f1,f8,f9,f10,f11⟩,rfl,hr,hw,hp⟩
  have hlen:=hp.len
  simp (disch:=omega) [f0,f1,f8,f9,f10,f11,eq4,wrap_i64]
  refine cond_dec (fun ht => ?_) fun ht => ?_
  · have hi2:i<3:=by omega
    simp [f0,f1,f8,f9,f10,f11]
    refine sq_next hw (by omega) fun z => ?_
    have hr2:=hr.aside (s:=H.length) (r:=.row [.int .u64 z] true) hle
    have hw2:(H'.set H.length (.row [.int .u64 z] true))[H.length]? = some (.row [.int .u64 z] true):=by
      rw [List.getElem?_set_self (List.getElem?_eq_some_iff.1 hw).1]
    generalize H'.set H.length (.row [.int .u64 z] true)=H2 at *
    obtain ⟨o,ho,hand⟩:=and_lt (x:=z) (m:=m) (by omega)
    have wm:IntKind.wrap .u64 ((m:Int)-1)=(m:Int)-1:=wrap_u64 (by omega)
    simp (disch:=omega) [f0,f1,f8,f9,f10,f11,wm,hand,wrap_i64]
    refine wCond_join (fun fr L H'=>∃o:Nat,(fr 0=.sl b 0 l0.length 4∧fr 1=.int .i64 a∧fr 8=.int .i64 d∧fr 9=.ptr H.length 0∧fr 10=.int .u64 m∧fr 11=.int .i64 ((a+(d / 4*2-1)+i:Nat):Int)∧fr 12=.int .i64 (o:Nat))∧L=[]∧H'=H2∧o<d) (fun h => ?_) (fun h => ?_) ?_
    · simp at h
      simp (disch:=omega) [f0,f1,f8,f9,f10,f11,wrap_i64]
      exact ⟨o-d,by omega,by omega⟩
    · simp at h
      simp [f0,f1,f8,f9,f10,f11]
      exact ⟨o,rfl,by omega⟩
    clear f0 f1 f8 f9 f10 f11
    rintro fr L H3 ⟨q,⟨f0,f1,f8,f9,f10,f11,f12⟩,rfl,rfl,hq⟩
    have e1:((a:Int)+((d / 4*2-1:Nat):Int)+(i:Int)).toNat=a+(d / 4*2-1)+i:=by omega
    have e2:((a:Int)+(q:Int)).toNat=a+q:=by omega
    have g1:=fun L=>sq_ld hr2.row (i:=a+(d / 4*2-1)+i) (by omega) (L:=L)
    have g2:=fun L=>sq_ld hr2.row (i:=a+q) (by omega) (L:=L)
    have w1:=fun L=>sq_w1 hr2 hlim (i:=a+(d / 4*2-1)+i) (by omega) (L:=L) (gE l' (a+q))
    have w2:=fun L=>sq_w2 hr2 hlim (i:=a+(d / 4*2-1)+i) (j:=a+q) (by omega) (L:=L)
    have hr5:=hr2.swap (i:=a+(d / 4*2-1)+i) (j:=a+q) (by omega) (by omega)
    have hps5:=hp.trans (swp_perm (l:=l') (i:=a+(d / 4*2-1)+i) (j:=a+q) (a:=a) (b:=a+d) ⟨by omega,by omega⟩ ⟨by omega,by omega⟩ (by omega))
    have hw5:(H3.set b (rowB (swp l' (a+(d / 4*2-1)+i) (a+q))))[H.length]? = some (.row [.int .u64 z] true):=by
      rw [List.getElem?_set_ne (by omega)];exact hw2
    simp (disch:=omega) [f0,f1,f8,f9,f10,f11,f12,e1,e2,wrap_i64,g1,g2,w1,w2,sq_addr,-viaddrS_in,-vstore,-vload_ptrO]
    exact ⟨by omega,by omega,_,hr5,⟨z,hw2⟩,hps5⟩
  · simp
    exact hK _ _ hr hp
theorem sq_choose (hs:SqS b H0 l0 l H)(hlim:lim≤b)(hst:allStor fs=true∧allStor cs=true∧g≠3999999)(hc:CmpQ b g fs cs H0 l0 cf){a e:Nat}(hae:a+8≤e∧e≤l0.length)(hl:l0.length≤100000)
    (hK:∀H' (v h:Nat),SqS b H0 l0 l H'→(a≤v∧v<e)→K (.tup [.int .i64 (v:Nat),.int .i64 (h:Nat)]) H'):VCall tbl lim 114 [.sl b 0 l0.length 4,.int .i64 a,.int .i64 e,.func (.func g) fs cs] H K:=by
  refine VCall_fn tbl_at114 rfl ?_
  have hn:=hs.n
  have hb:=hs.blt
  have hle:=hs.len
  obtain ⟨d,rfl⟩:∃d,e=a+d:=⟨e-a,by omega⟩
  have e0:(a:Int)+(d:Int)-(a:Int)=(d:Int):=by omega
  have e8:((8:Int)≤(d:Int))=True:=eq_true (by omega)
  obtain ⟨q,eq4,hd4⟩:∃q:Nat,(d:Int).tdiv 4=(q:Int)∧4*q≤d∧d≤4*q+3:=⟨d / 4,tdiv_nat _ 4,by omega,by omega⟩
  simp (disch:=omega) [vf114,wrap_i64,e0,e8,eq4]
  have row1:(H++[Blk.row [V.int .i64 0] true])[H.length]? = some (.row [.int .i64 0] true):=by simp
  have hs1:SqS b H0 l0 l (H++[Blk.row [V.int .i64 0] true]):=hs.grow HX.push
  generalize H++[Blk.row [V.int .i64 0] true]=H1 at *
  generalize H.length=sw at *
  refine wCond_join (fun fr L H'=>∃i j k w,(fr 0=.sl b 0 l0.length 4∧fr 3=.func (.func g) fs cs∧fr 11=.ptr sw 0∧fr 12=.int .i64 (i:Nat)∧fr 13=.int .i64 (j:Nat)∧fr 14=.int .i64 (k:Nat))∧L=[]∧SqS b H0 l0 l H'∧H'[sw]? = some (.row [.int .i64 w] true)∧(a≤i∧i<a+d)∧(a≤j∧j<a+d)∧a≤k∧k<a+d) (fun h => ?_) (fun h => ?_) ?_
  · simp at h
    have c1:(a:Int)+(q:Int)=((a+q:Nat):Int):=by omega
    have c2:(a:Int)+(q:Int)*2=((a+q*2:Nat):Int):=by omega
    have c3:(a:Int)+(q:Int)*3=((a+q*3:Nat):Int):=by omega
    simp only [c1,c2,c3]
    generalize hi:a+q=i at *
    generalize hj:a+q*2=j at *
    generalize hk:a+q*3=k at *
    simp [hst]
    refine sq_medianAdj hs1 hlim hst hc row1 hle (x:=i) (by omega) hl fun H2 w2 r2 hs2 row2 h2 => ?_
    simp [hst]
    refine sq_medianAdj hs2 hlim hst hc row2 hle (x:=j) (by omega) hl fun H3 w3 r3 hs3 row3 h3 => ?_
    simp [hst]
    refine sq_medianAdj hs3 hlim hst hc row3 hle (x:=k) (by omega) hl fun H4 w4 r4 hs4 row4 h4 => ?_
    simp
    exact ⟨r2,r3,r4,by omega,hs4,⟨w4,row4⟩,by omega,by omega,by omega,by omega⟩
  · simp
    exact ⟨a+q,a+q*2,a+q*3,by omega,hs1,⟨0,row1⟩,by omega,by omega,by omega,by omega⟩
  rintro fr L H2 ⟨i,j,k,w,⟨f0,f3,f11,f12,f13,f14⟩,rfl,hs2,row2,hi,hj,hk⟩
  simp [f0,f3,f11,f12,f13,f14,hst]
  refine sq_median hs2 hlim hst hc row2 hle (x:=i) (y:=j) (z:=k) (by omega) (by omega) (by omega) fun H3 w3 r hs3 row3 h3 => ?_
  have ld:=fun L=>sw_ld row3 (L:=L)
  simp [f0,f3,f11,f12,f13,f14,ld,-vload_ptrO]
  refine cond_dec (fun h => ?_) fun h => ?_
  · simp
    exact hK _ r 1 hs3 (by omega)
  simp
  refine cond_dec (fun h => ?_) fun h => ?_
  · simp
    exact hK _ r 2 hs3 (by omega)
  · simp
    exact hK _ r 0 hs3 (by omega)
theorem sq_pdq (hc:CmpQ b g fs cs H0 l0 cf) (ho:Ordr cf) (hst:allStor fs=true∧allStor cs=true∧g≠3999999) (hlim:lim≤b) (hl:l0.length<256):∀(n:Nat) {H:Hp} {l:List EQ} {a e:Nat} {lm:Nat} {K:V→Hp→Prop},e-a≤n→SqS b H0 l0 l H→(a≤e∧e≤l0.length)→lm≤1000→GdR cf a e l →
    (∀H' l',SqS b H0 l0 l' H'→PermR a e l l'→SortR cf a e l'→K (.tup []) H')→VCall tbl lim 99 [.sl b 0 l0.length 4,.int .i64 a,.int .i64 e,.int .i64 lm,.func (.func g) fs cs] H K:=by
  intro n
  induction n using Nat.strongRecOn with
  | ind n ih =>
  intro H l a e lm K hn hs hae hlm hg hK
  have hb:=hs.blt
  refine VCall_fn tbl_at99 rfl ?_
  have hln:=hs.n
  simp [vf99]
  refine wLoop_m (n:=e-a) (fun m fr L H'=>∃l' a' e' lm wb wp,(fr 0=.sl b 0 l0.length 4∧fr 1=.int .i64 (a':Nat)∧fr 2=.int .i64 (e':Nat)∧fr 3=.int .i64 (lm:Nat)∧fr 4=.func (.func g) fs cs∧fr 10=.bool wb∧fr 11=.bool wp)∧L=[]∧SqS b H0 l0 l' H'∧PermR a e l l'∧OutR cf a e a' e' l'∧GdR cf a' e' l'∧lm≤1000∧m=e'-a'∧m≤e-a) ⟨l,a,e,lm,true,true,by simp,rfl,hs,PermR.refl,OutR.start hae.1,hg,hlm,rfl,Nat.le_refl _⟩ ?_
  clear hs hg hlm
  rintro m fr L H1 ⟨l1,x,y,lm1,wb,wp,⟨f0,f1,f2,f3,f4,f10,f11⟩,rfl,hs,hp,hO,hg,hlm,hm,hm2⟩
  have hlen:=hp.len
  have hrg:=hO.rng
  have e0:(y:Int)-(x:Int)=((y-x:Nat):Int):=by omega
  simp (disch:=omega) [f0,f1,f2,f3,f4,f10,f11,wrap_i64,hst]
  refine cond_dec (fun h12 => ?_) fun h12 => ?_
  · simp [f0,f1,f2,f3,f4,f10,f11,hst]
    refine sq_isort hs hlim hst hc ho (a:=x) (e:=y) (by omega) (by omega) fun H2 l2 hs2 hp2 hso2 => ?_
    simp
    exact hK _ _ hs2 (hp.trans (hp2.wide hrg.1 hrg.2.2)) ((hO.perm hp2 (by omega)).sort hso2)
  simp [f0,f1,f2,f3,f4,f10,f11,hst]
  by_cases hz:lm1=0
  · subst hz
    simp [f0,f1,f2,f3,f4,f10,f11,hst]
    refine sq_heap hs hlim hst hc ho (a:=x) (e:=y) (by omega) (by omega) fun H2 l2 hs2 hp2 hso2 => ?_
    simp
    exact hK _ _ hs2 (hp.trans (hp2.wide hrg.1 hrg.2.2)) ((hO.perm hp2 (by omega)).sort hso2)
  simp [f0,f1,f2,f3,f4,f10,f11,hst,hz]
  refine wCond_join (fun fr L H'=>∃l' lm,(fr 0=.sl b 0 l0.length 4∧fr 1=.int .i64 x∧fr 2=.int .i64 y∧fr 3=.int .i64 (lm:Nat)∧fr 4=.func (.func g) fs cs∧fr 10=.bool wb∧fr 11=.bool wp∧fr 12=.int .i64 ((y:Int)-(x:Int)))∧L=[]∧SqS b H0 l0 l' H'∧PermR a e l l'∧OutR cf a e x y l'∧GdR cf x y l'∧lm≤1000) (fun h => ?_) (fun h => ?_) ?_
  · simp [f0,f1,f2,f3,f4,f10,f11,hst]
    refine sq_break hs hlim (a:=x) (e:=y) (by simp [stor,hst]) (by omega) (by omega) fun H2 l2 hs2 hp2 => ?_
    have e1:(lm1:Int)-1=((lm1-1:Nat):Int):=by omega
    simp (disch:=omega) [f0,f1,f2,f3,f4,f10,f11,wrap_i64,e1]
    exact ⟨l2,lm1-1,by omega,hs2,hp.trans (hp2.wide hrg.1 hrg.2.2),hO.perm hp2 (by omega),hg.perm hp2 (Nat.le_refl _) (Nat.le_refl _) (by omega),by omega⟩
  · simp [f0,f1,f2,f3,f4,f10,f11]
    exact ⟨l1,lm1,by omega,hs,hp,hO,hg,by omega⟩
  clear f0 f1 f2 f3 f4 f10 f11 hs hp hO hg hlen hlm hz
  rintro fr L H2 ⟨l2,lm2,⟨f0,f1,f2,f3,f4,f10,f11,f12⟩,rfl,hs,hp,hO,hg,hlm⟩
  have hlen:=hp.len
  simp [f0,f1,f2,f3,f4,f10,f11,f12,hst]
  refine sq_choose hs hlim hst hc (a:=x) (e:=y) (by omega) (by omega) fun H3 v hint hs3 hv => ?_
  simp [f0,f1,f2,f3,f4,f10,f11,f12,hst]
  refine wCond_join (fun fr L H'=>∃l' v hint,(fr 0=.sl b 0 l0.length 4∧fr 1=.int .i64 x∧fr 2=.int .i64 y∧fr 3=.int .i64 (lm2:Nat)∧fr 4=.func (.func g) fs cs∧fr 10=.bool wb∧fr 11=.bool wp∧fr 12=.int .i64 ((y:Int)-(x:Int))∧fr 13=.int .i64 (v:Nat)∧fr 14=.int .i64 (hint:Nat))∧L=[]∧SqS b H0 l0 l' H'∧PermR a e l l'∧OutR cf a e x y l'∧GdR cf x y l'∧x≤v∧v<y) (fun h => ?_) (fun h => ?_) ?_
  · simp [f0,f1,f2,f3,f4,f10,f11,hst]
    refine sq_reverse hs3 hlim (a:=x) (e:=y) (by omega) (by omega) fun H4 l4 hs4 hp4 => ?_
    simp (disch:=omega) [f0,f1,f2,f3,f4,f10,f11,f12,wrap_i64]
    exact ⟨l4,(y-1)-(v-x),⟨by omega,1,rfl⟩,hs4,hp.trans (hp4.wide hrg.1 hrg.2.2),hO.perm hp4 (by omega),hg.perm hp4 (Nat.le_refl _) (Nat.le_refl _) (by omega),by omega,by omega⟩
  · simp [f0,f1,f2,f3,f4,f10,f11,f12]
    exact ⟨l2,v,⟨rfl,hint,rfl⟩,hs3,hp,hO,hg,by omega,by omega⟩
  clear f0 f1 f2 f3 f4 f10 f11 f12 hs hs3 hp hO hg hlen hv
  rintro fr L H4 ⟨l4,v,hint,⟨f0,f1,f2,f3,f4,f10,f11,f12,f13,f14⟩,rfl,hs,hp,hO,hg,hv⟩
  have hlen:=hp.len
  rw [seqQ_normal]
  refine wSeq_join (fun fr L H'=>∃l' wb wp,(fr 0=.sl b 0 l0.length 4∧fr 1=.int .i64 x∧fr 2=.int .i64 y∧fr 3=.int .i64 (lm2:Nat)∧fr 4=.func (.func g) fs cs∧fr 12=.int .i64 ((y:Int)-(x:Int))∧fr 13=.int .i64 (v:Nat)∧fr 10=.bool wb∧fr 11=.bool wp)∧L=[]∧SqS b H0 l0 l' H'∧PermR a e l l'∧OutR cf a e x y l'∧GdR cf x y l') ?_ ?_
  · have pis:∀(fr:Fr),fr 0=.sl b 0 l0.length 4→True:=fun _ _=>trivial
    by_cases hh:wb=true∧wp=true∧hint=1
    · obtain ⟨rfl,rfl,rfl⟩:=hh
      simp [f0,f1,f2,f3,f4,f10,f11,f12,f13,f14,hst]
      refine sq_pis hs hlim hst hc ho (a:=x) (e:=y) (by omega) (by omega) hg fun H5 l5 ok hs5 hp5 hso5 => ?_
      cases ok with
      | true =>
        simp
        exact hK _ _ hs5 (hp.trans (hp5.wide hrg.1 hrg.2.2)) ((hO.perm hp5 (by omega)).sort (hso5 rfl))
      | false =>
        simp [f0,f1,f2,f3,f4,f10,f11,f12,f13,f14]
        exact ⟨l5,hs5,hp.trans (hp5.wide hrg.1 hrg.2.2),hO.perm hp5 (by omega),hg.perm hp5 (Nat.le_refl _) (Nat.le_refl _) (by omega)⟩
    · have fin:∃l',SqS b H0 l0 l' H4∧PermR a e l l'∧OutR cf a e x y l'∧GdR cf x y l':=⟨l4,hs,hp,hO,hg⟩
      cases wb with
      | false =>
        simp [f0,f1,f2,f3,f4,f10,f11,f12,f13,f14]
        exact fin
      | true =>
        cases wp with
        | false =>
          simp [f0,f1,f2,f3,f4,f10,f11,f12,f13,f14]
          exact fin
        | true =>
          have h1:((hint:Int)=1)=False:=eq_false (by simp at hh;omega)
          simp [f0,f1,f2,f3,f4,f10,f11,f12,f13,f14,h1]
          exact fin
  clear f0 f1 f2 f3 f4 f10 f11 f12 f13 f14 hs hp hO hg hlen
  rintro fr L H5 ⟨l5,wb,wp,⟨f0,f1,f2,f3,f4,f12,f13,f10,f11⟩,rfl,hs,hp,hO,hg⟩
  have hlen:=hp.len
  refine wSeq_join (fun fr L H'=>∃l' wb wp,(fr 0=.sl b 0 l0.length 4∧fr 1=.int .i64 x∧fr 2=.int .i64 y∧fr 3=.int .i64 (lm2:Nat)∧fr 4=.func (.func g) fs cs∧fr 12=.int .i64 ((y:Int)-(x:Int))∧fr 13=.int .i64 (v:Nat)∧fr 10=.bool wb∧fr 11=.bool wp)∧L=[]∧SqS b H0 l0 l' H'∧PermR a e l l'∧OutR cf a e x y l'∧GdR cf x y l') ?_ ?_
  · by_cases hx0:x=0
    · have h0:(0<x)=False:=eq_false (by omega)
      simp [f0,f1,f2,f3,f4,f10,f11,f12,f13,h0]
      exact ⟨l5,hs,hp,hO,hg⟩
    · have h0:(0<x)=True:=eq_true (by omega)
      have e1:((x:Int)-1).toNat=x-1:=by omega
      have g1:=fun L=>sq_ld hs.row (i:=x-1) (by omega) (L:=L)
      have g2:=fun L=>sq_ld hs.row (i:=v) (by omega) (L:=L)
      simp (disch:=omega) [f0,f1,f2,f3,f4,f10,f11,f12,f13,h0,e1,wrap_i64,g1,g2,hst,sq_addr,-viaddrS_in,-vload_ptrO]
      refine hc.at hs (i:=x-1) (j:=v) (by omega) (by omega) fun H6 x6 hs6 => ?_
      simp
      refine cond_ndec (fun hlt => ?_) fun hlt => ?_
      · simp [f0,f1,f2,f3,f4,f10,f11,f12,f13,hst]
        refine sq_partEq hs6 hlim hst hc ho (a:=x) (e:=y) (v:=v) (by omega) (by omega) (hg.least ho (by omega) hlt) fun H7 l7 q hs7 hp7 hq heq => ?_
        have hO7:=(hO.perm hp7 (by omega)).equal (m:=q) (by omega) heq
        simp [f0,f1,f2,f3,f4,f10,f11,f12,f13]
        exact ⟨y-q,by omega,l7,q,y,lm2,by omega,hs7,hp.trans (hp7.wide hrg.1 hrg.2.2),hO7,hO7.guard (by omega),by omega,rfl,by omega⟩
      · simp [f0,f1,f2,f3,f4,f10,f11,f12,f13]
        exact ⟨l5,hs6,hp,hO,hg⟩
  clear f0 f1 f2 f3 f4 f10 f11 f12 f13 hs hp hO hg hlen
  rintro fr L H6 ⟨l6,wb,wp,⟨f0,f1,f2,f3,f4,f12,f13,f10,f11⟩,rfl,hs,hp,hO,hg⟩
  have hlen:=hp.len
  simp [f0,f1,f2,f3,f4,f10,f11,f12,f13,hst]
  refine sq_part hs hlim hst hc ho (a:=x) (e:=y) (v:=v) (by omega) (by omega) fun H7 l7 q ok hs7 hp7 hq => ?_
  have hqr:=hq.rng
  have hO7:=hO.perm hp7 (by omega)
  have hp77:=hp.trans (hp7.wide hrg.1 hrg.2.2)
  have hl7:=hp77.len
  simp (disch:=omega) [f0,f1,f2,f3,f4,f10,f11,f12,f13,hst,wrap_i64]
  refine cond_dec (fun hlr => ?_) fun hlr => ?_
  · simp [f0,f1,f2,f3,f4,f10,f11,f12,f13,hst]
    refine ih (q-x) (by omega) (Nat.le_refl _) hs7 (by omega) hlm ((hg.perm hp7 (Nat.le_refl _) (Nat.le_refl _) (by omega)).less (by omega)) fun H8 l8 hs8 hp8 hso8 => ?_
    have hO8:=hO7.left ho hq hp8 hso8 (by omega)
    simp (disch:=omega) [f0,f1,f2,f3,f4,f10,f11,f12,f13,hst,wrap_i64]
    exact ⟨y-(q+1),by omega,l8,q+1,y,lm2,by omega,hs8,hp77.trans (hp8.wide (by omega) (by omega)),hO8,hO8.guard (by omega),by omega,rfl,by omega⟩
  · have e1:(q:Int)+1=((q+1:Nat):Int):=by omega
    simp (disch:=omega) [f0,f1,f2,f3,f4,f10,f11,f12,f13,hst,wrap_i64]
    rw [e1]
    refine ih (y-(q+1)) (by omega) (Nat.le_refl _) hs7 (by omega) hlm (fun _ k h1 h2=>hq.hi k (by omega) h2) fun H8 l8 hs8 hp8 hso8 => ?_
    have hO8:=hO7.right ho hq hp8 hso8 (by omega)
    simp (disch:=omega) [f0,f1,f2,f3,f4,f10,f11,f12,f13,hst,wrap_i64]
    exact ⟨q-x,by omega,l8,x,q,lm2,by omega,hs8,hp77.trans (hp8.wide (by omega) (by omega)),hO8,((hg.perm hp7 (Nat.le_refl _) (Nat.le_refl _) (by omega)).perm hp8 (by omega) (Nat.le_refl _) (by omega)).less (by omega),by omega,rfl,by omega⟩
theorem sq_sort (hb:H[b]? = some (rowB l))(hlim:lim≤b)(hst:allStor fs=true∧allStor cs=true∧g≠3999999)(hc:CmpQ b g fs cs H l cf)(ho:Ordr cf)(hl:l.length<256)
    (hK:∀H' l',SqS b H l l' H'→SortR cf 0 l.length l'→K (.tup []) H'):VCall tbl lim 88 [.sl b 0 l.length 4,.func (.func g) fs cs] H K:=by
  refine VCall_fn tbl_at88 rfl ?_
  have hbl:=(List.getElem?_eq_some_iff.1 hb).1
  have wu:IntKind.wrap .u64 (l.length:Int)=(l.length:Int):=wrap_u64 (by omega)
  simp [vf88,wu,hst]
  refine sq_bits (x:=l.length) hl (by omega) fun m hm => ?_
  simp [hst]
  refine sq_pdq (a:=0) (e:=l.length) hc ho hst hlim hl l.length (by omega) (SqS.start hb) (by omega) (by omega) (fun h=>by omega) fun H' l' hs hp hso => ?_
  simp
  exact hK _ _ hs hso
end
end Go.Proofs.Ytclghkegfpcdpaa.Vm
namespace Go.Proofs.Ytclghkegfpcdpaa.Vm
open Go
set_option maxRecDepth 100000
set_option maxHeartbeats 1000000
set_option linter.unusedSimpArgs false
set_option linter.unusedVariables false
attribute [-simp] List.getD_eq_getElem?_getD
section
variable {c:Cp}{s:Nat}
theorem walk_conds (hok:CapOk c) (hs:s<nsN c.P) :
    (∀i,i≤rnN (nsN c.P) (nxN c.P) (lsN c) s→wlk (layL c.P (lsN c)) s i=itN (nuP c) i s) ∧
    (∀i,i<rnN (nsN c.P) (nxN c.P) (lsN c) s→((layL c.P (lsN c)).getD (wlk (layL c.P (lsN c)) s i) default).p≠-1∧wlk (layL c.P (lsN c)) s (i+1)≠s) ∧
    (((layL c.P (lsN c)).getD (wlk (layL c.P (lsN c)) s (rnN (nsN c.P) (nxN c.P) (lsN c) s)) default).p = -1∨wlk (layL c.P (lsN c)) s (rnN (nsN c.P) (nxN c.P) (lsN c) s+1)=s):=by
  have hnu:=hok.nu
  obtain ⟨h1,h2,h3⟩:=rn_spec (L:=lsN c) hnu hs
  have hw:∀i,i≤rnN (nsN c.P) (nxN c.P) (lsN c) s→wlk (layL c.P (lsN c)) s i=itN (nuP c) i s:=fun i hi=>wlk_it hok.sm_ok hs fun j hj=>(h3 j (by omega)).1
  refine ⟨hw,fun i hi => ?_,?_⟩
  · rw [hw i (by omega),hw (i+1) (by omega)]
    refine ⟨fun e=>(h3 i hi).1 ((lay_free (hnu.it hs i)).1 e),(h3 i hi).2⟩
  · rw [hw _ (Nat.le_refl _)]
    by_cases hf:alf (lsN c) (itN (nuP c) (rnN (nsN c.P) (nxN c.P) (lsN c) s) s)=itN (nuP c) (rnN (nsN c.P) (nxN c.P) (lsN c) s) s
    · exact Or.inl ((lay_free (hnu.it hs _)).2 hf)
    · right
      have h2:itN (nuP c) (rnN (nsN c.P) (nxN c.P) (lsN c) s+1) s=s:=by
        rcases h2 with h2 | h2
        · exact absurd h2 hf
        · exact h2
      have e:=wlk_it hok.sm_ok hs (k:=rnN (nsN c.P) (nxN c.P) (lsN c) s+1) fun j hj=>by
        by_cases e:j=rnN (nsN c.P) (nxN c.P) (lsN c) s
        · subst e;exact hf
        · exact (h3 j (by omega)).1
      rw [e];exact h2
def wkL (c:Cp)(s i:Nat):List Int:=(List.range i).map fun j=>((itN (nuP c) j s:Nat):Int)
def wkS (c:Cp)(s i:Nat):Int:=((List.range i).map fun j=>anN c.P (itN (nuP c) j s)).sum
theorem wkL_snoc {i:Nat}:wkL c s (i+1)=wkL c s i++[((itN (nuP c) i s:Nat):Int)]:=by simp [wkL,List.range_succ]
theorem wkL_len {i:Nat}:(wkL c s i).length=i:=by simp [wkL]
theorem wkS_snoc {i:Nat}:wkS c s (i+1)=wkS c s i+anN c.P (itN (nuP c) i s):=sum_range_succ
theorem an_bd (hok:CapOk c){k:Nat}(hk:k<nsN c.P):1≤anN c.P k∧anN c.P k≤359:=by
  obtain ⟨q,j,h1,h2,rfl⟩:=off_loc hk
  rw [an_at h1 h2]
  exact ((piece_ok (hok.pc q h1)).2.2.1 j h2).2
theorem wkS_bd (hok:CapOk c)(hs:s<nsN c.P):∀i,0≤wkS c s i∧wkS c s i≤359*i
  | 0=>by simp [wkS]
  | i+1=>by
    have h1:=wkS_bd hok hs i
    have h2:=an_bd hok (hok.nu.it hs i)
    rw [wkS_snoc];omega
theorem wkS_ring (hok:CapOk c)(hs:s<nsN c.P)(hcl:StaN (nsN c.P) (nxN c.P) (lsN c) s∨InnN (nsN c.P) (nxN c.P) (lsN c) s):wkS c s (rnN (nsN c.P) (nxN c.P) (lsN c) s+1)=((memE (PtR c) (nsN c.P) s).map (anN c.P)).sum:=by
  have:=perm_sum ((ring_perm (L:=lsN c) hok.nu hs hcl).map (anN c.P))
  rw [←PtR,ringN,List.map_map] at this
  exact this
def natL (l:List Nat):List Int:=l.map fun k:Nat=>(k:Int)
theorem natL_len {l:List Nat}:(natL l).length=l.length:=by simp [natL]
theorem sort_ring (hok:CapOk c)(hs:s<nsN c.P)(hcl:StaN (nsN c.P) (nxN c.P) (lsN c) s∨InnN (nsN c.P) (nxN c.P) (lsN c) s){l:List Int}(hp:l.Perm (wkL c s (rnN (nsN c.P) (nxN c.P) (lsN c) s+1)))(ha:l.Pairwise fun a b=>a≤b):l=natL (memE (PtR c) (nsN c.P) s):=by
  have h1:(wkL c s (rnN (nsN c.P) (nxN c.P) (lsN c) s+1)).Perm (natL (memE (PtR c) (nsN c.P) s)):=by
    have:=(ring_perm (L:=lsN c) hok.nu hs hcl).map fun k:Nat=>(k:Int)
    rw [←PtR,ringN,List.map_map] at this
    exact this
  have h2:=hp.trans h1
  have ha2:(natL (memE (PtR c) (nsN c.P) s)).Pairwise fun a b=>a<b:=by
    rw [natL,List.pairwise_map]
    exact memE_asc.imp fun h=>by omega
  have hnd:l.Nodup:=by
    rw [h2.nodup_iff]
    exact ha2.imp fun h e=>by omega
  refine asc_uniq (key:=fun x=>x) h2 ?_ ha2
  have:l.Pairwise fun a b=>a≤b∧a≠b:=by
    rw [List.pairwise_and_iff];exact ⟨ha,hnd⟩
  exact this.imp fun h=>by omega
end
def OthM (m:Nat)(H H':Hp):Prop:=H.length≤H'.length∧∀b,b<H.length→b≠m→H'[b]? = H[b]?
structure PtsS (n0:Nat)(H0:Hp)(lv:V)(M:List (Int×Bool))(u:V)(pts:List Pnt)(cl:List (List Int))(H:Hp):Prop where
  hx:HX H0 H
  hn:H0.length=n0
  b0:H[n0]? = some (.row [lv] true)
  b1:H[n0+1]? = some (.map (mE kI .bool M))
  b2:H[n0+2]? = some (.row [.mp (n0+1)] true)
  b3:H[n0+3]? = some (.row [u] true)
  ou:OwnT (n0+4) pntC H u pts
  len:cl.length=pts.length
  oc:∀i,i<pts.length→OwnV (n0+4) H (pts.getD i default).v (cl.getD i [])
  ap:∀i,i<pts.length→∀b o z y o' z' y',u=.sl b o z y→(pts.getD i default).v=.sl b o' z' y'→False
section
variable {n0 lim:Nat}{H H0 Hc H':Hp}{K:V→Hp→Prop}{lv u v:V}{M:List (Int×Bool)}{pts:List Pnt}{cl:List (List Int)}{c:Cp}{s:Nat}
theorem PtsS.big (h:PtsS n0 H0 lv M u pts cl Hc):n0+4≤Hc.length:=(List.getElem?_eq_some_iff.1 h.b3).1
theorem PtsS.move {M':List (Int×Bool)}(h:PtsS n0 H0 lv M u pts cl Hc)(ho:OthM (n0+1) Hc H')(hm:H'[n0+1]? = some (.map (mE kI .bool M'))):PtsS n0 H0 lv M' u pts cl H' where
  hx:=HX.of (by have:=h.hx.len;have:=ho.1;omega) fun b hb=>by
    have:=h.hx.len
    have:=h.hn
    rw [ho.2 b (by omega) (by omega),h.hx.same hb]
  hn:=h.hn
  b0:=by have:=h.big;rw [ho.2 _ (by omega) (by omega)];exact h.b0
  b1:=hm
  b2:=by have:=h.big;rw [ho.2 _ (by omega) (by omega)];exact h.b2
  b3:=by have:=h.big;rw [ho.2 _ (by omega) (by omega)];exact h.b3
  ou:=h.ou.keepB fun b o m z e=>by have:=h.ou.belowB _ _ _ _ e;exact ho.2 b (by omega) (by omega)
  len:=h.len
  oc:=fun i hi=>(h.oc i hi).keepB fun b o m z e=>by have:=(h.oc i hi).belowB _ _ _ _ e;exact ho.2 b (by omega) (by omega)
  ap:=h.ap
theorem sorted_le {l:List Int}(h:SortR cfI 0 l.length l):l.Pairwise fun a b=>a≤b:=by
  rw [List.pairwise_iff_getElem]
  intro i j hi hj hij
  have:=h i j (Nat.zero_le _) hij hj
  simp only [leC,cfI,List.getD_eq_getElem?_getD,List.getElem?_eq_getElem hi,List.getElem?_eq_getElem hj,Option.getD_some] at this
  omega
theorem surf_around {a:V}(hs:stor a=true)(h1:cellsV a=[a]){n:Int}(hK:K (.func (.func 96) [] [.ptr (H.length+1) 0,.ptr H.length 0]) (H++[.row [a] true,.row [.int .i64 n] true])):VCall tbl lim 86 [a,.int .i64 n] H K:=by
  refine VCall_fn tbl_at86 rfl ?_
  simp [vf86,hs,h1]
  exact hK
theorem st_cell {b o:Nat}{cs:List V}{x:V}(hb:H[b]? = some (.row cs true))(hl:lim≤b)(hs:stor x=true)(h1:cellsV x=[x])(ho:o<cs.length){L:Lo}:vstore lim L H (.ptr b o) x 1=some (L,H.set b (.row (splice cs o [x]) true)):=by
  have:o+1≤cs.length:=ho
  simp [vstore,vstoreH,hb,hl,hs,h1,this]
structure RndI (Hc:Hp)(n0 bp:Nat)(lv:V)(M:List (Int×Bool))(inner:Bool)(frv:List V)(c:Cp)(s i:Nat)(H':Hp):Prop where
  oth:OthM (n0+1) Hc H'
  ex:∃cv M',H'[n0+1]? = some (.map (mE kI .bool M'))∧H'[bp]? = some (.row [cv,.bool inner,.int .i64 (wkS c s i),.int .i64 0] true)∧OwnV (bp+4) H' cv (wkL c s i)∧∀k,(look k M').getD false=true↔(look k M).getD false=true∨k∈wkL c s i
  r1:H'[bp+1]? = some (.row [lv] true)
  r2:H'[bp+2]? = some (.row [.int .i64 (s:Int)] true)
  r3:H'[bp+3]? = some (.loop 4000085 [14] frv)
theorem OthM.trans {m:Nat}{A B C:Hp}(h:OthM m A B)(g:OthM m B C):OthM m A C:=⟨Nat.le_trans h.1 g.1,fun b hb hne=>by rw [g.2 b (by have:=h.1;omega) hne,h.2 b hb hne]⟩
theorem collect_round {i:Nat}{inner:Bool}{frv:List V}(hok:CapOk c)(hs:s<nsN c.P)(hi:i≤rnN (nsN c.P) (nxN c.P) (lsN c) s)(hlim:lim≤n0)(hS:PtsS n0 H0 lv M u pts cl Hc)(hlv:LstV sdC H0 lv (layL c.P (lsN c)))
    (f2:∀v,frR (setPs frv [14] [v]) 2=.ptr n0 0) (f3:∀v,frR (setPs frv [14] [v]) 3=.ptr (n0+2) 0) (f7:∀v,frR (setPs frv [14] [v]) 7=.ptr Hc.length 0) (f14:∀v,frR (setPs frv [14] [v]) 14=v) (flen:48=frv.length)
    (hI:RndI Hc n0 Hc.length lv M inner frv c s i H'):VCall tbl lim 3999999 [.yl (Hc.length+3),.int .i64 (itN (nuP c) i s:Nat)] H' fun v H''=>v=.bool true∧RndI Hc n0 Hc.length lv M inner frv c s (i+1) H'':=by
  obtain ⟨⟨o1,o2⟩,⟨cv,M',m1,m2,m3,m4⟩,r1,r2,r3⟩:=hI
  have hbig:=hS.big
  have hlt3:=(List.getElem?_eq_some_iff.1 r3).1
  refine VCall_yield (f:=4000085) (ps:=[14]) (fr:=frv) r3 (by omega) rfl tbl_at4000085 flen rfl ?_
  generalize hq:itN (nuP c) i s=q
  have hqN:q<nsN c.P:=by rw [←hq];exact hok.nu.it hs i
  have hns:=hok.ns
  simp [f14]
  have e2:(H'.set (Hc.length+3) .dead)[n0+2]? = some (.row [.mp (n0+1)] true):=by
    rw [List.getElem?_set_ne (by omega),o2 _ (by omega) (by omega)];exact hS.b2
  have e0:(H'.set (Hc.length+3) .dead)[n0]? = some (.row [lv] true):=by
    rw [List.getElem?_set_ne (by omega),o2 _ (by omega) (by omega)];exact hS.b0
  have e1:(H'.set (Hc.length+3) .dead)[n0+1]? = some (.map (mE kI .bool M')):=by
    rw [List.getElem?_set_ne (by omega)];exact m1
  have ep:(H'.set (Hc.length+3) .dead)[Hc.length]? = some (.row [cv,.bool inner,.int .i64 (wkS c s i),.int .i64 0] true):=by
    rw [List.getElem?_set_ne (by omega)];exact m2
  have ev:OwnV (Hc.length+4) (H'.set (Hc.length+3) .dead) cv (wkL c s i):=m3.keepB fun b o m z e=>by
    have:=m3.belowB _ _ _ _ e
    rw [List.getElem?_set_ne (by omega)]
  have edd:(H'.set (Hc.length+3) .dead)[Hc.length+3]? = some .dead:=List.getElem?_set_self hlt3
  have er1:(H'.set (Hc.length+3) .dead)[Hc.length+1]? = some (.row [lv] true):=by rw [List.getElem?_set_ne (by omega)];exact r1
  have er2:(H'.set (Hc.length+3) .dead)[Hc.length+2]? = some (.row [.int .i64 (s:Int)] true):=by rw [List.getElem?_set_ne (by omega)];exact r2
  have eo:∀b,b<Hc.length→b≠n0+1→(H'.set (Hc.length+3) .dead)[b]? = Hc[b]? := fun b hb hne=>by rw [List.getElem?_set_ne (by omega)];exact o2 b hb hne
  have elen:(H'.set (Hc.length+3) .dead).length=H'.length:=by simp
  generalize H'.set (Hc.length+3) .dead=Hd at *
  have hput:vmput lim false [.int .i64] Hd (.mp (n0+1)) (.int .i64 (q:Int)) (.bool true)=some (Hd.set (n0+1) (.map (mE kI .bool (putA (q:Int) true M')))):=vmputE (K:=kI) (vc:=V.bool) (u:=true) e1 (by omega) rfl
  have g2:(Hd.set (n0+1) (.map (mE kI .bool (putA (q:Int) true M'))))[n0+2]? = some (.row [.mp (n0+1)] true):=by rw [List.getElem?_set_ne (by omega)];exact e2
  have g0:(Hd.set (n0+1) (.map (mE kI .bool (putA (q:Int) true M'))))[n0]? = some (.row [lv] true):=by rw [List.getElem?_set_ne (by omega)];exact e0
  have g1:(Hd.set (n0+1) (.map (mE kI .bool (putA (q:Int) true M'))))[n0+1]? = some (.map (mE kI .bool (putA (q:Int) true M'))):=List.getElem?_set_self (List.getElem?_eq_some_iff.1 e1).1
  have gp:(Hd.set (n0+1) (.map (mE kI .bool (putA (q:Int) true M'))))[Hc.length]? = some (.row [cv,.bool inner,.int .i64 (wkS c s i),.int .i64 0] true):=by rw [List.getElem?_set_ne (by omega)];exact ep
  have gd:(Hd.set (n0+1) (.map (mE kI .bool (putA (q:Int) true M'))))[Hc.length+3]? = some .dead:=by rw [List.getElem?_set_ne (by omega)];exact edd
  have gr1:(Hd.set (n0+1) (.map (mE kI .bool (putA (q:Int) true M'))))[Hc.length+1]? = some (.row [lv] true):=by rw [List.getElem?_set_ne (by omega)];exact er1
  have gr2:(Hd.set (n0+1) (.map (mE kI .bool (putA (q:Int) true M'))))[Hc.length+2]? = some (.row [.int .i64 (s:Int)] true):=by rw [List.getElem?_set_ne (by omega)];exact er2
  have gv:OwnV (Hc.length+4) (Hd.set (n0+1) (.map (mE kI .bool (putA (q:Int) true M')))) cv (wkL c s i):=ev.keepB fun b o m z e=>by
    have:=ev.belowB _ _ _ _ e
    rw [List.getElem?_set_ne (by omega)]
  have go:∀b,b<Hc.length→b≠n0+1→(Hd.set (n0+1) (.map (mE kI .bool (putA (q:Int) true M'))))[b]? = Hc[b]? := fun b hb hne=>by rw [List.getElem?_set_ne (by omega)];exact eo b hb hne
  have glen:(Hd.set (n0+1) (.map (mE kI .bool (putA (q:Int) true M')))).length=H'.length:=by simp [elen]
  generalize Hd.set (n0+1) (.map (mE kI .bool (putA (q:Int) true M')))=Hm at *
  obtain ⟨cv2,H2,p1,p2,p3,p4,p5,p6⟩:=gv.appendF (lim:=lim) (x:=(q:Int)) ⟨by omega,by omega⟩ (by
    have:=(rn_spec (L:=lsN c) hok.nu hs).1
    rw [wkL_len];omega)
  have below:∀b,b<Hc.length+4→∀o z y,cv≠.sl b o z y:=fun b hb o z y e=>by have:=gv.belowB _ _ _ _ e;omega
  have k0:=(p5 n0 (by omega) (below _ (by omega))).trans g0
  have k1:=(p5 (n0+1) (by omega) (below _ (by omega))).trans g1
  have kp:=(p5 Hc.length (by omega) (below _ (by omega))).trans gp
  have kd:=(p5 (Hc.length+3) (by omega) (below _ (by omega))).trans gd
  have kr1:=(p5 (Hc.length+1) (by omega) (below _ (by omega))).trans gr1
  have kr2:=(p5 (Hc.length+2) (by omega) (below _ (by omega))).trans gr2
  have ko:∀b,b<Hc.length→b≠n0+1→H2[b]? = Hc[b]? := fun b hb hne=>(p5 b (by omega) (below _ (by omega))).trans (go b hb hne)
  have st1:=fun L=>st_cell (L:=L) (x:=cv2) kp (lim:=lim) (o:=0) (by omega) p2.sl.stor p2.sl.one (by simp)
  have sp1:splice [cv,.bool inner,.int .i64 (wkS c s i),.int .i64 0] 0 [cv2]=[cv2,.bool inner,.int .i64 (wkS c s i),.int .i64 0]:=by simp [splice]
  rw [sp1] at st1
  have lp1:=(List.getElem?_eq_some_iff.1 kp).1
  have q0:(H2.set Hc.length (.row [cv2,.bool inner,.int .i64 (wkS c s i),.int .i64 0] true))[n0]? = some (.row [lv] true):=by rw [List.getElem?_set_ne (by omega)];exact k0
  have q1:(H2.set Hc.length (.row [cv2,.bool inner,.int .i64 (wkS c s i),.int .i64 0] true))[n0+1]? = some (.map (mE kI .bool (putA (q:Int) true M'))):=by rw [List.getElem?_set_ne (by omega)];exact k1
  have qp:(H2.set Hc.length (.row [cv2,.bool inner,.int .i64 (wkS c s i),.int .i64 0] true))[Hc.length]? = some (.row [cv2,.bool inner,.int .i64 (wkS c s i),.int .i64 0] true):=List.getElem?_set_self lp1
  have qd:(H2.set Hc.length (.row [cv2,.bool inner,.int .i64 (wkS c s i),.int .i64 0] true))[Hc.length+3]? = some .dead:=by rw [List.getElem?_set_ne (by omega)];exact kd
  have qr1:(H2.set Hc.length (.row [cv2,.bool inner,.int .i64 (wkS c s i),.int .i64 0] true))[Hc.length+1]? = some (.row [lv] true):=by rw [List.getElem?_set_ne (by omega)];exact kr1
  have qr2:(H2.set Hc.length (.row [cv2,.bool inner,.int .i64 (wkS c s i),.int .i64 0] true))[Hc.length+2]? = some (.row [.int .i64 (s:Int)] true):=by rw [List.getElem?_set_ne (by omega)];exact kr2
  have qv:OwnV (Hc.length+4) (H2.set Hc.length (.row [cv2,.bool inner,.int .i64 (wkS c s i),.int .i64 0] true)) cv2 (wkL c s i++[(q:Int)]):=p2.keepB fun b o m z e=>by
    have:=p2.belowB _ _ _ _ e
    rw [List.getElem?_set_ne (by omega)]
  have qo:∀b,b<Hc.length→b≠n0+1→(H2.set Hc.length (.row [cv2,.bool inner,.int .i64 (wkS c s i),.int .i64 0] true))[b]? = Hc[b]? := fun b hb hne=>by rw [List.getElem?_set_ne (by omega)];exact ko b hb hne
  have qlen:(H2.set Hc.length (.row [cv2,.bool inner,.int .i64 (wkS c s i),.int .i64 0] true)).length=H2.length:=by simp
  generalize H2.set Hc.length (.row [cv2,.bool inner,.int .i64 (wkS c s i),.int .i64 0] true)=H3 at *
  have hxl:LstV sdC H3 lv (layL c.P (lsN c)):=hlv.mono (HX.of (by have:=hS.hx.len;omega) fun b hb=>by
    have:=hS.hx.len
    have:=hS.hn
    rw [qo b (by omega) (by omega),hS.hx.same hb])
  have ad:=hxl.at (i:=q) (by rw [layL_len];exact hqN)
  have fa:vfaddr 1 (ept 5 lv q)=some (eptf 5 lv q 1):=hxl.faddr (by rw [layL_len];exact hqN)
  have ld:∀L,vload none L H3 (eptf 5 lv q 1)=some (.int .i64 (anN c.P q)):=fun L=>by
    rw [hxl.rd1 (by rw [layL_len];exact hqN) (by omega),layL_get hqN];rfl
  have hb:=wkS_bd hok hs i
  have hil:=(rn_spec (L:=lsN c) hok.nu hs).1
  have ha:=an_bd hok hqN
  have ws:IntKind.wrap .i64 (wkS c s i+anN c.P q)=wkS c s (i+1):=by rw [wkS_snoc,hq];exact wrap_i64 (by omega) (by omega)
  have st2:=fun L=>st_cell (L:=L) (x:=.int .i64 (wkS c s (i+1))) qp (lim:=lim) (o:=2) (by omega) rfl rfl (by simp)
  have sp2:splice [cv2,.bool inner,.int .i64 (wkS c s i),.int .i64 0] 2 [.int .i64 (wkS c s (i+1))]=[cv2,.bool inner,.int .i64 (wkS c s (i+1)),.int .i64 0]:=by simp [splice]
  rw [sp2] at st2
  simp [f2,f3,f7,rd0,rd1',rd2',e2,hput,gp,p1,st1,qp,q0,ad,fa,ld,ws,st2,-vstore,lpId_eptf]
  refine ⟨⟨_,_,_,r3⟩,qd,⟨⟨by simp;omega,fun b hb hne => ?_⟩,⟨cv2,putA (q:Int) true M',?_,?_,?_,fun k => ?_⟩,?_,?_,?_⟩⟩
  · rw [List.getElem?_set_ne (by omega),List.getElem?_set_ne (by omega)];exact qo b hb hne
  · rw [List.getElem?_set_ne (by omega),List.getElem?_set_ne (by omega)];exact q1
  · rw [List.getElem?_set_ne (by omega),List.getElem?_set_self (by omega)]
  · rw [wkL_snoc,hq]
    exact qv.keepB fun b o m z e=>by
      have:=qv.belowB _ _ _ _ e
      rw [List.getElem?_set_ne (by omega),List.getElem?_set_ne (by omega)]
  · rw [look_put,wkL_snoc,hq,List.mem_append,List.mem_singleton]
    by_cases e:k=(q:Int)
    · simp [e]
    · rw [if_neg e,m4 k];simp [e]
  · rw [List.getElem?_set_ne (by omega),List.getElem?_set_ne (by omega)];exact qr1
  · rw [List.getElem?_set_ne (by omega),List.getElem?_set_ne (by omega)];exact qr2
  · rw [List.getElem?_set_self (by simp;omega)]
end
end Go.Proofs.Ytclghkegfpcdpaa.Vm
namespace Go.Proofs.Ytclghkegfpcdpaa.Vm
open Go
set_option maxRecDepth 100000
set_option maxHeartbeats 1000000
set_option linter.unusedSimpArgs false
set_option linter.unusedVariables false
attribute [-simp] List.getD_eq_getElem?_getD
noncomputable def csP (c:Cp)(s:Nat):List Int:=natL (memE (PtR c) (nsN c.P) s)
noncomputable def sumP (c:Cp)(s:Nat):Int:=((memE (PtR c) (nsN c.P) s).map (anN c.P)).sum
noncomputable def pntP (c:Cp)(s:Nat)(inner:Bool)(v:V):Pnt:=⟨v,inner,sumP c s,(if inner then 360 else 180)-sumP c s,(csP c s).getD 0 0⟩
section
variable {n0 lim:Nat}{H H0 Hc H':Hp}{K:V→Hp→Prop}{lv u v:V}{M:List (Int×Bool)}{pts:List Pnt}{cl:List (List Int)}{c:Cp}{s:Nat}
theorem cfI_ordr:Ordr cfI:=⟨fun x y z h1 h2=>by simp only [leC,cfI] at *;omega,fun x y=>by simp only [leC,cfI];omega⟩
theorem st_all {cs xs:List V}(hl:lim≤H.length)(h:xs.length=cs.length):vstoreH lim (H++[Blk.row cs true]) H.length 0 xs=some (H++[Blk.row xs true]):=by
  have e:splice cs 0 xs=xs:=by simp [splice,h]
  simp [vstoreH,hl,h,e]
theorem getD_last {α:Type}{l:List α}{x d:α}{i:Nat}(h:i=l.length):(l++[x]).getD i d=x:=by
  subst h;simp [List.getD_eq_getElem?_getD]
theorem OwnV.row_of {m:Nat}{f:List Int}(h:OwnV m H v f)(hne:0<f.length):∃b,v=.sl b 0 f.length 1∧m≤b∧H[b]? = some (.row (ints f) true):=by
  cases h with
  | nil=>simp at hne
  | row h1 h2=>exact ⟨_,rfl,h1,h2⟩
theorem surf_collect {inner:Bool} (hok:CapOk c) (hs:s<nsN c.P) (hcl:StaN (nsN c.P) (nxN c.P) (lsN c) s∨InnN (nsN c.P) (nxN c.P) (lsN c) s) (hlim:lim≤n0) (hS:PtsS n0 H0 lv M u pts cl Hc) (hlv:LstV sdC H0 lv (layL c.P (lsN c))) (hpl:pts.length≤1000)
    (hK:∀H' M' u' v',PtsS n0 H0 lv M' u' (pts++[pntP c s inner v']) (cl++[csP c s]) H'→(∀k,(look k M').getD false=true↔(look k M).getD false=true∨k∈csP c s)→K (.tup []) H') :
    VCall tbl lim 85 [.int .i64 s,.bool inner,.ptr n0 0,.ptr (n0+2) 0,.ptr (n0+3) 0] Hc K:=by
  have hbig:=hS.big
  have hns:=hok.ns
  refine VCall_fn tbl_at85 rfl ?_
  have ld0:∀L X,vload none L (Hc++X) (.ptr n0 0)=some lv:=fun L X=>by
    rw [vload_ptr (cs:=[lv]) (own:=true) (by rw [List.getElem?_append_left (by omega)];exact hS.b0)];rfl
  have s4:=st_all (H:=Hc) (lim:=lim) (cs:=[V.snil,.bool false,.int .i64 0,.int .i64 0]) (xs:=[V.snil,.bool inner,.int .i64 0,.int .i64 0]) (by omega) rfl
  simp [vf85,splice,ld0,s4,hlv.stor,-vload_ptrO]
  refine surf_around hlv.stor hlv.one ?_
  simp
  generalize hg:hideF _ 48=frv
  have f2:∀v,frR (setPs frv [14] [v]) 2=.ptr n0 0:=by intro v;rw [←hg,frR_set (by omega)];simp
  have f3:∀v,frR (setPs frv [14] [v]) 3=.ptr (n0+2) 0:=by intro v;rw [←hg,frR_set (by omega)];simp
  have f7:∀v,frR (setPs frv [14] [v]) 7=.ptr Hc.length 0:=by intro v;rw [←hg,frR_set (by omega)];simp
  have f14:∀v,frR (setPs frv [14] [v]) 14=v:=by intro v;rw [←hg,frR_set (by omega)];simp
  have flen:48=frv.length:=by rw [←hg];simp [hideF]
  clear hg
  obtain ⟨w1,w2,w3⟩:=walk_conds hok hs
  obtain ⟨n1,_,_⟩:=rn_spec (L:=lsN c) hok.nu hs
  generalize hrn:rnN (nsN c.P) (nxN c.P) (lsN c) s=n at *
  have hsl:s<(layL c.P (lsN c)).length:=by rw [layL_len];exact hs
  refine around_walk (n:=n) (c:=s) (lv:=lv) (l:=layL c.P (lsN c)) (I:=fun i H'=>RndI Hc n0 Hc.length lv M inner frv c s i H') (lay_ok hok.sm_ok (by omega)) hsl w2 w3 ?_ ?_ ?_ ?_
  · intro i H' hI
    refine ⟨hI.r2,hI.r1,hlv.mono (HX.of (by have:=hS.hx.len;have:=hI.oth.1;omega) fun b hb => ?_)⟩
    have:=hS.hx.len
    have:=hS.hn
    rw [hI.oth.2 b (by omega) (by omega),hS.hx.same hb]
  · refine ⟨⟨by simp,fun b hb _=>by rw [List.getElem?_append_left hb]⟩,⟨.snil,M,?_,by simp [wkS],.nil,fun k=>by simp [wkL]⟩,by simp,by simp,by simp⟩
    rw [List.getElem?_append_left (by omega)];exact hS.b1
  · intro i H' hi hI
    rw [w1 i hi]
    exact collect_round hok hs (by rw [hrn];exact hi) hlim hS hlv f2 f3 f7 f14 flen hI
  · intro H' hI
    refine ⟨⟨_,_,_,hI.r3⟩,?_⟩
    obtain ⟨⟨o1,o2⟩,⟨cv,M',m1,m2,m3,m4⟩,r1,r2,r3⟩:=hI
    have hl3:=(List.getElem?_eq_some_iff.1 r3).1
    have e1:(H'.set (Hc.length+3) .dead)[n0+1]? = some (.map (mE kI .bool M')):=by rw [List.getElem?_set_ne (by omega)];exact m1
    have ep:(H'.set (Hc.length+3) .dead)[Hc.length]? = some (.row [cv,.bool inner,.int .i64 (wkS c s (n+1)),.int .i64 0] true):=by rw [List.getElem?_set_ne (by omega)];exact m2
    have ev:OwnV (Hc.length+4) (H'.set (Hc.length+3) .dead) cv (wkL c s (n+1)):=m3.keepB fun b o m z e=>by
      have:=m3.belowB _ _ _ _ e
      rw [List.getElem?_set_ne (by omega)]
    have eo:OthM (n0+1) Hc (H'.set (Hc.length+3) .dead):=⟨by simp;exact o1,fun b hb hne=>by rw [List.getElem?_set_ne (by omega)];exact o2 b hb hne⟩
    have elen:(H'.set (Hc.length+3) .dead).length=H'.length:=by simp
    generalize H'.set (Hc.length+3) .dead=Hd at *
    have sumE:wkS c s (n+1)=sumP c s:=by rw [←hrn];exact wkS_ring hok hs hcl
    rw [sumE] at ep m2
    have hls:0≤sumP c s∧sumP c s≤359*49:=by
      have:=wkS_bd hok hs (n+1)
      rw [sumE] at this;omega
    generalize hsum:sumP c s=sm at *
    have hwl:(wkL c s (n+1)).length=n+1:=wkL_len
    obtain ⟨bc,rfl,b1,b2⟩:=ev.row_of (by omega)
    have hbl:=(List.getElem?_eq_some_iff.1 b2).1
    simp [m2,rd0]
    refine so_sort (b:=bc) (l:=wkL c s (n+1)) b2 (by omega) cfI_ordr (by rw [hwl];omega) fun H2 l2 hs2 hso => ?_
    have hsorted:l2=csP c s:=by
      have hl2:l2.length=(wkL c s (n+1)).length:=hs2.n
      have:=sort_ring hok hs hcl (l:=l2) (by rw [hrn];exact hs2.perm) (sorted_le (by rw [hl2];exact hso))
      exact this
    have hp2:=(hs2.oth Hc.length (by omega) (by omega)).trans ep
    have hlen2:=hs2.len
    have l2len:l2.length=n+1:=by have:=hs2.n;omega
    have hrow:H2[bc]? = some (.row (ints (csP c s)) true):=by rw [←hsorted];exact hs2.row
    have hcl2:(csP c s).length=(wkL c s (n+1)).length:=by rw [←hsorted];omega
    generalize hdf:(if inner=true then (360:Int) else 180)-sm=df
    have hdfb : -100000≤df∧df≤360:=by rw [←hdf];split<;>omega
    have g3:∀H3:Hp,H3=H2.set Hc.length (.row [.sl bc 0 (wkL c s (n+1)).length 1,.bool inner,.int .i64 sm,.int .i64 df] true) →
        ∃v' Hx,vappend lim 4 48 (H3++[.row [.sl bc 0 (wkL c s (n+1)).length 1,.bool inner,.int .i64 sm,.int .i64 df] true]) u (.sl H3.length 0 1 4)=some (v',Hx)∧stor v'=true∧cellsV v'=[v']∧Hx[n0+3]? = some (.row [u] true)∧H3[n0+3]? = some (.row [u] true)∧K (.tup []) (Hx.set (n0+3) (.row [v'] true)):=by
      rintro H3 rfl
      have hO3:OthM (n0+1) Hc (H2.set Hc.length (.row [.sl bc 0 (wkL c s (n+1)).length 1,.bool inner,.int .i64 sm,.int .i64 df] true)):=by
        refine ⟨by have:=eo.1;simp;omega,fun b hb hne => ?_⟩
        rw [List.getElem?_set_ne (by omega),hs2.oth b (by have:=eo.1;omega) (by omega)]
        exact eo.2 b hb hne
      have hm3:(H2.set Hc.length (.row [.sl bc 0 (wkL c s (n+1)).length 1,.bool inner,.int .i64 sm,.int .i64 df] true))[n0+1]? = some (.map (mE kI .bool M')):=by
        rw [List.getElem?_set_ne (by omega),hs2.oth _ (by omega) (by omega)];exact e1
      have hS3:=hS.move hO3 hm3
      have hrow3:(H2.set Hc.length (.row [.sl bc 0 (wkL c s (n+1)).length 1,.bool inner,.int .i64 sm,.int .i64 df] true))[bc]? = some (.row (ints (csP c s)) true):=by
        rw [List.getElem?_set_ne (by omega)];exact hrow
      have hl3':Hd.length≤(H2.set Hc.length (.row [.sl bc 0 (wkL c s (n+1)).length 1,.bool inner,.int .i64 sm,.int .i64 df] true)).length:=by simpa using hlen2
      generalize H2.set Hc.length (.row [.sl bc 0 (wkL c s (n+1)).length 1,.bool inner,.int .i64 sm,.int .i64 df] true)=H3 at *
      have hbig3:=hS3.big
      obtain ⟨v',Hx,c1,c2,c3,c4,c5,c6⟩:=hS3.ou.appendF2 (lim:=lim) (bytes:=48) (x:=pntP c s inner (.sl bc 0 (wkL c s (n+1)).length 1)) (cs:=[.sl bc 0 (wkL c s (n+1)).length 1,.bool inner,.int .i64 sm,.int .i64 df]) (by
        rw [←hdf,←hsum];rfl) ⟨by omega,by omega⟩ (by omega) (by omega)
      have ub:∀b,b<n0+4→∀o z y,u≠.sl b o z y:=fun b hb o z y e=>by have:=hS3.ou.belowB _ _ _ _ e;omega
      have hbu:∀o z y,u≠.sl bc o z y:=fun o z y e=>by
        have:=hS.ou.belowB _ _ _ _ e;omega
      refine ⟨v',Hx,c1,c2.lst.stor,c2.lst.one,(c5 _ (by omega) (ub _ (by omega))).trans hS3.b3,hS3.b3,?_⟩
      have d0:=(c5 n0 (by omega) (ub _ (by omega))).trans hS3.b0
      have d1:=(c5 (n0+1) (by omega) (ub _ (by omega))).trans hS3.b1
      have d2:=(c5 (n0+2) (by omega) (ub _ (by omega))).trans hS3.b2
      have dr:=(c5 bc (by omega) hbu).trans hrow3
      have hH0:=hS3.hn
      refine hK _ M' v' (.sl bc 0 (wkL c s (n+1)).length 1) ⟨?_,hS3.hn,?_,?_,?_,?_,?_,?_,?_,?_⟩ ?_
      · have:=c3 H0 hS3.hx (by omega)
        refine HX.of (by have:=this.len;simpa using this) fun b hb => ?_
        rw [List.getElem?_set_ne (by omega),this.same hb]
      · rw [List.getElem?_set_ne (by omega)];exact d0
      · rw [List.getElem?_set_ne (by omega)];exact d1
      · rw [List.getElem?_set_ne (by omega)];exact d2
      · rw [List.getElem?_set_self (by omega)]
      · refine c2.keepB fun b o m z e => ?_
        have:=c2.belowB _ _ _ _ e
        rw [List.getElem?_set_ne (by omega)]
      · simp [hS.len]
      · intro i hi
        rw [List.length_append,List.length_singleton] at hi
        by_cases hlt:i<pts.length
        · rw [getD_lt hlt,getD_lt (by rw [hS.len];exact hlt)]
          refine (hS3.oc i hlt).keepB fun b o m z e => ?_
          have hb:=(hS3.oc i hlt).belowB _ _ _ _ e
          rw [List.getElem?_set_ne (by omega)]
          exact c5 b hb.2 fun o' z' y' e'=>hS3.ap i hlt _ _ _ _ _ _ _ e' e
        · have:i=pts.length:=by omega
          subst this
          rw [getD_last rfl,getD_last hS.len.symm]
          show OwnV (n0+4) _ (V.sl bc 0 (wkL c s (n+1)).length 1) (csP c s)
          rw [←hcl2]
          exact .row (by omega) (by rw [List.getElem?_set_ne (by omega)];exact dr)
      · intro i hi b o z y o' z' y' e e'
        rw [List.length_append,List.length_singleton] at hi
        have hb6:=c6 _ _ _ _ e
        by_cases hlt:i<pts.length
        · rw [getD_lt hlt] at e'
          have:=(hS3.oc i hlt).belowB _ _ _ _ e'
          omega
        · have:i=pts.length:=by omega
          subst this
          rw [getD_last rfl] at e'
          simp only [pntP] at e'
          cases e'
          omega
      · intro k
        rw [m4 k]
        have:k∈wkL c s (n+1)↔k∈csP c s:=by rw [←hsorted];exact hs2.perm.mem_iff.symm
        rw [this]
    obtain ⟨v',Hx,y1,y2,y3,y4,y5,y6⟩:=g3 _ rfl
    have w1:IntKind.wrap .i64 (180-sm)=180-sm:=wrap_i64 (by omega) (by omega)
    have w2:IntKind.wrap .i64 (360-sm)=360-sm:=wrap_i64 (by omega) (by omega)
    have hlt2:=(List.getElem?_eq_some_iff.1 hp2).1
    have st1:=fun L=>st_cell (L:=L) (x:=.int .i64 (180-sm)) hp2 (lim:=lim) (o:=3) (by omega) rfl rfl (by simp)
    have sp1:splice [.sl bc 0 (wkL c s (n+1)).length 1,.bool inner,.int .i64 sm,.int .i64 0] 3 [.int .i64 (180-sm)]=[.sl bc 0 (wkL c s (n+1)).length 1,.bool inner,.int .i64 sm,.int .i64 (180-sm)]:=by simp [splice]
    rw [sp1] at st1
    have stx:=fun L=>st_cell (L:=L) (x:=v') y4 (lim:=lim) (o:=0) (by omega) y2 y3 (by simp)
    have spx:splice [u] 0 [v']=[v']:=by simp [splice]
    rw [spx] at stx
    cases inner with
    | false =>
      have edf:df=180-sm:=by rw [←hdf];simp
      rw [edf] at y1 y5
      have hl4:∀L,vload (some 4) L (H2.set Hc.length (.row [.sl bc 0 (wkL c s (n+1)).length 1,.bool false,.int .i64 sm,.int .i64 (180-sm)] true)) (.ptr Hc.length 0)=some (.agg [.sl bc 0 (wkL c s (n+1)).length 1,.bool false,.int .i64 sm,.int .i64 (180-sm)]):=fun L=>by
        rw [vload_ptr (List.getElem?_set_self hlt2)];rfl
      have hl3:∀L,vload none L (H2.set Hc.length (.row [.sl bc 0 (wkL c s (n+1)).length 1,.bool false,.int .i64 sm,.int .i64 (180-sm)] true)) (.ptr (n0+3) 0)=some u:=fun L=>by
        rw [vload_ptr y5];rfl
      have hl2:∀L,vload none L H2 (.ptr Hc.length 2)=some (.int .i64 sm):=fun L=>by rw [vload_ptr hp2];rfl
      generalize H2.set Hc.length (.row [.sl bc 0 (wkL c s (n+1)).length 1,.bool false,.int .i64 sm,.int .i64 (180-sm)] true)=H3 at *
      simp [hl2,w1,st1,hl3,hl4,splice,y1,stx,-vstore,-vload_ptrO]
      exact y6
    | true =>
      have edf:df=360-sm:=by rw [←hdf];simp
      rw [edf] at y1 y5
      have hl2:∀L,vload none L H2 (.ptr Hc.length 2)=some (.int .i64 sm):=fun L=>by rw [vload_ptr hp2];rfl
      have hp3:(H2.set Hc.length (.row [.sl bc 0 (wkL c s (n+1)).length 1,.bool true,.int .i64 sm,.int .i64 (180-sm)] true))[Hc.length]? = some (.row [.sl bc 0 (wkL c s (n+1)).length 1,.bool true,.int .i64 sm,.int .i64 (180-sm)] true):=List.getElem?_set_self hlt2
      have hl2':∀L,vload none L (H2.set Hc.length (.row [.sl bc 0 (wkL c s (n+1)).length 1,.bool true,.int .i64 sm,.int .i64 (180-sm)] true)) (.ptr Hc.length 2)=some (.int .i64 sm):=fun L=>by rw [vload_ptr hp3];rfl
      have st2:=fun L=>st_cell (L:=L) (x:=.int .i64 (360-sm)) hp3 (lim:=lim) (o:=3) (by omega) rfl rfl (by simp)
      have sp2:splice [.sl bc 0 (wkL c s (n+1)).length 1,.bool true,.int .i64 sm,.int .i64 (180-sm)] 3 [.int .i64 (360-sm)]=[.sl bc 0 (wkL c s (n+1)).length 1,.bool true,.int .i64 sm,.int .i64 (360-sm)]:=by simp [splice]
      rw [sp2,List.set_set] at st2
      have hl4:∀L,vload (some 4) L (H2.set Hc.length (.row [.sl bc 0 (wkL c s (n+1)).length 1,.bool true,.int .i64 sm,.int .i64 (360-sm)] true)) (.ptr Hc.length 0)=some (.agg [.sl bc 0 (wkL c s (n+1)).length 1,.bool true,.int .i64 sm,.int .i64 (360-sm)]):=fun L=>by
        rw [vload_ptr (List.getElem?_set_self hlt2)];rfl
      have hl3:∀L,vload none L (H2.set Hc.length (.row [.sl bc 0 (wkL c s (n+1)).length 1,.bool true,.int .i64 sm,.int .i64 (360-sm)] true)) (.ptr (n0+3) 0)=some u:=fun L=>by
        rw [vload_ptr y5];rfl
      generalize H2.set Hc.length (.row [.sl bc 0 (wkL c s (n+1)).length 1,.bool true,.int .i64 sm,.int .i64 (180-sm)] true)=H3 at *
      generalize H2.set Hc.length (.row [.sl bc 0 (wkL c s (n+1)).length 1,.bool true,.int .i64 sm,.int .i64 (360-sm)] true)=H4 at *
      simp [hl2,w1,st1,hl2',w2,st2,hl3,hl4,splice,y1,stx,-vstore,-vload_ptrO]
      exact y6
end
end Go.Proofs.Ytclghkegfpcdpaa.Vm
namespace Go.Proofs.Ytclghkegfpcdpaa.Vm
open Go
set_option maxRecDepth 100000
set_option maxHeartbeats 1000000
set_option linter.unusedSimpArgs false
set_option linter.unusedVariables false
attribute [-simp] List.getD_eq_getElem?_getD
section
variable {c:Cp}{k s:Nat}
theorem sta_bf (hok:CapOk c)(hk:k<nsN c.P):alf (lsN c) (bfN c.P k)=bfN c.P k↔StaN (nsN c.P) (nxN c.P) (lsN c) k:=by
  obtain ⟨b1,b2⟩:=nx_bf hk
  have hsm:=hok.sm_ok
  constructor
  · intro h x hx e
    have e1:alf (lsN c) x=bfN c.P k:=nx_pr.inj _ _ (hsm.pr.lt x hx) b2 (by rw [b1];exact e)
    have e2:=hsm.inv hx
    rw [e1,h] at e2
    rw [e1];exact e2
  · intro h
    have hx:=hsm.pr.lt _ b2
    have:=h (alf (lsN c) (bfN c.P k)) hx (by
      show nxN c.P (alf (lsN c) (alf (lsN c) (bfN c.P k)))=k
      rw [hsm.inv b2,b1])
    rw [hsm.inv b2] at this
    exact this.symm
open Classical in
noncomputable def repsA (c:Cp)(a b:Nat):List Nat:=((List.range a).filter fun k=>decide (StaN (nsN c.P) (nxN c.P) (lsN c) k))++((List.range b).filter fun k=>decide (LeE (PtR c) k∧InnN (nsN c.P) (nxN c.P) (lsN c) k))
theorem mem_reps {a b r:Nat}:r∈repsA c a b↔(r<a∧StaN (nsN c.P) (nxN c.P) (lsN c) r)∨(r<b∧LeE (PtR c) r∧InnN (nsN c.P) (nxN c.P) (lsN c) r):=by simp [repsA]
theorem reps_all:repsA c (nsN c.P) (nsN c.P)=stasN (nsN c.P) (nxN c.P) (lsN c)++innMins (nsN c.P) (nxN c.P) (lsN c):=by
  unfold repsA stasN innMins minsE
  rw [List.filter_filter]
  congr 1
  refine List.filter_congr fun k _ => ?_
  rw [Bool.eq_iff_iff]
  simp only [decide_eq_true_eq,Bool.and_eq_true]
  exact ⟨fun h=>⟨h.2,h.1⟩,fun h=>⟨h.2,h.1⟩⟩
theorem repsA_sta {a:Nat}(h:StaN (nsN c.P) (nxN c.P) (lsN c) a):repsA c (a+1) 0=repsA c a 0++[a]:=by
  unfold repsA
  rw [List.range_succ,List.filter_append]
  simp [h]
theorem repsA_not {a:Nat}(h:¬StaN (nsN c.P) (nxN c.P) (lsN c) a):repsA c (a+1) 0=repsA c a 0:=by
  unfold repsA
  rw [List.range_succ,List.filter_append]
  simp [h]
theorem repsA_inn {a b:Nat}(h:LeE (PtR c) b∧InnN (nsN c.P) (nxN c.P) (lsN c) b):repsA c a (b+1)=repsA c a b++[b]:=by
  unfold repsA
  rw [List.range_succ,List.filter_append,List.append_assoc]
  simp [h]
theorem repsA_out {a b:Nat}(h:¬(LeE (PtR c) b∧InnN (nsN c.P) (nxN c.P) (lsN c) b)):repsA c a (b+1)=repsA c a b:=by
  unfold repsA
  rw [List.range_succ,List.filter_append]
  simp [h]
theorem mem_csP {r:Nat}(hok:CapOk c){j:Int}:j∈csP c r↔∃d:Nat,j=d∧d<nsN c.P∧PtR c r d:=by
  simp only [csP,natL,List.mem_map,mem_memE]
  exact ⟨fun ⟨d,h,e⟩=>⟨d,e.symm,h.1,h.2⟩,fun ⟨d,e,h1,h2⟩=>⟨d,⟨h1,h2⟩,e.symm⟩⟩
theorem found_iff (hok:CapOk c) (hk:k<nsN c.P):(∃r,r∈repsA c (nsN c.P) k∧(k:Int)∈csP c r)↔¬(LeE (PtR c) k∧InnN (nsN c.P) (nxN c.P) (lsN c) k):=by
  have hE:=hok.ptE
  have hnu:=hok.nu
  constructor
  · rintro ⟨r,hr,hm⟩ ⟨h1,h2⟩
    obtain ⟨d,e,hd,hrd⟩:=(mem_csP hok).1 hm
    have:k=d:=by omega
    subst this
    rcases mem_reps.1 hr with ⟨r1,r2⟩ | ⟨r1,r2,r3⟩
    · exact sta_free hnu r1 r2 ((InnN.iff hnu hrd).2 h2)
    · exact h1 r r1 (hE.sy hrd)
  · intro h
    apply Classical.byContradiction
    intro hn
    refine h ⟨fun d hd he => ?_,?_⟩
    · obtain ⟨a1,a2,a3⟩:=lowE_spec hE d
      by_cases hi:InnN (nsN c.P) (nxN c.P) (lsN c) k
      · exact hn ⟨lowE (PtR c) d,mem_reps.2 (Or.inr ⟨by omega,a3,(InnN.iff hnu (hE.tr he a2)).1 hi⟩),(mem_csP hok).2 ⟨k,rfl,hk,hE.sy (hE.tr he a2)⟩⟩
      · obtain ⟨s,s1,s2,s3⟩:=sta_ex hnu hk hi
        exact hn ⟨s,mem_reps.2 (Or.inl ⟨s1,s2⟩),(mem_csP hok).2 ⟨k,rfl,hk,hE.sy s3⟩⟩
    · apply Classical.byContradiction
      intro hi
      obtain ⟨s,s1,s2,s3⟩:=sta_ex hnu hk hi
      exact hn ⟨s,mem_reps.2 (Or.inl ⟨s1,s2⟩),(mem_csP hok).2 ⟨k,rfl,hk,hE.sy s3⟩⟩
theorem first_low (hok:CapOk c){r:Nat}(hr:r<nsN c.P):(csP c r).getD 0 0=(lowE (PtR c) r:Nat)∧0<(csP c r).length:=by
  obtain ⟨a1,a2,a3⟩:=lowE_spec hok.ptE r
  obtain ⟨m1,m2⟩:=mem_first hok (k:=lowE (PtR c) r) (mem_mins.2 ⟨by omega,a3⟩)
  rw [←memE_congr hok.ptE a2] at m1 m2
  refine ⟨?_,by rw [csP,natL_len];exact m2⟩
  simp only [csP,natL,List.getD_eq_getElem?_getD,List.getElem?_map] at m1 ⊢
  rw [List.getElem?_eq_getElem m2] at m1 ⊢
  simp only [Option.getD_some,Option.map_some] at m1 ⊢
  rw [m1]
theorem ptOf_congr (hok:CapOk c){a b:Nat}(h:PtR c a b):csP c a=csP c b∧sumP c a=sumP c b∧innB c a=innB c b:=by
  have e:=memE_congr (N:=nsN c.P) hok.ptE h
  refine ⟨by rw [csP,e];rfl,by rw [sumP,e];rfl,?_⟩
  simp only [innB,decide_eq_decide]
  exact InnN.iff hok.nu h
end
structure PtsC (c:Cp)(R:List Nat)(pts:List Pnt)(cl:List (List Int)):Prop where
  len:pts.length=R.length
  lc:cl.length=R.length
  at':∀i,i<R.length→cl.getD i []=csP c (R.getD i 0)∧∃v,pts.getD i default=pntP c (R.getD i 0) (innB c (R.getD i 0)) v
theorem PtsC.snoc {c:Cp}{R:List Nat}{pts:List Pnt}{cl:List (List Int)}{r:Nat}{v:V}{b:Bool}(h:PtsC c R pts cl)(hb:b=innB c r):PtsC c (R++[r]) (pts++[pntP c r b v]) (cl++[csP c r]) where
  len:=by simp [h.len]
  lc:=by simp [h.lc]
  at' := fun i hi=>by
    rw [List.length_append,List.length_singleton] at hi
    by_cases hlt:i<R.length
    · rw [getD_lt hlt,getD_lt (l:=pts) (by rw [h.len];exact hlt),getD_lt (l:=cl) (by rw [h.lc];exact hlt)];exact h.at' i hlt
    · have:i=R.length:=by omega
      subst this
      rw [getD_last rfl,getD_last h.len.symm,getD_last h.lc.symm]
      exact ⟨rfl,v,by rw [hb]⟩
structure PtlV (n:Nat)(H:Hp)(v:V)(q:List Ptt):Prop where
  ex:∃pts,OwnT n pntC H v pts∧pts.length=q.length∧∀i,i<q.length→(pts.getD i default).i=(q.getD i default).inn∧(pts.getD i default).a=(q.getD i default).ang∧(pts.getD i default).d=(q.getD i default).df∧OwnV n H (pts.getD i default).v (natL (q.getD i default).cs)
def cfP (x y:Pnt):Int:=x.k-y.k
theorem cfP_ordr:Ordr cfP:=⟨fun x y z h1 h2=>by simp only [leC,cfP] at *;omega,fun x y=>by simp only [leC,cfP];omega⟩
section
variable {n0 lim:Nat}{H H0 Hc H':Hp}{K:V→Hp→Prop}{lv u v:V}{M:List (Int×Bool)}{pts:List Pnt}{cl:List (List Int)}{c:Cp}{s:Nat}
theorem PtsC.elem (hok:CapOk c){R:List Nat}(hR:∀r,r∈R→r<nsN c.P)(h:PtsC c R pts cl){i:Nat}(hi:i<R.length):(pts.getD i default).k=(lowE (PtR c) (R.getD i 0):Nat)∧R.getD i 0<nsN c.P∧(pts.getD i default).i=innB c (R.getD i 0)∧(pts.getD i default).a=sumP c (R.getD i 0)∧(pts.getD i default).d=(if innB c (R.getD i 0) then 360 else 180)-sumP c (R.getD i 0):=by
  obtain ⟨_,v,e⟩:=h.at' i hi
  have hr:R.getD i 0<nsN c.P:=hR _ (by
    rw [List.getD_eq_getElem?_getD,List.getElem?_eq_getElem hi];exact List.getElem_mem hi)
  rw [e]
  exact ⟨(first_low hok hr).1,hr,rfl,rfl,rfl⟩
theorem pts_sorted (hok:CapOk c){R:List Nat}(hR:Reps (PtR c) (nsN c.P) R)(h:PtsC c R pts cl){l:List Pnt}(hp:l.Perm pts)(hs:SortR cfP 0 l.length l):l.map (fun e=>e.k.toNat)=minsE (PtR c) (nsN c.P):=by
  have hk:pts.map (fun e=>e.k.toNat)=R.map (lowE (PtR c)):=by
    apply List.ext_getElem (by simp [h.len])
    intro i h1 h2
    have hi:i<R.length:=by simpa using h2
    have:=(h.elem hok hR.lt hi).1
    simp only [List.getD_eq_getElem?_getD,List.getElem?_eq_getElem (show i<pts.length by rw [h.len];exact hi),List.getElem?_eq_getElem hi,Option.getD_some] at this
    simp [this]
  have hperm:(l.map fun e=>e.k.toNat).Perm (minsE (PtR c) (nsN c.P)):=by
    have:=hp.map fun e:Pnt=>e.k.toNat
    rw [hk] at this
    exact this.trans (hR.perm hok.ptE)
  have hnn:∀e,e∈l→0≤e.k:=by
    intro e he
    have he:=hp.mem_iff.1 he
    obtain ⟨i,hi,rfl⟩:=List.getElem_of_mem he
    have:=(h.elem hok hR.lt (i:=i) (by rw [←h.len];exact hi)).1
    rw [List.getD_eq_getElem?_getD,List.getElem?_eq_getElem hi,Option.getD_some] at this
    omega
  refine asc_uniq (key:=fun n:Nat=>(n:Int)) hperm ?_ (mins_asc.imp fun h=>by omega)
  have hnd:(l.map fun e=>e.k.toNat).Nodup:=hperm.nodup_iff.2 mins_nodup
  have hle:(l.map fun e=>e.k.toNat).Pairwise fun a b=>a≤b:=by
    rw [List.pairwise_map,List.pairwise_iff_getElem]
    intro i j hi hj hij
    have h1:=hs i j (Nat.zero_le _) hij hj
    have h2:=hnn _ (List.getElem_mem hi)
    have h3:=hnn _ (List.getElem_mem hj)
    simp only [leC,cfP,List.getD_eq_getElem?_getD,List.getElem?_eq_getElem hi,List.getElem?_eq_getElem hj,Option.getD_some] at h1
    omega
  have:(l.map fun e=>e.k.toNat).Pairwise fun a b=>a≤b∧a≠b:=by
    rw [List.pairwise_and_iff];exact ⟨hle,hnd⟩
  exact this.imp fun h=>by omega
theorem surf_cmpP {x y:Pnt}{l m:List Int}(h1:SlV H' x.v l)(h2:SlV H' y.v m)(k1:0<l.length∧l.getD 0 0=x.k∧0≤x.k∧x.k≤1000)(k2:0<m.length∧m.getD 0 0=y.k∧0≤y.k∧y.k≤1000)(hK:K (.int .i64 (cfP x y)) H'):VCall tbl lim 89 [eV x,eV y] H' K:=by
  refine VCall_fn tbl_at89 rfl ?_
  have a1:=h1.addr (i:=0) (by omega)
  have a2:=h2.addr (i:=0) (by omega)
  have b1:=fun L=>h1.load (i:=0) (by omega) (L:=L)
  have b2:=fun L=>h2.load (i:=0) (by omega) (L:=L)
  rw [k1.2.1] at b1
  rw [k2.2.1] at b2
  have a1':viaddrS 1 x.v (.int .i64 0)=some (ept 1 x.v 0):=a1
  have a2':viaddrS 1 y.v (.int .i64 0)=some (ept 1 y.v 0):=a2
  have w:IntKind.wrap .i64 (x.k-y.k)=x.k-y.k:=wrap_i64 (by omega) (by omega)
  simp [vf89,eV,Pnt.cells,rd0,h1.stor,h1.one,h2.stor,h2.one,a1',a2',b1,b2,w]
  exact hK
theorem OwnT.row_of {α:Type}{k m:Nat}{c:Cod α k}{l:List α}(h:OwnT m c H v l)(hne:0<l.length):∃b,v=.sl b 0 l.length k∧m≤b∧H[b]? = some (.row (c.all l) true):=by
  cases h with
  | nil=>simp at hne
  | row h1 h2=>exact ⟨_,rfl,h1,h2⟩
theorem mem_at {α:Type}[Inhabited α]{l:List α}{x:α}(h:x∈l):∃i,i<l.length∧x=l.getD i default:=by
  obtain ⟨i,hi,rfl⟩:=List.getElem_of_mem h
  exact ⟨i,hi,by rw [List.getD_eq_getElem?_getD,List.getElem?_eq_getElem hi];rfl⟩
theorem surf_points (hok:CapOk c) (hlim:lim≤H.length) (hlv:LstV sdC H lv (layL c.P (lsN c))) (hK:∀H' v,HX H H'→PtlV H.length H' v (ptsP c)→K v H') :
    VCall tbl lim 59 [lv] H K:=by
  refine VCall_fn tbl_at59 rfl ?_
  have hns:=hok.ns
  have hll:=layL_len (P:=c.P) (L:=lsN c)
  have hl0:vlenS lv=some (.int .i64 (nsN c.P)):=by rw [hlv.len,hll]
  have s1:vstoreH lim (H++[Blk.row [lv] true,Blk.map [],Blk.row [V.mnil] true]) (H.length+2) 0 [.mp (H.length+1)]=some (H++[.row [lv] true,.map [],.row [.mp (H.length+1)] true]):=by
    have:lim≤H.length+2:=by omega
    simp [vstoreH,this,splice]
  simp [vf59,hlv.stor,hlv.one,splice,s1,rd0,hl0]
  have hx0:∀{H'':Hp} {M u pts cl},PtsS H.length H lv M u pts cl H''→∀L,vload none L H'' (.ptr H.length 0)=some lv:=fun h L=>by rw [vload_ptr h.b0];rfl
  refine wLoop_up (nsN c.P) (fun i fr L H'=>∃M u pts cl,(fr 1=.ptr H.length 0∧fr 3=.ptr (H.length+2) 0∧fr 4=.ptr (H.length+3) 0∧fr 5=.func (.func 85) [] [.ptr H.length 0,.ptr (H.length+2) 0,.ptr (H.length+3) 0]∧fr 11=.int .i64 (nsN c.P)∧fr 12=.int .i64 i)∧L=[]∧PtsS H.length H lv M u pts cl H'∧PtsC c (repsA c i 0) pts cl∧∀k,(look k M).getD false=true↔∃r,r∈repsA c i 0∧k∈csP c r) ⟨[],.snil,[],[],by simp,rfl,⟨⟨_,rfl⟩,rfl,by simp,by simp;rfl,by simp,by simp,.nil,rfl,fun i hi=>by simp at hi,fun i hi=>by simp at hi⟩,⟨by simp [repsA],by simp [repsA],fun i hi=>by simp [repsA] at hi⟩,fun k=>by simp [look_nil,repsA]⟩ ?_
  rintro i hi fr L H1 ⟨M,u,pts,cl,⟨f1,f3,f4,f5,f11,f12⟩,rfl,hS,hC,hM⟩
  simp [f1,f3,f4,f5,f11,f12]
  refine cond_dec (fun ht => ?_) fun hfl => ?_
  · have ht:i<nsN c.P:=by omega
    have hxl:=hlv.mono hS.hx
    obtain ⟨n1,n2⟩:=nx_bf ht
    have ad:=hxl.at (i:=i) (by rw [hll];exact ht)
    have fa:vfaddr 3 (ept 5 lv i)=some (eptf 5 lv i 3):=hxl.faddr (by rw [hll];exact ht)
    have ld:∀L,vload none L H1 (eptf 5 lv i 3)=some (.int .i64 (bfN c.P i:Nat)):=fun L=>by
      rw [hxl.rd1 (by rw [hll];exact ht) (by omega),layL_get ht];rfl
    have ad2:=hxl.at (i:=bfN c.P i) (by rw [hll];exact n2)
    have fa2:vfaddr 4 (ept 5 lv (bfN c.P i))=some (eptf 5 lv (bfN c.P i) 4):=hxl.faddr (by rw [hll];exact n2)
    have ld2:∀L,vload none L H1 (eptf 5 lv (bfN c.P i) 4)=some (.int .i64 (sdP c.P (lsN c) (bfN c.P i)).p):=fun L=>by
      rw [hxl.rd1 (by rw [hll];exact n2) (by omega),layL_get n2];rfl
    have hfree:=lay_free (P:=c.P) (L:=lsN c) n2
    rw [layL_get n2,sta_bf hok ht] at hfree
    have hl0':=fun L=>hx0 hS L
    generalize (sdP c.P (lsN c) (bfN c.P i)).p=pp at *
    simp [f1,f3,f4,f5,f11,f12,hl0',ad,fa,ld,ad2,fa2,ld2,-vload_ptrO]
    refine cond_dec (fun hp => ?_) fun hp => ?_
    · have hsta:=hfree.1 hp
      have hlen:pts.length≤1000:=by
        have h1:(repsA c i 0).length≤i:=by
          unfold repsA
          have:=List.length_filter_le (fun k=>@decide (StaN (nsN c.P) (nxN c.P) (lsN c) k) (Classical.propDecidable _)) (List.range i)
          simp only [List.length_range] at this
          simpa using this
        rw [hC.len];omega
      simp [f1,f3,f4,f5,f11,f12]
      refine surf_collect hok ht (Or.inl hsta) hlim hS hlv hlen fun H2 M2 u2 v2 hS2 hM2 => ?_
      have hb:false=innB c i:=by
        symm
        simp only [innB,decide_eq_false_iff_not]
        exact sta_free hok.nu ht hsta
      simp (disch:=omega) [f1,f3,f4,f5,f11,f12,wrap_i64]
      refine ⟨ht,_,_,_,_,hS2,?_,fun k => ?_⟩
      · rw [repsA_sta hsta];exact hC.snoc hb
      · rw [hM2 k,hM k,repsA_sta hsta]
        constructor
        · rintro (⟨r,h1,h2⟩ | h)
          · exact ⟨r,List.mem_append_left _ h1,h2⟩
          · exact ⟨i,by simp,h⟩
        · rintro ⟨r,h1,h2⟩
          rcases List.mem_append.1 h1 with h1 | h1
          · exact Or.inl ⟨r,h1,h2⟩
          · rw [List.mem_singleton] at h1;subst h1;exact Or.inr h2
    · have hsta:¬StaN (nsN c.P) (nxN c.P) (lsN c) i:=fun h=>hp (hfree.2 h)
      simp (disch:=omega) [f1,f3,f4,f5,f11,f12,wrap_i64]
      rw [repsA_not hsta]
      exact ⟨ht,_,_,_,_,hS,hC,hM⟩
  have:i=nsN c.P:=by omega
  subst this
  have hl0':=fun L=>hx0 hS L
  simp [f1,f3,f4,f5,f11,f12,hl0',hl0,-vload_ptrO]
  refine wLoop_up (nsN c.P) (fun i fr L H'=>∃M u pts cl,(fr 1=.ptr H.length 0∧fr 3=.ptr (H.length+2) 0∧fr 4=.ptr (H.length+3) 0∧fr 5=.func (.func 85) [] [.ptr H.length 0,.ptr (H.length+2) 0,.ptr (H.length+3) 0]∧fr 30=.int .i64 (nsN c.P)∧fr 31=.int .i64 i)∧L=[]∧PtsS H.length H lv M u pts cl H'∧PtsC c (repsA c (nsN c.P) i) pts cl∧∀k,(look k M).getD false=true↔∃r,r∈repsA c (nsN c.P) i∧k∈csP c r) ⟨M,u,pts,cl,by simp [f1,f3,f4,f5],rfl,hS,hC,hM⟩ ?_
  clear f1 f3 f4 f5 f11 f12 hS hC hM hl0' hi hfl fr
  rintro i hi fr L H1 ⟨M,u,pts,cl,⟨f1,f3,f4,f5,f30,f31⟩,rfl,hS,hC,hM⟩
  simp [f1,f3,f4,f5,f30,f31]
  refine cond_dec (fun ht => ?_) fun hfl => ?_
  · have ht:i<nsN c.P:=by omega
    have hg:=vmgetE (K:=kI) (vc:=V.bool) (a:=(i:Int)) (z:=false) hS.b1
    have hg':vmget false [.int .i64] false (.bool false) H1 (.mp (H.length+1)) (.int .i64 (i:Int))=some (.bool ((look (i:Int) M).getD false)):=hg
    have hl2:∀L,vload none L H1 (.ptr (H.length+2) 0)=some (.mp (H.length+1)):=fun L=>by rw [vload_ptr hS.b2];rfl
    have hfd:=(hM (i:Int)).trans (found_iff hok ht)
    generalize hfo:(look (i:Int) M).getD false=fo at *
    simp [f1,f3,f4,f5,f30,f31,hl2,hg',-vload_ptrO]
    cases fo with
    | true =>
      have hout:=hfd.1 rfl
      simp (disch:=omega) [f1,f3,f4,f5,f30,f31,wrap_i64]
      rw [repsA_out hout]
      exact ⟨ht,_,_,_,_,hS,hC,hM⟩
    | false =>
      have hinn:LeE (PtR c) i∧InnN (nsN c.P) (nxN c.P) (lsN c) i:=by
        apply Classical.byContradiction
        intro hn
        have:=hfd.2 hn
        cases this
      have hlen:pts.length≤1000:=by
        have h1:(repsA c (nsN c.P) i).length≤nsN c.P+i:=by
          unfold repsA
          rw [List.length_append]
          exact Nat.le_trans (Nat.add_le_add (List.length_filter_le _ _) (List.length_filter_le _ _)) (by simp)
        rw [hC.len];omega
      simp [f1,f3,f4,f5,f30,f31]
      refine surf_collect hok ht (Or.inr hinn.2) hlim hS hlv hlen fun H2 M2 u2 v2 hS2 hM2 => ?_
      have hb:true=innB c i:=by
        symm
        simp only [innB,decide_eq_true_eq]
        exact hinn.2
      simp (disch:=omega) [f1,f3,f4,f5,f30,f31,wrap_i64]
      refine ⟨ht,_,_,_,_,hS2,?_,fun k => ?_⟩
      · rw [repsA_inn hinn];exact hC.snoc hb
      · rw [hM2 k,hM k,repsA_inn hinn]
        constructor
        · rintro (⟨r,h1,h2⟩ | h)
          · exact ⟨r,List.mem_append_left _ h1,h2⟩
          · exact ⟨i,by simp,h⟩
        · rintro ⟨r,h1,h2⟩
          rcases List.mem_append.1 h1 with h1 | h1
          · exact Or.inl ⟨r,h1,h2⟩
          · rw [List.mem_singleton] at h1;subst h1;exact Or.inr h2
  have:i=nsN c.P:=by omega
  subst this
  rw [reps_all] at hC
  have hRp:Reps (PtR c) (nsN c.P) (stasN (nsN c.P) (nxN c.P) (lsN c)++innMins (nsN c.P) (nxN c.P) (lsN c)):=reps_sta hok.nu
  generalize stasN (nsN c.P) (nxN c.P) (lsN c)++innMins (nsN c.P) (nxN c.P) (lsN c)=R at *
  have hlu:∀L,vload none L H1 (.ptr (H.length+3) 0)=some u:=fun L=>by rw [vload_ptr hS.b3];rfl
  simp [f1,f3,f4,f5,f30,f31,hlu,hS.ou.lst.stor,-vload_ptrO]
  have hne:0<pts.length:=by
    obtain ⟨r,h1,_⟩:=hRp.cov 0 (by
      have:=hok.np
      have:=hok.ks (q:=0) (by omega)
      exact off_lt (pcs:=c.P) (q:=0) (j:=0) (by omega) (by omega))
    rw [hC.len];exact List.length_pos_of_mem h1
  have hlen:pts.length≤48:=by
    have h1:=few_below (nsN c.P) R (hRp.dis.imp fun {x y} hne (e:x=y)=>hne (by rw [e];exact hok.ptE.rf _)) hRp.lt
    rw [hC.len];omega
  obtain ⟨bu,rfl,hbu,hrow⟩:=hS.ou.row_of hne
  have hel:=fun i hi=>hC.elem hok hRp.lt (i:=i) hi
  have hcmp:CmpQ bu 89 [] [] H1 pts cfP:=by
    intro H2 lim2 x y K2 hx hy hle hoth hK2
    obtain ⟨i,hi,rfl⟩:=mem_at hx
    obtain ⟨j,hj,rfl⟩:=mem_at hy
    have hi':i<R.length:=by rw [←hC.len];exact hi
    have hj':j<R.length:=by rw [←hC.len];exact hj
    have own:∀i,i<pts.length→SlV H2 (pts.getD i default).v (cl.getD i []):=fun i hi =>
      ((hS.oc i hi).keepB fun b o m z e=>hoth b ((hS.oc i hi).belowB _ _ _ _ e).2 fun e'=>by
        subst e'
        exact hS.ap i hi _ _ _ _ _ _ _ rfl e).sl
    have kk:∀i,i<R.length→0<(cl.getD i []).length∧(cl.getD i []).getD 0 0=(pts.getD i default).k∧0≤(pts.getD i default).k∧(pts.getD i default).k≤1000:=fun i hi=>by
      obtain ⟨e1,e2,_⟩:=hel i hi
      obtain ⟨f1,f2⟩:=first_low hok e2
      have:=(lowE_spec hok.ptE (R.getD i 0)).1
      rw [(hC.at' i hi).1,f1,e1]
      exact ⟨f2,rfl,by omega,by omega⟩
    exact surf_cmpP (own i hi) (own j hj) (kk i hi') (kk j hj') (hK2 _ HX.refl)
  refine sq_sort (b:=bu) (l:=pts) (cf:=cfP) hrow (by omega) ⟨rfl,rfl,by decide⟩ hcmp cfP_ordr (by omega) fun H2 l2 hs2 hso => ?_
  have hb4:=hS.big
  have hlu2:H2[H.length+3]? = some (.row [.sl bu 0 pts.length 4] true):=by
    rw [hs2.oth _ (by omega) (by omega)];exact hS.b3
  have hlu':∀L,vload none L H2 (.ptr (H.length+3) 0)=some (.sl bu 0 pts.length 4):=fun L=>by rw [vload_ptr hlu2];rfl
  simp [f4,hlu',-vload_ptrO]
  have hl2:l2.length=pts.length:=hs2.n
  have hmin:=pts_sorted hok hRp hC hs2.perm (by rw [hl2];exact hso)
  have hlm:(minsE (PtR c) (nsN c.P)).length=pts.length:=by rw [←hmin,List.length_map,hl2]
  have hx2:HX H H2:=HX.of (by have:=hS.hx.len;have:=hs2.len;omega) fun b hb=>by
    have:=hS.hx.len
    rw [hs2.oth b (by omega) (by omega),hS.hx.same hb]
  refine hK _ _ hx2 ⟨l2,?_,by rw [hl2,ptsP,List.length_map,hlm],fun i hi => ?_⟩
  · rw [←hl2];exact .row (by omega) hs2.row
  · have hi2:i<l2.length:=by rw [ptsP,List.length_map,hlm] at hi;omega
    have hmem:l2.getD i default∈pts:=hs2.perm.mem_iff.1 (getD_mem hi2)
    obtain ⟨j,hj,ej⟩:=mem_at hmem
    have hj':j<R.length:=by rw [←hC.len];exact hj
    obtain ⟨e1,e2,e3,e4,e5⟩:=hel j hj'
    have hki:(l2.getD i default).k.toNat=(minsE (PtR c) (nsN c.P)).getD i 0:=by
      rw [←hmin]
      simp only [List.getD_eq_getElem?_getD,List.getElem?_map,List.getElem?_eq_getElem hi2];rfl
    rw [ej,e1] at hki
    simp only [Int.toNat_natCast] at hki
    obtain ⟨a1,a2,a3⟩:=lowE_spec hok.ptE (R.getD j 0)
    rw [hki] at a2
    obtain ⟨c1,c2,c3⟩:=ptOf_congr hok a2
    have hpt:(ptsP c).getD i default=ptOf c ((minsE (PtR c) (nsN c.P)).getD i 0):=by
      have him:i<(minsE (PtR c) (nsN c.P)).length:=by omega
      simp only [ptsP,List.getD_eq_getElem?_getD,List.getElem?_map,List.getElem?_eq_getElem him];rfl
    rw [hpt,ej,e3,e4,e5,c2,c3]
    refine ⟨rfl,rfl,rfl,?_⟩
    have:=((hS.oc j hj).keepB (H':=H2) fun b o m z e=>hs2.oth b ((hS.oc j hj).belowB _ _ _ _ e).2 fun e'=>by
        subst e'
        exact hS.ap j hj _ _ _ _ _ _ _ rfl e).le (n:=H.length) (by omega)
    rw [(hC.at' j hj').1,c1] at this
    exact this
end
end Go.Proofs.Ytclghkegfpcdpaa.Vm
namespace Go.Proofs.Ytclghkegfpcdpaa.Vm
open Go
set_option maxRecDepth 100000
set_option maxHeartbeats 1000000
set_option linter.unusedSimpArgs false
set_option linter.unusedVariables false
attribute [-simp] List.getD_eq_getElem?_getD
section
variable {c:Cp}{k s:Nat}
def sgP (c:Cp):Nat→Nat:=fun s=>s
noncomputable def sg (c:Cp)(s:Nat):Nat:=sgN (nsN c.P) (nxN c.P) (lsN c) s
def FrsP (c:Cp)(k:Nat):Prop:=LeE (Orb (nsN c.P) (sgN (nsN c.P) (nxN c.P) (lsN c))) k∧alf (lsN c) k=k
open Classical in
noncomputable def frsA (c:Cp)(b:Nat):List Nat:=(List.range b).filter fun k=>decide (FrsP c k)
theorem mem_frs {b r:Nat}:r∈frsA c b↔r<b∧FrsP c r:=by simp [frsA]
theorem frs_all:frsA c (nsN c.P)=firstsN (nsN c.P) (nxN c.P) (lsN c):=by
  unfold frsA firstsN minsE
  rw [List.filter_filter]
  refine List.filter_congr fun k _ => ?_
  rw [Bool.eq_iff_iff]
  simp only [decide_eq_true_eq,Bool.and_eq_true,freeN_iff]
  unfold FrsP
  exact ⟨fun h=>⟨h.2,h.1⟩,fun h=>⟨h.2,h.1⟩⟩
theorem frs_yes {b:Nat}(h:FrsP c b):frsA c (b+1)=frsA c b++[b]:=by
  unfold frsA
  rw [List.range_succ,List.filter_append]
  simp [h]
theorem frs_no {b:Nat}(h:¬FrsP c b):frsA c (b+1)=frsA c b:=by
  unfold frsA
  rw [List.range_succ,List.filter_append]
  simp [h]
noncomputable def lpP (c:Cp)(f:Nat):List Nat:=lpN (nsN c.P) (sgN (nsN c.P) (nxN c.P) (lsN c)) f
theorem seen_iff (hok:CapOk c)(hk:k<nsN c.P)(hf:alf (lsN c) k=k):(∃r,r∈frsA c k∧k∈lpP c r)↔¬FrsP c k:=by
  have hsg:=sg_pr hok.nu
  have hE:=hsg.eqv
  constructor
  · rintro ⟨r,hr,hm⟩ ⟨h1,h2⟩
    obtain ⟨r1,r2,r3⟩:=mem_frs.1 hr
    rw [lpP,lp_mem hsg (by omega)] at hm
    exact h1 r r1 (hE.sy hm)
  · intro h
    apply Classical.byContradiction
    intro hn
    refine h ⟨fun d hd he => ?_,hf⟩
    obtain ⟨a1,a2,a3⟩:=lowE_spec hE d
    have hfd:=sg_stays hok.nu hf (hE.tr he a2)
    exact hn ⟨_,mem_frs.2 ⟨by omega,a3,hfd⟩,by rw [lpP,lp_mem hsg (by omega)];exact hE.sy (hE.tr he a2)⟩
noncomputable def lpL (c:Cp)(f j:Nat):List Int:=(List.range j).map fun t=>((itN (sgN (nsN c.P) (nxN c.P) (lsN c)) t f:Nat):Int)
theorem lpL_snoc {f j:Nat}:lpL c f (j+1)=lpL c f j++[((itN (sgN (nsN c.P) (nxN c.P) (lsN c)) j f:Nat):Int)]:=by simp [lpL,List.range_succ]
theorem lpL_len {f j:Nat}:(lpL c f j).length=j:=by simp [lpL]
theorem lpL_all {f:Nat}:lpL c f (perN (nsN c.P) (sgN (nsN c.P) (nxN c.P) (lsN c)) f)=natL (lpP c f):=by
  rw [lpL,natL,lpP,lpN,List.map_map];rfl
end
def vC:Cod V 1:=⟨fun x=>[x],fun _=>rfl⟩
structure LpsS (n0:Nat)(H0:Hp)(M:List (Int×Bool))(u:V)(us:List V)(ls:List (List Int))(cv:V)(cur:List Int)(H:Hp):Prop where
  hx:HX H0 H
  hn:H0.length=n0
  b1:H[n0]? = some (.map (mE kI .bool M))
  ou:OwnT (n0+1) vC H u us
  len:us.length=ls.length
  oc:∀i,i<us.length→OwnV (n0+1) H (us.getD i dv) (ls.getD i [])
  ow:OwnV (n0+1) H cv cur
  ap:∀i,i<us.length→∀b o z y o' z' y',u=.sl b o z y→us.getD i dv=.sl b o' z' y'→False
  aw:∀b o z y o' z' y',u=.sl b o z y→cv=.sl b o' z' y'→False
  ac:∀i,i<us.length→∀b o z y o' z' y',cv=.sl b o z y→us.getD i dv=.sl b o' z' y'→False
section
variable {n0 lim:Nat}{H H0 H':Hp}{K:V→Hp→Prop}{lv u cv v:V}{M M':List (Int×Bool)}{us:List V}{ls:List (List Int)}{cur:List Int}{c:Cp}{s:Nat}
theorem LpsS.big (h:LpsS n0 H0 M u us ls cv cur H):n0+1≤H.length:=(List.getElem?_eq_some_iff.1 h.b1).1
theorem LpsS.move (h:LpsS n0 H0 M u us ls cv cur H)(ho:OthM n0 H H')(hm:H'[n0]? = some (.map (mE kI .bool M'))):LpsS n0 H0 M' u us ls cv cur H' where
  hx:=HX.of (by have:=h.hx.len;have:=ho.1;omega) fun b hb=>by
    have:=h.hx.len
    have:=h.hn
    rw [ho.2 b (by omega) (by omega),h.hx.same hb]
  hn:=h.hn
  b1:=hm
  ou:=h.ou.keepB fun b o m z e=>by have:=h.ou.belowB _ _ _ _ e;exact ho.2 b (by omega) (by omega)
  len:=h.len
  oc:=fun i hi=>(h.oc i hi).keepB fun b o m z e=>by have:=(h.oc i hi).belowB _ _ _ _ e;exact ho.2 b (by omega) (by omega)
  ow:=h.ow.keepB fun b o m z e=>by have:=h.ow.belowB _ _ _ _ e;exact ho.2 b (by omega) (by omega)
  ap:=h.ap
  aw:=h.aw
  ac:=h.ac
theorem LpsS.grow (h:LpsS n0 H0 M u us ls cv cur H)(hx:HX H H'):LpsS n0 H0 M u us ls cv cur H':=h.move ⟨hx.len,fun b hb _=>hx.same hb⟩ (hx.get h.b1)
theorem LpsS.put (h:LpsS n0 H0 M u us ls cv cur H){k:Int}:LpsS n0 H0 (putA k true M) u us ls cv cur (H.set n0 (.map (mE kI .bool (putA k true M)))) :=
  h.move ⟨by simp,fun b hb hne=>List.getElem?_set_ne (fun e=>hne e.symm)⟩ (List.getElem?_set_self h.big)
theorem LpsS.pushC (h:LpsS n0 H0 M u us ls cv cur H){x:Int}(hlim:lim≤n0)(hl:cur.length<1000000) :
    ∃cv' H',vappend lim 1 8 (H++[.row [.int .i64 x] true]) cv (.sl H.length 0 1 1)=some (cv',H')∧LpsS n0 H0 M u us ls cv' (cur++[x]) H':=by
  have hb:=h.big
  obtain ⟨v',H',a1,a2,a3,a4,a5,a6⟩:=h.ow.appendF (lim:=lim) (x:=x) ⟨by omega,by omega⟩ hl
  have bo:∀b,b<n0+1→∀o z y,cv≠.sl b o z y:=fun b hb o z y e=>by have:=h.ow.belowB _ _ _ _ e;omega
  have hh:=h.hn
  refine ⟨v',H',a1,⟨a3 _ h.hx (by omega),h.hn,(a5 n0 (by omega) (bo _ (by omega))).trans h.b1,h.ou.keepB fun b o m z e=>a5 b (h.ou.belowB _ _ _ _ e).2 fun o' z' y' e'=>h.aw _ _ _ _ _ _ _ e e',h.len,
    fun i hi=>(h.oc i hi).keepB fun b o m z e=>a5 b ((h.oc i hi).belowB _ _ _ _ e).2 fun o' z' y' e'=>h.ac i hi _ _ _ _ _ _ _ e' e,a2,h.ap,fun b o z y o' z' y' e e' => ?_,fun i hi b o z y o' z' y' e e' => ?_⟩⟩
  · have:=(h.ou.belowB _ _ _ _ e).2
    have:=a6 _ _ _ _ e'
    omega
  · have:=((h.oc i hi).belowB _ _ _ _ e').2
    have:=a6 _ _ _ _ e
    omega
theorem LpsS.pushU (h:LpsS n0 H0 M u us ls cv cur H)(hlim:lim≤n0)(hl:us.length<1000000) :
    ∃u' H',vappend lim 1 24 (H++[.row [cv] true]) u (.sl H.length 0 1 1)=some (u',H')∧LpsS n0 H0 M u' (us++[cv]) (ls++[cur]) .snil [] H':=by
  have hb:=h.big
  obtain ⟨v',H',a1,a2,a3,a4,a5,a6⟩:=h.ou.appendF2 (lim:=lim) (bytes:=24) (x:=cv) (cs:=[cv]) rfl ⟨by omega,by omega⟩ (by omega) hl
  have bo:∀b,b<n0+1→∀o z y,u≠.sl b o z y:=fun b hb o z y e=>by have:=h.ou.belowB _ _ _ _ e;omega
  have hh:=h.hn
  refine ⟨v',H',a1,⟨a3 _ h.hx (by omega),h.hn,(a5 n0 (by omega) (bo _ (by omega))).trans h.b1,a2,by simp [h.len],fun i hi => ?_,.nil,fun i hi b o z y o' z' y' e e' => ?_,fun b o z y o' z' y' _ e=>(by cases e),fun i hi b o z y o' z' y' e _=>(by cases e)⟩⟩
  · rw [List.length_append,List.length_singleton] at hi
    by_cases hlt:i<us.length
    · rw [getD_lt hlt,getD_lt (l:=ls) (by rw [←h.len];exact hlt)]
      exact (h.oc i hlt).keepB fun b o m z e=>a5 b ((h.oc i hlt).belowB _ _ _ _ e).2 fun o' z' y' e'=>h.ap i hlt _ _ _ _ _ _ _ e' e
    · have:i=us.length:=by omega
      subst this
      rw [getD_last rfl,getD_last h.len]
      exact h.ow.keepB fun b o m z e=>a5 b (h.ow.belowB _ _ _ _ e).2 fun o' z' y' e'=>h.aw _ _ _ _ _ _ _ e' e
  · rw [List.length_append,List.length_singleton] at hi
    have h6:=a6 _ _ _ _ e
    by_cases hlt:i<us.length
    · rw [getD_lt hlt] at e'
      have:=(h.oc i hlt).belowB _ _ _ _ e'
      omega
    · have:i=us.length:=by omega
      subst this
      rw [getD_last rfl] at e'
      have:=h.ow.belowB _ _ _ _ e'
      omega
structure LlsV (n:Nat)(H:Hp)(v:V)(q:List (List Int)):Prop where
  ex:∃us,OwnT n vC H v us∧us.length=q.length∧∀i,i<q.length→OwnV n H (us.getD i dv) (q.getD i [])
theorem after_sg (hok:CapOk c)(hs:s<nsN c.P)(hf:alf (lsN c) s=s)(hlv:LstV sdC H lv (layL c.P (lsN c)))(hlim:lim≤H.length)(hK:∀H',HX H H'→K (.int .i64 (sgN (nsN c.P) (nxN c.P) (lsN c) s:Nat)) H') :
    VCall tbl lim 92 [lv,.int .i64 s] H K:=by
  have hnu:=hok.nu
  have hns:=hok.ns
  have hc:nuP c s<nsN c.P:=hnu.lt s hs
  have e1:nuP c s=((layL c.P (lsN c)).getD s default).n.toNat:=by
    rw [layL_get hs]
    show nxN c.P (alf (lsN c) s)=_
    rw [hf];rfl
  obtain ⟨w1,w2,w3⟩:=walk_conds hok hc
  refine layout_after (n:=rnN (nsN c.P) (nxN c.P) (lsN c) (nuP c s)) hlv (lay_ok hok.sm_ok (by omega)) (by rw [layL_len];exact hs) e1 w2 w3 hlim fun H' hx => ?_
  have e2:wlk (layL c.P (lsN c)) (nuP c s) (rnN (nsN c.P) (nxN c.P) (lsN c) (nuP c s))=sgN (nsN c.P) (nxN c.P) (lsN c) s:=by
    rw [w1 _ (Nat.le_refl _),sgN,if_pos hf];rfl
  rw [e2]
  exact hK _ hx
theorem surf_loops (hok:CapOk c) (hlim:lim≤H.length) (hlv:LstV sdC H lv (layL c.P (lsN c))) (hK:∀H' v,HX H H'→LlsV H.length H' v ((loopP c).map natL)→K v H') :
    VCall tbl lim 62 [lv] H K:=by
  refine VCall_fn tbl_at62 rfl ?_
  have hns:=hok.ns
  have hnu:=hok.nu
  have hsg:=sg_pr hnu
  have hll:=layL_len (P:=c.P) (L:=lsN c)
  have hl0:vlenS lv=some (.int .i64 (nsN c.P)):=by rw [hlv.len,hll]
  simp [vf62,hl0]
  refine wLoop_up (nsN c.P) (fun i fr L H'=>∃M u us,(fr 0=lv∧fr 3=.mp H.length∧fr 4=u∧fr 10=.int .i64 (nsN c.P)∧fr 11=.int .i64 i)∧L=[]∧LpsS H.length H M u us ((frsA c i).map fun f=>natL (lpP c f)) .snil [] H'∧∀k:Nat,(look (k:Int) M).getD false=true↔∃r,r∈frsA c i∧k∈lpP c r) ⟨[],.snil,[],by simp,rfl,⟨⟨_,rfl⟩,rfl,by simp;rfl,.nil,by simp [frsA],fun i hi=>(by simp at hi),.nil,fun i hi=>(by simp at hi),fun b o z y o' z' y' e _=>(by cases e),fun i hi=>(by simp at hi)⟩,fun k=>by simp [look_nil,frsA]⟩ ?_
  rintro i hi fr L H1 ⟨M,u,us,⟨f0,f3,f4,f10,f11⟩,rfl,hS,hM⟩
  simp [f0,f3,f4,f10,f11]
  have hxl:=hlv.mono hS.hx
  refine cond_dec (fun ht => ?_) fun hfl => ?_
  · have ht : i < nsN c.P:=by omega
    have ad:=hxl.at (i:=i) (by rw [hll];exact ht)
    have fa:vfaddr 4 (ept 5 lv i)=some (eptf 5 lv i 4):=hxl.faddr (by rw [hll];exact ht)
    have ld:∀L,vload none L H1 (eptf 5 lv i 4)=some (.int .i64 (sdP c.P (lsN c) i).p):=fun L=>by
      rw [hxl.rd1 (by rw [hll];exact ht) (by omega),layL_get ht];rfl
    have hfree:=lay_free (P:=c.P) (L:=lsN c) ht
    rw [layL_get ht] at hfree
    have hg:vmget false [.int .i64] false (.bool false) H1 (.mp H.length) (.int .i64 (i:Int))=some (.bool ((look (i:Int) M).getD false)):=vmgetE (K:=kI) (vc:=V.bool) (a:=(i:Int)) (z:=false) hS.b1
    generalize (sdP c.P (lsN c) i).p=pp at *
    by_cases hp:pp = -1
    case neg =>
      have hnf:¬FrsP c i:=fun h=>hp (hfree.2 h.2)
      have hp':decide (pp = -1)=false:=decide_eq_false hp
      simp (disch:=omega) [f0,f3,f4,f10,f11,ad,fa,ld,hp,wrap_i64]
      rw [frs_no hnf]
      exact ⟨ht,_,⟨_,hS⟩,hM⟩
    subst hp
    have hf:alf (lsN c) i=i:=hfree.1 rfl
    have hsn:=(hM i).trans (seen_iff hok ht hf)
    cases hlo:(look (i:Int) M).getD false with
    | true =>
      have hnf:¬FrsP c i:=hsn.1 hlo
      rw [hlo] at hg
      simp (disch:=omega) [f0,f3,f4,f10,f11,ad,fa,ld,hg,wrap_i64]
      rw [frs_no hnf]
      exact ⟨ht,_,⟨_,hS⟩,hM⟩
    | false =>
      have hfr:FrsP c i:=by
        apply Classical.byContradiction
        intro hn
        have:=hsn.2 hn
        rw [hlo] at this;cases this
      rw [hlo] at hg
      simp [f0,f3,f4,f10,f11,ad,fa,ld,hg]
      obtain ⟨p1,⟨p2,p3⟩,p4⟩:=per_spec hsg ht
      have hlp:lpP c i=lpN (nsN c.P) (sgN (nsN c.P) (nxN c.P) (lsN c)) i:=rfl
      have hlall:=lpL_all (c:=c) (f:=i)
      generalize hm:perN (nsN c.P) (sgN (nsN c.P) (nxN c.P) (lsN c)) i=m at *
      refine wLoop_up m (fun j fr L H'=>∃M' cv,(fr 0=lv∧fr 3=.mp H.length∧fr 4=u∧fr 6=cv∧fr 7=.int .i64 (itN (sgN (nsN c.P) (nxN c.P) (lsN c)) j i:Nat)∧fr 10=.int .i64 (nsN c.P)∧fr 11=.int .i64 i)∧L=[]∧LpsS H.length H M' u us ((frsA c i).map fun f=>natL (lpP c f)) cv (lpL c i j) H'∧∀k:Nat,(look (k:Int) M').getD false=true↔(look (k:Int) M).getD false=true∨∃t,t<j∧k=itN (sgN (nsN c.P) (nxN c.P) (lsN c)) t i) ⟨M,.snil,by simp [f0,f3,f4,f10,f11,itN],rfl,by simpa [lpL] using hS,fun k=>by simp⟩ ?_
      clear f0 f3 f4 f10 f11 ad fa ld hg hxl hlo fr
      rintro j hj fr L H2 ⟨M',cv,⟨f0,f3,f4,f6,f7,f10,f11⟩,rfl,hS2,hM2⟩
      have hq:=hsg.it ht j
      have hqf:=sg_stays hnu hf (hsg.orb ht j)
      have hg:vmget false [.int .i64] false (.bool false) H2 (.mp H.length) (.int .i64 (itN (sgN (nsN c.P) (nxN c.P) (lsN c)) j i:Nat))=some (.bool ((look ((itN (sgN (nsN c.P) (nxN c.P) (lsN c)) j i:Nat):Int) M').getD false)):=vmgetE (K:=kI) (vc:=V.bool) (z:=false) hS2.b1
      have hsee:=hM2 (itN (sgN (nsN c.P) (nxN c.P) (lsN c)) j i)
      by_cases hjm:j=m
      · have hseen:(look ((itN (sgN (nsN c.P) (nxN c.P) (lsN c)) j i:Nat):Int) M').getD false=true:=by
          rw [hsee];right;exact ⟨0,by omega,by rw [hjm,p3];rfl⟩
        rw [hseen] at hg
        subst hjm
        obtain ⟨u2,H3,b1,hS3⟩:=hS2.pushU (lim:=lim) hlim (by
          have h1:=hS2.len
          rw [List.length_map] at h1
          have h2:(frsA c i).length≤i:=by
            unfold frsA;exact Nat.le_trans (List.length_filter_le _ _) (by simp)
          omega)
        simp (disch:=omega) [f0,f3,f4,f6,f7,f10,f11,hg,hS2.ow.sl.stor,hS2.ow.sl.one,splice,b1,wrap_i64]
        refine ⟨ht,M',⟨us++[cv],?_⟩,fun k => ?_⟩
        · rw [frs_yes hfr,List.map_append,List.map_cons,List.map_nil,←hlall]
          exact hS3
        · rw [hM2 k,hM k,frs_yes hfr]
          constructor
          · rintro (⟨r,h1,h2⟩ | ⟨t,h1,h2⟩)
            · exact ⟨r,List.mem_append_left _ h1,h2⟩
            · refine ⟨i,by simp,?_⟩
              rw [hlp,lp_mem hsg ht,h2]
              exact hsg.orb ht t
          · rintro ⟨r,h1,h2⟩
            rcases List.mem_append.1 h1 with h1 | h1
            · exact Or.inl ⟨r,h1,h2⟩
            · rw [List.mem_singleton] at h1
              subst h1
              right
              rw [hlp,lpN,hm] at h2
              obtain ⟨t,h3,h4⟩:=List.mem_map.1 h2
              exact ⟨t,List.mem_range.1 h3,h4.symm⟩
      · have hlt:j<m:=by omega
        have hseen:(look ((itN (sgN (nsN c.P) (nxN c.P) (lsN c)) j i:Nat):Int) M').getD false=false:=by
          cases hb:(look ((itN (sgN (nsN c.P) (nxN c.P) (lsN c)) j i:Nat):Int) M').getD false with
          | false=>rfl
          | true =>
            rcases hsee.1 hb with h | ⟨t,h1,h2⟩
            · obtain ⟨r,h1,h2⟩:=(hM _).1 h
              obtain ⟨r1,r2,r3⟩:=mem_frs.1 h1
              rw [lpP,lp_mem hsg (by omega)] at h2
              exact absurd (hsg.eqv.tr (hsg.orb ht j) (hsg.eqv.sy h2)) (hfr.1 r r1)
            · have:=hsg.back ht t (j-t) (by rw [show t+(j-t)=j by omega];exact h2)
              exact absurd ⟨by omega,this⟩ (p4 (j-t) (by omega))
        rw [hseen] at hg
        generalize hqe:itN (sgN (nsN c.P) (nxN c.P) (lsN c)) j i=q at *
        have hput:vmput lim false [.int .i64] H2 (.mp H.length) (.int .i64 (q:Int)) (.bool true)=some (H2.set H.length (.map (mE kI .bool (putA (q:Int) true M')))):=vmputE (K:=kI) (vc:=V.bool) (u:=true) hS2.b1 hlim rfl
        have hS3:=hS2.put (k:=(q:Int))
        generalize H2.set H.length (.map (mE kI .bool (putA (q:Int) true M')))=H3 at *
        obtain ⟨cv2,H4,b1,hS4⟩:=hS3.pushC (lim:=lim) (x:=(q:Int)) hlim (by rw [lpL_len];omega)
        have hb4:=hS4.big
        simp [f0,f3,f4,f6,f7,f10,f11,hg,hput,b1,hlv.stor]
        refine after_sg hok hq hqf (hlv.mono hS4.hx) (by omega) fun H5 x5 => ?_
        simp [f0,f3,f4,f6,f7,f10,f11]
        refine ⟨hlt,putA (q:Int) true M',cv2,⟨rfl,?_⟩,?_,fun k => ?_⟩
        · rw [←hqe];rfl
        · rw [lpL_snoc,hqe];exact hS4.grow x5
        · rw [look_put]
          by_cases e:(k:Int)=(q:Int)
          · have e':k=q:=by omega
            subst e'
            rw [if_pos rfl]
            simp only [Option.getD_some,true_iff]
            exact Or.inr ⟨j,by omega,hqe.symm⟩
          · rw [if_neg e,hM2 k]
            constructor
            · rintro (h | ⟨t,h1,h2⟩)
              · exact Or.inl h
              · exact Or.inr ⟨t,by omega,h2⟩
            · rintro (h | ⟨t,h1,h2⟩)
              · exact Or.inl h
              · rcases Nat.lt_or_ge t j with h3 | h3
                · exact Or.inr ⟨t,h3,h2⟩
                · have:t=j:=by omega
                  subst this
                  rw [hqe] at h2
                  exact absurd (by rw [h2]) e
  · have:i=nsN c.P:=by omega
    subst this
    simp [f4,hS.ou.lst.stor]
    refine hK _ _ hS.hx ⟨us,hS.ou.le (by omega),?_,fun i hi => ?_⟩
    · rw [hS.len,frs_all,List.length_map,List.length_map,loopP,loopsN,List.length_map]
    · have e:(loopP c).map natL=(frsA c (nsN c.P)).map fun f=>natL (lpP c f):=by
        rw [frs_all,loopP,loopsN,List.map_map];rfl
      rw [e] at hi ⊢
      exact (hS.oc i (by rw [hS.len];exact hi)).le (by omega)
end
end Go.Proofs.Ytclghkegfpcdpaa.Vm
namespace Go.Proofs.Ytclghkegfpcdpaa.Vm
open Go
set_option maxRecDepth 100000
set_option maxHeartbeats 1000000
set_option linter.unusedSimpArgs false
set_option linter.unusedVariables false
attribute [-simp] List.getD_eq_getElem?_getD
section
variable {c:Cp}
theorem pts_le:(ptsP c).length≤nsN c.P:=by
  rw [ptsP,List.length_map]
  exact few_below _ _ mins_nodup fun x hx=>(mem_mins.1 hx).1
theorem sum_le (hok:CapOk c):∀{l:List Nat},(∀x∈l,x<nsN c.P)→0≤(l.map (anN c.P)).sum∧(l.map (anN c.P)).sum≤359*l.length
  | [],_=>by simp
  | x :: l,h=>by
    have h1:=sum_le hok (l:=l) fun y hy=>h y (List.mem_cons_of_mem _ hy)
    have h2:=an_bd hok (h x (by simp))
    simp only [List.map_cons,List.sum_cons,List.length_cons];omega
theorem sumP_bd (hok:CapOk c)(k:Nat):0≤sumP c k∧sumP c k≤17232:=by
  have h1:=sum_le hok (l:=memE (PtR c) (nsN c.P) k) fun x hx=>(mem_memE.1 hx).1
  have h2:=few_below (nsN c.P) (memE (PtR c) (nsN c.P) k) memE_nodup fun x hx=>(mem_memE.1 hx).1
  have:=hok.ns
  unfold sumP;omega
theorem pt_df (hok:CapOk c){q:Ptt}(hq:q∈ptsP c) : -17052≤q.df∧q.df≤360:=by
  obtain ⟨k,hk,rfl⟩:=List.mem_map.1 hq
  have h1:=sumP_bd hok k
  have:(ptOf c k).df=(if innB c k then 360 else 180)-sumP c k:=rfl
  rw [this];split<;>omega
def dfL (c:Cp)(i:Nat):Int:=0
noncomputable def msUp (c:Cp)(i:Nat):Int:=(((ptsP c).map (·.df)).take i).sum
theorem msUp_snoc {i:Nat}(hi:i<(ptsP c).length):msUp c (i+1)=msUp c i+((ptsP c).getD i default).df:=by
  unfold msUp
  rw [take_sum (by simpa using hi)]
  congr 1
  simp [List.getD_eq_getElem?_getD,hi]
theorem msUp_bd (hok:CapOk c):∀{i:Nat},i≤(ptsP c).length→-17052*(i:Int)≤msUp c i∧msUp c i≤360*i
  | 0,_=>by simp [msUp]
  | i+1,h=>by
    have h1:=msUp_bd hok (i:=i) (by omega)
    have h2:=pt_df hok (getD_mem (l:=ptsP c) (i:=i) (by omega))
    rw [msUp_snoc (by omega)];omega
theorem ls_bd (hok:CapOk c):c.S.length≤24:=by
  have:=frees_len hok.sm_ok
  rw [ls_len] at this
  have:=hok.ns
  omega
theorem part_le:partP c≤c.P.length:=few_below _ _ mins_nodup fun x hx=>(mem_mins.1 hx).1
theorem loop_le:(loopP c).length≤nsN c.P:=by
  rw [loopP,loopsN,List.length_map]
  exact few_below _ _ (List.Nodup.sublist List.filter_sublist mins_nodup) fun x hx=>(mem_firsts.1 hx).1.1
theorem ln_bd (hok:CapOk c){k:Nat}(hk:k<nsN c.P):1≤lnN c.P k∧lnN c.P k≤200:=by
  obtain ⟨q,j,h1,h2,rfl⟩:=off_loc hk
  rw [ln_at h1 h2]
  exact ((piece_ok (hok.pc q h1)).2.2.1 j h2).1
def lnUp (c:Cp)(lo:List Nat)(j:Nat):Int:=((lo.take j).map (lnN c.P)).sum
theorem lnUp_snoc {lo:List Nat}{j:Nat}(hj:j<lo.length):lnUp c lo (j+1)=lnUp c lo j+lnN c.P (lo.getD j default):=by
  unfold lnUp
  rw [List.take_add_one,List.getElem?_eq_getElem hj,List.map_append,List.sum_append,List.getD_eq_getElem?_getD,List.getElem?_eq_getElem hj];simp
theorem lnUp_all {lo:List Nat}:lnUp c lo lo.length=(lo.map (lnN c.P)).sum:=by unfold lnUp;rw [List.take_length]
theorem getD_any {α:Type}{l:List α}{i:Nat}{d d':α}(h:i<l.length):l.getD i d=l.getD i d':=by
  simp [List.getD_eq_getElem?_getD,h]
def PrR (c:Cp)(i:Nat):Nat→Nat→Prop:=prtE (pcN c.P) (prL c.P (c.S.take i))
theorem prL_snoc {i:Nat}(hi:i<c.S.length):prL c.P (c.S.take (i+1))=prS c.P (c.S.getD i default) :: prL c.P (c.S.take i):=by
  rw [take_next hi,prL,List.map_append,List.reverse_append];rfl
theorem PrR_step (hok:CapOk c){i:Nat}(hi:i<c.S.length):PrR c (i+1)=merE (PrR c i) (c.S.getD i default).A.toNat (c.S.getD i default).B.toNat:=by
  have hso:=(seam_ok (hok.sm i hi)).1
  obtain ⟨a1,a2,_,_⟩:=sd_ok hso.1
  obtain ⟨b1,b2,_,_⟩:=sd_ok hso.2
  rw [PrR,prL_snoc hi]
  show merE _ (pcN c.P (prS c.P (c.S.getD i default)).1) (pcN c.P (prS c.P (c.S.getD i default)).2)=_
  rw [prS,pc_at a1 a2,pc_at b1 b2];rfl
theorem PrR_eqv {i:Nat}:Eqv (PrR c i):=prtE_eqv
theorem PrR_zero:nCls (PrR c 0) c.P.length=c.P.length∧∀a b,PrR c 0 a b↔a=b:=by
  have h:∀a b,PrR c 0 a b↔a=b:=fun a b=>by unfold PrR;simp only [List.take_zero,prL,List.map_nil,List.reverse_nil,prtE]
  refine ⟨?_,h⟩
  have:minsE (PrR c 0) c.P.length=List.range c.P.length:=by
    unfold minsE
    rw [List.filter_eq_self]
    intro k _
    simp only [decide_eq_true_eq]
    intro d hd he
    have:=(h k d).1 he
    omega
  rw [nCls,this,List.length_range]
theorem PrR_all:nCls (PrR c c.S.length) c.P.length=partP c:=by
  unfold PrR partP lsN;rw [List.take_length]
theorem label_step (hok:CapOk c) {i:Nat} (hi:i<c.S.length) {l:List Int} (hl:l.length=c.P.length) (h:∀a b,a<c.P.length→b<c.P.length→(l.getD a 0=l.getD b 0↔PrR c i a b)) :
    (∀a b,a<c.P.length→b<c.P.length→((if l.getD a 0=l.getD (c.S.getD i default).A.toNat 0 then l.getD (c.S.getD i default).B.toNat 0 else l.getD a 0)=(if l.getD b 0=l.getD (c.S.getD i default).A.toNat 0 then l.getD (c.S.getD i default).B.toNat 0 else l.getD b 0)↔PrR c (i+1) a b)) ∧
    (nCls (PrR c (i+1)) c.P.length:Int)=nCls (PrR c i) c.P.length-(if l.getD (c.S.getD i default).A.toNat 0=l.getD (c.S.getD i default).B.toNat 0 then 0 else 1):=by
  have hso:=(seam_ok (hok.sm i hi)).1
  obtain ⟨a1,a2,_,_⟩:=sd_ok hso.1
  obtain ⟨b1,b2,_,_⟩:=sd_ok hso.2
  have hE:=PrR_eqv (c:=c) (i:=i)
  have hAB:=h _ _ a1 b1
  rw [PrR_step hok hi]
  generalize (c.S.getD i default).A.toNat=A at *
  generalize (c.S.getD i default).B.toNat=B at *
  constructor
  · intro a b ha hb
    have h1:=h a b ha hb
    have h2:=h a A ha a1
    have h3:=h b A hb a1
    have h4:=h a B ha b1
    have h5:=h b B hb b1
    have hsA:PrR c i A b↔PrR c i b A:=⟨fun g=>hE.sy g,fun g=>hE.sy g⟩
    have hsB:PrR c i B b↔PrR c i b B:=⟨fun g=>hE.sy g,fun g=>hE.sy g⟩
    simp only [merE,hsA,hsB,←h1,←h2,←h3,←h4,←h5]
    split<;>split<;>constructor<;>intro g<;>first | omega | (rcases g with g | g | g<;>omega)
  · by_cases e:l.getD A 0=l.getD B 0
    · rw [if_pos e]
      have:nCls (merE (PrR c i) A B) c.P.length=nCls (PrR c i) c.P.length:=nCls_congr fun a b _ _=>by
        have hh:=hAB.1 e
        constructor
        · rintro (g | ⟨g1,g2⟩ | ⟨g1,g2⟩)
          · exact g
          · exact hE.tr g1 (hE.tr hh g2)
          · exact hE.tr g1 (hE.tr (hE.sy hh) g2)
        · exact Or.inl
      omega
    · rw [if_neg e]
      have:=merE_cls hE a1 b1 fun g=>e (hAB.2 g)
      omega
end
section
variable {lim:Nat}{H H':Hp}{K:V→Hp→Prop}{pv sv:V}{ps:List (V×V)}{P:List Pc}{S:List Sm}{e:Int}{ws:List V}{c:Cp}
theorem CapV.form (h:CapV H ws c):∃pv sv ps,ws=[pv,sv,.int .i64 c.e]∧PcsV H pv ps c.P∧LstV smC H sv c.S∧stor pv=true∧cellsV pv=[pv]∧stor sv=true∧cellsV sv=[sv]:=by
  cases h with
  | mk hp hs=>exact ⟨_,_,_,rfl,hp,hs,hp.lst.stor,hp.lst.one,hs.stor,hs.one⟩
theorem surf_Points (hc:CapV H ws c)(hb:c.S.length≤1000000)(hlim:lim≤H.length)(hK:∀H' v,HX H H'→(capE c=0→PtlV H.length H' v (ptsP c))→(capE c≠0→v=.snil)→K (.tup [v,.int .i64 (capE c)]) H'):VCall tbl lim 21 [.agg ws] H K:=by
  obtain ⟨pv,sv,ps,rfl,hp,hs,z1,z2,z3,z4⟩:=hc.form
  refine VCall_fn tbl_at21 rfl ?_
  simp [vf21,z1,z2,z3,z4,rdA3]
  refine surf_Validate hc hb hlim fun H1 x1 => ?_
  replace x1:HX H H1:=x1
  by_cases he:capE c=0
  case neg =>
    have:=hK H1 .snil x1 (fun h=>absurd h he) (fun _=>rfl)
    simp [he,z1,z2,z3,z4]
    exact this
  have l1:=x1.len
  simp [he,rdA3,z1,z2,z3,z4]
  refine surf_lay (hc.mono x1) (capE_ok.1 he) (by omega) fun H2 lv x2 ol => ?_
  replace x2:HX H1 H2:=x2
  have l2:=x2.len
  simp [ol.lst.stor]
  refine surf_points (capE_ok.1 he) (by omega) ol.lst fun H3 v x3 hv => ?_
  replace x3:HX H2 H3:=x3
  obtain ⟨pts,o1,o2,o3⟩:=hv.ex
  have:=hK H3 v ((x1.trans x2).trans x3) (fun _=>⟨⟨pts,o1.le (by omega),o2,fun i hi=>⟨(o3 i hi).1,(o3 i hi).2.1,(o3 i hi).2.2.1,(o3 i hi).2.2.2.le (by omega)⟩⟩⟩) (fun h=>absurd he h)
  rw [he] at this
  simp [o1.lst.stor]
  exact this
theorem surf_Loops (hc:CapV H ws c)(hb:c.S.length≤1000000)(hlim:lim≤H.length)(hK:∀H' v,HX H H'→(capE c=0→LlsV H.length H' v ((loopP c).map natL))→(capE c≠0→v=.snil)→K (.tup [v,.int .i64 (capE c)]) H'):VCall tbl lim 24 [.agg ws] H K:=by
  obtain ⟨pv,sv,ps,rfl,hp,hs,z1,z2,z3,z4⟩:=hc.form
  refine VCall_fn tbl_at24 rfl ?_
  simp [vf24,z1,z2,z3,z4,rdA3]
  refine surf_Validate hc hb hlim fun H1 x1 => ?_
  replace x1:HX H H1:=x1
  by_cases he:capE c=0
  case neg =>
    have:=hK H1 .snil x1 (fun h=>absurd h he) (fun _=>rfl)
    simp [he,z1,z2,z3,z4]
    exact this
  have l1:=x1.len
  simp [he,rdA3,z1,z2,z3,z4]
  refine surf_lay (hc.mono x1) (capE_ok.1 he) (by omega) fun H2 lv x2 ol => ?_
  replace x2:HX H1 H2:=x2
  have l2:=x2.len
  simp [ol.lst.stor]
  refine surf_loops (capE_ok.1 he) (by omega) ol.lst fun H3 v x3 hv => ?_
  replace x3:HX H2 H3:=x3
  obtain ⟨us,o1,o2,o3⟩:=hv.ex
  have:=hK H3 v ((x1.trans x2).trans x3) (fun _=>⟨⟨us,o1.le (by omega),o2,fun i hi=>(o3 i hi).le (by omega)⟩⟩) (fun h=>absurd he h)
  rw [he] at this
  simp [o1.lst.stor]
  exact this
theorem surf_Euler (hc:CapV H ws c)(hb:c.S.length≤1000000)(hlim:lim≤H.length)(hK:∀H',HX H H'→K (.tup [.int .i64 (if capE c=0 then eulP c else 0),.int .i64 (capE c)]) H'):VCall tbl lim 51 [.agg ws] H K:=by
  obtain ⟨pv,sv,ps,rfl,hp,hs,z1,z2,z3,z4⟩:=hc.form
  refine VCall_fn tbl_at51 rfl ?_
  simp [vf51,z1,z2,z3,z4,rdA3]
  refine surf_Validate hc hb hlim fun H1 x1 => ?_
  replace x1:HX H H1:=x1
  by_cases he:capE c=0
  case neg =>
    have:=hK H1 x1
    rw [if_neg he] at this
    simp [he,z1,z2,z3,z4]
    exact this
  have l1:=x1.len
  have hok:=capE_ok.1 he
  simp [he,rdA3,z1,z2,z3,z4]
  refine surf_lay (hc.mono x1) hok (by omega) fun H2 lv x2 ol => ?_
  replace x2:HX H1 H2:=x2
  have l2:=x2.len
  simp [ol.lst.stor]
  refine surf_points hok (by omega) ol.lst fun H3 v x3 hv => ?_
  replace x3:HX H2 H3:=x3
  obtain ⟨pts,o1,o2,o3⟩:=hv.ex
  have:=hK H3 ((x1.trans x2).trans x3)
  rw [if_pos he,he] at this
  have hv1:vlenS v=some (.int .i64 (ptsP c).length):=by rw [←o2];exact o1.lst.len
  have hv2:vlenS lv=some (.int .i64 (nsN c.P)):=by rw [ol.lst.len,layL_len]
  have b1:=pts_le (c:=c)
  have b2:=hok.ns
  have b3:=ls_bd hok
  have b4:=hok.np
  have e1:((ptsP c).length:Int)-((nsN c.P:Int)-(c.S.length:Int))+(c.P.length:Int)=eulP c:=rfl
  simp (disch:=omega) [hv1,hv2,rd0,rd1',hp.vlen,hs.len,wrap_i64,e1]
  exact this
theorem surf_Missing (hc:CapV H ws c)(hb:c.S.length≤1000000)(hlim:lim≤H.length)(hK:∀H',HX H H'→K (.tup [.int .i64 (if capE c=0 then missP c else 0),.int .i64 (capE c)]) H'):VCall tbl lim 50 [.agg ws] H K:=by
  obtain ⟨pv,sv,ps,rfl,hp,hs,z1,z2,z3,z4⟩:=hc.form
  refine VCall_fn tbl_at50 rfl ?_
  simp [vf50,z1,z2,z3,z4,rdA3]
  refine surf_Points hc hb hlim fun H1 v x1 hv hn => ?_
  replace x1:HX H H1:=x1
  have hres:=hK H1 x1
  by_cases he:capE c=0
  case neg =>
    have hv:=hn he
    subst hv
    rw [if_neg he] at hres
    simp
    refine wLoop_round ?_
    simp
    exact hres
  have hok:=capE_ok.1 he
  obtain ⟨pts,o1,o2,o3⟩:=(hv he).ex
  have hvl:vlenS v=some (.int .i64 (ptsP c).length):=by rw [←o2];exact o1.lst.len
  have b1:=pts_le (c:=c)
  have b2:=hok.ns
  rw [if_pos he] at hres
  simp [hvl]
  refine wLoop_up (ptsP c).length (fun i fr L H'=>(fr 4=v∧fr 5=.int .i64 (capE c)∧fr 6=.int .i64 (msUp c i)∧fr 14=v∧fr 15=.int .i64 (ptsP c).length∧fr 16=.int .i64 i)∧H'=H1) ⟨by simp [msUp],rfl⟩ ?_
  rintro i hi fr L H2 ⟨⟨f4,f5,f6,f14,f15,f16⟩,rfl⟩
  simp [f4,f5,f6,f14,f15,f16]
  refine cond_dec (fun ht => ?_) fun hfl => ?_
  · have ht:i<(ptsP c).length:=by omega
    have ad:=o1.lst.at (i:=i) (by omega)
    have ld:=fun L=>o1.lst.load (i:=i) (by omega) (L:=L)
    obtain ⟨q1,q2,q3,q4⟩:=o3 i ht
    have hb1:=msUp_bd hok (i:=i) (by omega)
    have hb2:=msUp_bd hok (i:=i+1) (by omega)
    have hsn:=msUp_snoc ht
    have ec:pntC.cells (pts.getD i default)=[(pts.getD i default).v,.bool (pts.getD i default).i,.int .i64 (pts.getD i default).a,.int .i64 (pts.getD i default).d]:=rfl
    rw [ec,q3] at ld
    have hw:IntKind.wrap .i64 (msUp c i+((ptsP c).getD i default).df)=msUp c (i+1):=by rw [←hsn];exact wrap_i64 (by omega) (by omega)
    have q5:=q4.sl.stor
    have q6:=q4.sl.one
    simp (disch:=omega) [f4,f5,f6,f14,f15,f16,ad,ld,lastO,lastS,splice,rd3',hw,wrap_i64,q6]
    exact ht
  · have:i=(ptsP c).length:=by omega
    subst this
    have hall:msUp c (ptsP c).length=missP c:=by
      unfold msUp missP;rw [List.take_of_length_le (by simp)]
    rw [hall] at f6
    simp [f5,f6]
    exact hres
theorem surf_Hairline (hc:CapV H ws c) (hb:c.S.length≤1000000) (hlim:lim≤H.length) (hK:∀H' v,HX H H'→(capE c=0→OwnV H.length H' v (hairP c))→(capE c≠0→v=.snil)→K (.tup [v,.int .i64 (capE c)]) H'):VCall tbl lim 31 [.agg ws] H K:=by
  obtain ⟨pv,sv,ps,rfl,hp,hs,z1,z2,z3,z4⟩:=hc.form
  refine VCall_fn tbl_at31 rfl ?_
  simp [vf31,z1,z2,z3,z4,rdA3]
  refine surf_Validate hc hb hlim fun H1 x1 => ?_
  replace x1:HX H H1:=x1
  by_cases he:capE c=0
  case neg =>
    have:=hK H1 .snil x1 (fun h=>absurd h he) (fun _=>rfl)
    simp [he,z1,z2,z3,z4]
    exact this
  have l1:=x1.len
  have hok:=capE_ok.1 he
  simp [he,rdA3,z1,z2,z3,z4]
  refine surf_lay (hc.mono x1) hok (by omega) fun H2 lv x2 ol => ?_
  replace x2:HX H1 H2:=x2
  have l2:=x2.len
  simp [ol.lst.stor]
  refine surf_loops hok (by omega) ol.lst fun H3 v x3 hv => ?_
  replace x3:HX H2 H3:=x3
  have l3:=x3.len
  obtain ⟨us,o1,o2,o3⟩:=hv.ex
  have hvl:vlenS v=some (.int .i64 (loopP c).length):=by rw [o1.lst.len,o2,List.length_map]
  have b1:=loop_le (c:=c)
  have b2:=hok.ns
  have xx:=(x1.trans x2).trans x3
  have hres:=hK
  simp [hvl]
  refine wLoop_up (loopP c).length (fun i fr L H'=>∃ov,(fr 5=lv∧fr 6=ov∧fr 20=v∧fr 21=.int .i64 (loopP c).length∧fr 22=.int .i64 i)∧HX H3 H'∧OwnV H3.length H' ov ((hairP c).take i)) ⟨.snil,by simp,.refl,by simpa using OwnV.nil⟩ ?_
  rintro i hi fr L H4 ⟨ov,⟨f5,f6,f20,f21,f22⟩,x4,hov⟩
  have l4:=x4.len
  simp [f5,f6,f20,f21,f22]
  have hhl:(hairP c).length=(loopP c).length:=by simp [hairP]
  refine cond_dec (fun ht => ?_) fun hfl => ?_
  · have ht:i<(loopP c).length:=by omega
    have ad:=(o1.lst.mono x4).at (i:=i) (by rw [o2,List.length_map];exact ht)
    have ld:∀L,vload none L H4 (ept 1 v i)=some (us.getD i dv):=fun L=>by
      have:=(o1.lst.mono x4).load1 (i:=i) (by rw [o2,List.length_map];exact ht) (L:=L)
      rw [this]
      show some (us.getD i default)=_
      rw [getD_any (by rw [o2,List.length_map];exact ht)]
    have ow:=(o3 i (by rw [List.length_map];exact ht)).mono x4
    have eg:((loopP c).map natL).getD i []=natL ((loopP c).getD i []):=by
      simp [List.getD_eq_getElem?_getD,ht]
    rw [eg] at ow
    have hmem:(loopP c).getD i []∈loopP c:=by
      rw [List.getD_eq_getElem?_getD,List.getElem?_eq_getElem ht];exact List.getElem_mem ht
    have hlt:∀x∈(loopP c).getD i [],x<nsN c.P:=by
      intro x hx
      have:x∈freesN (lsN c) (nsN c.P):=(loops_perm hok.nu).mem_iff.1 (List.mem_flatten.2 ⟨_,hmem,hx⟩)
      exact (mem_frees.1 this).1
    have hll:((loopP c).getD i []).length≤nsN c.P:=by
      have hp:=loops_perm hok.nu
      have hnd:((loopP c).getD i []).Nodup:=by
        have:((loopsN (nsN c.P) (nxN c.P) (lsN c)).flatten).Nodup:=hp.nodup_iff.2 frees_nodup
        rw [List.Nodup,List.pairwise_flatten] at this
        exact this.1 _ hmem
      exact few_below _ _ hnd hlt
    generalize hlo:(loopP c).getD i []=lo at *
    generalize huv:us.getD i dv=uv at *
    have hol:vlenS uv=some (.int .i64 lo.length):=by rw [ow.sl.len,natL_len]
    simp [f5,f6,f20,f21,f22,ad,ld,hol]
    refine wLoop_up lo.length (fun j fr L H'=>(fr 5=lv∧fr 6=ov∧fr 9=.int .i64 (lnUp c lo j)∧fr 20=v∧fr 21=.int .i64 (loopP c).length∧fr 22=.int .i64 i∧fr 26=uv∧fr 27=.int .i64 lo.length∧fr 28=.int .i64 j)∧H'=H4∧0≤(lnUp c lo j)∧(lnUp c lo j)≤200*j) ⟨by simp [f5,f6,f20,f21,f22,lnUp],rfl,by simp [lnUp],by simp [lnUp]⟩ ?_
    clear f5 f6 f20 f21 f22 fr
    rintro j hj fr L H5 ⟨⟨f5,f6,f9,f20,f21,f22,f26,f27,f28⟩,rfl,g1,g2⟩
    simp [f5,f6,f9,f20,f21,f22,f26,f27,f28]
    refine cond_dec (fun hjt => ?_) fun hjf => ?_
    · have hjt:j<lo.length:=by omega
      have hx:=hlt _ (getD_mem (l:=lo) hjt)
      have a1:=ow.sl.addr (i:=(j:Int)) (by rw [natL_len];omega)
      simp only [Int.toNat_natCast] at a1
      have b1:∀L,vload none L H5 (ept 1 uv j)=some (.int .i64 (lo.getD j default:Nat)):=fun L=>by
        rw [ow.sl.load (by rw [natL_len];exact hjt)]
        simp [natL,List.getD_eq_getElem?_getD,hjt]
      have hxl:=(ol.lst.mono x3).mono x4
      have a2:=hxl.at (i:=lo.getD j default) (by rw [layL_len];exact hx)
      have a3:vfaddr 0 (ept 5 lv (lo.getD j default))=some (eptf 5 lv (lo.getD j default) 0):=hxl.faddr (by rw [layL_len];exact hx)
      have a4:∀L,vload none L H5 (eptf 5 lv (lo.getD j default) 0)=some (.int .i64 (lnN c.P (lo.getD j default))):=fun L=>by
        rw [hxl.rd1 (by rw [layL_len];exact hx) (by omega),layL_get hx];rfl
      have hln:=ln_bd hok hx
      have hsn:=lnUp_snoc (c:=c) hjt
      generalize lo.getD j default=q at *
      simp (disch:=omega) [f5,f6,f9,f20,f21,f22,f26,f27,f28,a1,b1,a2,a3,a4,wrap_i64]
      exact ⟨hjt,by rw [hsn],by omega,by omega⟩
    · have:j=lo.length:=by omega
      subst this
      rw [lnUp_all] at f9 g1 g2
      obtain ⟨ov2,H6,c1,c2,c3,c4,c5,c6⟩:=hov.appendF (lim:=lim) (x:=(lo.map (lnN c.P)).sum) ⟨by omega,l4⟩ (by rw [List.length_take];omega)
      simp (disch:=omega) [f5,f6,f9,f20,f21,f22,f26,f27,f28,c1,wrap_i64]
      refine ⟨ht,c3 _ x4 (Nat.le_refl _),?_⟩
      rw [take_snoc (by omega)]
      have:(hairP c).getD i 0=(lo.map (lnN c.P)).sum:=by
        rw [←hlo]
        simp [hairP,List.getD_eq_getElem?_getD,ht]
      rw [this];exact c2
  · have:i=(loopP c).length:=by omega
    subst this
    rw [←hhl,List.take_length] at hov
    have:=hK H4 ov (xx.trans x4) (fun _=>hov.le (by omega)) (fun h=>absurd he h)
    rw [he] at this
    simp [f6,hov.sl.stor]
    exact this
theorem surf_Parts (hc:CapV H ws c) (hb:c.S.length≤1000000) (hlim:lim≤H.length) (hK:∀H',HX H H'→K (.tup [.int .i64 (if capE c=0 then (partP c:Int) else 0),.int .i64 (capE c)]) H'):VCall tbl lim 63 [.agg ws] H K:=by
  obtain ⟨pv,sv,ps,rfl,hp,hs,z1,z2,z3,z4⟩:=hc.form
  refine VCall_fn tbl_at63 rfl ?_
  simp [vf63,z1,z2,z3,z4,rdA3]
  refine surf_Validate hc hb hlim fun H1 x1 => ?_
  replace x1:HX H H1:=x1
  by_cases he:capE c=0
  case neg =>
    have:=hK H1 x1
    rw [if_neg he] at this
    simp [he]
    exact this
  have l1:=x1.len
  have hok:=capE_ok.1 he
  have b4:=hok.np
  have b3:=ls_bd hok
  have hmk:∀L,vmks 1 8 [V.int .i64 0] L H1 (.int .i64 (c.P.length:Int)) (.int .i64 (c.P.length:Int))=some (.val (.sl H1.length 0 c.P.length 1) L (H1++[.row (ints (zs c.P.length)) true])):=fun L=>vmks_int ⟨by omega,by omega⟩
  have own:∀l:List Int,l.length=c.P.length→OwnV H1.length (H1++[.row (ints l) true]) (.sl H1.length 0 c.P.length 1) l:=fun l hl=>by
    have:=OwnV.new (n:=H1.length) (H:=H1) (l:=l) (Nat.le_refl _)
    rwa [hl] at this
  have sto:∀(l:List Int) (i:Nat) (x:Int) (L:Lo),l.length=c.P.length→i<c.P.length→vstore lim L (H1++[.row (ints l) true]) (ept 1 (.sl H1.length 0 c.P.length 1) i) (.int .i64 x) 1=some (L,H1++[.row (ints (l.set i x)) true]):=fun l i x L hl hi=>by
    rw [(own l hl).store ⟨by omega,by omega⟩]
    simp [setH]
  have hxp:∀x,HX H1 (H1++[x]):=fun x=>HX.push
  simp [he,rd0,rd1',hp.vlen,hmk]
  refine wLoop_up c.P.length (fun i fr L H'=>∃l,(fr 1=.lp 0 0∧fr 5=.sl H1.length 0 c.P.length 1∧fr 23=.int .i64 c.P.length∧fr 24=.int .i64 i)∧L=[[pv,sv,.int .i64 c.e]]∧H'=H1++[.row (ints l) true]∧l.length=c.P.length∧∀k:Nat,k<i→l.getD k 0=(k:Int)) ⟨zs c.P.length,by simp,by simp,rfl,zs_length _,fun k hk=>by omega⟩ ?_
  rintro i hi fr L H2 ⟨l,⟨f1,f5,f23,f24⟩,rfl,rfl,hl,hk⟩
  simp [f1,f5,f23,f24]
  refine cond_dec (fun ht => ?_) fun hfl => ?_
  · have ht:i<c.P.length:=by omega
    have ad:=(own l hl).sl.addr (i:=(i:Int)) (by omega)
    simp only [Int.toNat_natCast] at ad
    simp (disch:=omega) [f1,f5,f23,f24,ad,sto,hl,ht,-vstore,lpId_ept,-viaddrS_in,wrap_i64]
    refine ⟨_,rfl,by simpa using hl,fun k hk' => ?_⟩
    rw [getD_set (by omega)]
    by_cases e:k=i
    · rw [if_pos e,e]
    · rw [if_neg e];exact hk k (by omega)
  have:i=c.P.length:=by omega
  subst this
  simp [f1,f5,f23,f24,rd1',hs.len]
  refine wLoop_up c.S.length (fun i fr L H'=>∃l X,(fr 1=.lp 0 0∧fr 5=.sl H1.length 0 c.P.length 1∧fr 7=.int .i64 (nCls (PrR c i) c.P.length:Nat)∧fr 35=sv∧fr 36=.int .i64 c.S.length∧fr 37=.int .i64 i)∧L=[pv,sv,.int .i64 c.e] :: X∧H'=H1++[.row (ints l) true]∧l.length=c.P.length∧∀a b,a<c.P.length→b<c.P.length→(l.getD a 0=l.getD b 0↔PrR c i a b)) ⟨l,[],by simp [f1,f5,PrR_zero.1],rfl,rfl,hl,fun a b ha hb=>by rw [PrR_zero.2,hk a ha,hk b hb];omega⟩ ?_
  clear hl hk hi hfl f1 f5 f23 f24 fr
  rintro i hi fr L H2 ⟨l,X,⟨f1,f5,f7,f35,f36,f37⟩,rfl,rfl,hl,hk⟩
  simp [f1,f5,f7,f35,f36,f37]
  refine cond_dec (fun ht => ?_) fun hfl => ?_
  · have ht : i<c.S.length:=by omega
    have hs2:=(hs.mono x1).mono (hxp (.row (ints l) true))
    have ld:=fun L=>hs2.load ht (L:=L)
    obtain ⟨q1,q2⟩:=label_step hok ht hl hk
    have hso:=(seam_ok (hok.sm i ht)).1
    generalize hse:c.S.getD i default=se at *
    have ec:smC.cells se=[.int .i64 se.A,.int .i64 se.I,.int .i64 se.B,.int .i64 se.J]:=rfl
    rw [ec] at ld
    obtain ⟨a1,a2,a3,a4⟩:=sd_ok hso.1
    obtain ⟨g1,g2,g3,g4⟩:=sd_ok hso.2
    have ada:=(own l hl).sl.addr (i:=se.A) (by omega)
    have adb:=(own l hl).sl.addr (i:=se.B) (by omega)
    have lda:=fun L=>(own l hl).sl.load (i:=se.A.toNat) (by omega) (L:=L)
    have ldb:=fun L=>(own l hl).sl.load (i:=se.B.toNat) (by omega) (L:=L)
    have hn1:nCls (PrR c i) c.P.length≤c.P.length:=few_below _ _ mins_nodup fun x hx=>(mem_mins.1 hx).1
    have hn2:nCls (PrR c (i+1)) c.P.length≤c.P.length:=few_below _ _ mins_nodup fun x hx=>(mem_mins.1 hx).1
    generalize hfrm:l.getD se.A.toNat 0=frm at *
    generalize hto:l.getD se.B.toNat 0=too at *
    simp (disch:=omega) [f1,f5,f7,f35,f36,f37,hs2.at ht,ld,zs4,spl4,splice,lastO,lastS,rd0,rd1',rd2',rd3',ada,adb,lda,ldb,-viaddrS_in]
    refine wCond_join (fun fr' L' H'=>(fr' 1=.lp 0 0∧fr' 5=.sl H1.length 0 c.P.length 1∧fr' 7=.int .i64 (nCls (PrR c (i+1)) c.P.length:Nat)∧fr' 10=.int .i64 frm∧fr' 11=.int .i64 too∧fr' 35=sv∧fr' 36=.int .i64 c.S.length∧fr' 37=.int .i64 i)∧L'=[pv,sv,.int .i64 c.e] :: (X++[[.int .i64 se.A,.int .i64 se.I,.int .i64 se.B,.int .i64 se.J]])∧H'=H1++[.row (ints l) true]) ?_ ?_ ?_
    · intro hne
      have hne:¬frm=too:=by simpa using hne
      rw [if_neg hne] at q2
      have hw:IntKind.wrap .i64 ((nCls (PrR c i) c.P.length:Int)-1)=(nCls (PrR c (i+1)) c.P.length:Nat):=by rw [q2];exact wrap_i64 (by omega) (by omega)
      simp [f1,f5,f7,f35,f36,f37,hw]
    · intro heq
      have heq:frm=too:=by simpa using heq
      rw [if_pos heq] at q2
      simp [f1,f5,f7,f35,f36,f37]
      omega
    rintro fr' L' H' ⟨⟨f1,f5,f7,f10,f11,f35,f36,f37⟩,rfl,rfl⟩
    simp [f1,f5,f7,f10,f11,f35,f36,f37]
    refine wLoop_up c.P.length (fun j fr L H'=>∃l',(fr 1=.lp 0 0∧fr 5=.sl H1.length 0 c.P.length 1∧fr 7=.int .i64 (nCls (PrR c (i+1)) c.P.length:Nat)∧fr 10=.int .i64 frm∧fr 11=.int .i64 too∧fr 35=sv∧fr 36=.int .i64 c.S.length∧fr 37=.int .i64 i∧fr 57=.int .i64 c.P.length∧fr 58=.int .i64 j)∧L=[pv,sv,.int .i64 c.e] :: (X++[[.int .i64 se.A,.int .i64 se.I,.int .i64 se.B,.int .i64 se.J]])∧H'=H1++[.row (ints l') true]∧l'.length=c.P.length∧∀a,a<c.P.length→l'.getD a 0=if a<j∧l.getD a 0=frm then too else l.getD a 0) ⟨l,by simp [f1,f5,f7,f10,f11,f35,f36,f37],rfl,rfl,hl,fun a ha=>by simp⟩ ?_
    rintro j hj fr L H2 ⟨l',⟨f1,f5,f7,f10,f11,f35,f36,f37,f57,f58⟩,rfl,rfl,hl',hk'⟩
    simp [f1,f5,f7,f10,f11,f35,f36,f37,f57,f58]
    refine cond_dec (fun hjt => ?_) fun hjf => ?_
    · have hjt:j<c.P.length:=by omega
      have ad:=(own l' hl').sl.addr (i:=(j:Int)) (by omega)
      simp only [Int.toNat_natCast] at ad
      have lj:=fun L=>(own l' hl').sl.load (i:=j) (by omega) (L:=L)
      have hj0:=hk' j hjt
      rw [if_neg (by omega)] at hj0
      rw [hj0] at lj
      simp [f1,f5,f7,f10,f11,f35,f36,f37,f57,f58,ad,lj,-viaddrS_in]
      refine cond_dec (fun hq => ?_) fun hq => ?_
      · simp (disch:=omega) [f1,f5,f7,f10,f11,f35,f36,f37,f57,f58,ad,sto,hl',hjt,-vstore,lpId_ept,-viaddrS_in,wrap_i64]
        refine ⟨_,rfl,by simpa using hl',fun a ha => ?_⟩
        rw [getD_set (by omega)]
        by_cases e:a=j
        · subst e;rw [if_pos rfl,if_pos ⟨by omega,hq⟩]
        · rw [if_neg e,hk' a ha]
          by_cases hlt:a<j
          · by_cases hqa:l.getD a 0=frm
            · rw [if_pos ⟨hlt,hqa⟩,if_pos ⟨by omega,hqa⟩]
            · rw [if_neg (fun h=>hqa h.2),if_neg (fun h=>hqa h.2)]
          · rw [if_neg (fun h=>hlt h.1),if_neg (fun h=>by omega)]
      · simp (disch:=omega) [f1,f5,f7,f10,f11,f35,f36,f37,f57,f58,wrap_i64]
        refine ⟨hjt,l',rfl,hl',fun a ha => ?_⟩
        rw [hk' a ha]
        by_cases e:a=j
        · subst e;rw [if_neg (fun h=>hq h.2),if_neg (fun h=>hq h.2)]
        · by_cases hlt:a<j
          · by_cases hqa:l.getD a 0=frm
            · rw [if_pos ⟨hlt,hqa⟩,if_pos ⟨by omega,hqa⟩]
            · rw [if_neg (fun h=>hqa h.2),if_neg (fun h=>hqa h.2)]
          · rw [if_neg (fun h=>hlt h.1),if_neg (fun h=>by omega)]
    · have:j=c.P.length:=by omega
      subst this
      simp (disch:=omega) [f1,f5,f7,f10,f11,f35,f36,f37,f57,f58,wrap_i64]
      refine ⟨ht,l',rfl,hl',fun a b ha hb => ?_⟩
      rw [hk' a ha,hk' b hb,←q1 a b ha hb]
      have e1:(a<c.P.length∧l.getD a 0=frm)↔l.getD a 0=frm:=⟨fun h=>h.2,fun h=>⟨ha,h⟩⟩
      have e2:(b<c.P.length∧l.getD b 0=frm)↔l.getD b 0=frm:=⟨fun h=>h.2,fun h=>⟨hb,h⟩⟩
      simp only [e1,e2]
  · have:i=c.S.length:=by omega
    subst this
    rw [PrR_all] at f7
    have:=hK _ (x1.trans (hxp (.row (ints l) true)))
    rw [if_pos he,he] at this
    simp [f7]
    exact this
theorem surf_Handles (hc:CapV H ws c)(hb:c.S.length≤1000000)(hlim:lim≤H.length)(hK:∀H',HX H H'→K (.tup [.int .i64 (if capE c=0 then handP c else 0),.int .i64 (capE c)]) H'):VCall tbl lim 64 [.agg ws] H K:=by
  obtain ⟨pv,sv,ps,rfl,hp,hs,z1,z2,z3,z4⟩:=hc.form
  refine VCall_fn tbl_at64 rfl ?_
  simp [vf64,z1,z2,z3,z4,rdA3]
  refine surf_Parts hc hb hlim fun H1 x1 => ?_
  replace x1:HX H H1:=x1
  by_cases he:capE c=0
  case neg =>
    have:=hK H1 x1
    rw [if_neg he] at this
    simp [he]
    exact this
  have l1:=x1.len
  have hok:=capE_ok.1 he
  simp [he,rdA3,z1,z2,z3,z4]
  refine surf_Euler (hc.mono x1) hb (by omega) fun H2 x2 => ?_
  replace x2:HX H1 H2:=x2
  have l2:=x2.len
  simp [he,rdA3,z1,z2,z3,z4]
  refine surf_lay (hc.mono (x1.trans x2)) hok (by omega) fun H3 lv x3 ol => ?_
  replace x3:HX H2 H3:=x3
  have l3:=x3.len
  simp [ol.lst.stor]
  refine surf_loops hok (by omega) ol.lst fun H4 v x4 hv => ?_
  replace x4:HX H3 H4:=x4
  obtain ⟨us,o1,o2,o3⟩:=hv.ex
  have hvl:vlenS v=some (.int .i64 (loopP c).length):=by rw [o1.lst.len,o2,List.length_map]
  have b1:=pts_le (c:=c)
  have b2:=hok.ns
  have b3:=ls_bd hok
  have b4:=hok.np
  have b5:=part_le (c:=c)
  have b6:=loop_le (c:=c)
  have e1:eulP c=((ptsP c).length:Int)-((nsN c.P:Int)-(c.S.length:Int))+(c.P.length:Int):=rfl
  have e2:(2*(partP c:Int)-eulP c-((loopP c).length:Int)).tdiv 2=handP c:=rfl
  obtain ⟨g,g1,g2,_⟩:=handles_ex hok
  have hw:IntKind.wrap .i64 (handP c)=handP c:=wrap_i64 (by omega) (by omega)
  have:=hK H4 (((x1.trans x2).trans x3).trans x4)
  rw [if_pos he,he] at this
  simp (disch:=omega) [hvl,wrap_i64,e2,hw]
  exact this
end
end Go.Proofs.Ytclghkegfpcdpaa.Vm
namespace Go.Proofs.Ytclghkegfpcdpaa.Vm
open Go
set_option maxRecDepth 100000
set_option maxHeartbeats 1000000
set_option linter.unusedSimpArgs false
set_option linter.unusedVariables false
attribute [-simp] List.getD_eq_getElem?_getD
structure OPcsV (n:Nat)(H:Hp)(v:V)(ps:List (V×V))(pcs:List Pc):Prop where
  own:OwnT n pvC H v ps
  len:ps.length=pcs.length
  at':∀i,i<pcs.length→OwnV n H (ps.getD i default).1 (pcs.getD i default).s∧OwnV n H (ps.getD i default).2 (pcs.getD i default).a
  ap:∀i,i<pcs.length→∀b o z y o' z' y',v=.sl b o z y→((ps.getD i default).1=.sl b o' z' y'∨(ps.getD i default).2=.sl b o' z' y')→False
inductive OCapV (n:Nat)(H:Hp):List V→Cp→Prop
  | mk {pv sv:V} {ps:List (V×V)} {P:List Pc} {S:List Sm} {e:Int}:OPcsV n H pv ps P→OwnT n smC H sv S→(∀b o z y o' z' y',pv=.sl b o z y→sv=.sl b o' z' y'→False)→(∀i,i<P.length→∀b o z y o' z' y',sv=.sl b o z y→((ps.getD i default).1=.sl b o' z' y'∨(ps.getD i default).2=.sl b o' z' y')→False)→OCapV n H [pv,sv,.int .i64 e] ⟨P,S,e⟩
section
variable {n lim:Nat}{H H' H1:Hp}{K:V→Hp→Prop}{v pv sv a b:V}{ps:List (V×V)}{pcs P:List Pc}{S:List Sm}{e:Int}{ws:List V}{c d:Cp}
theorem OPcsV.pcsV (h:OPcsV n H v ps pcs):PcsV H v ps pcs:=⟨h.own.lst,h.len,fun i hi=>⟨(h.at' i hi).1.sl,(h.at' i hi).2.sl⟩⟩
theorem OCapV.cap (h:OCapV n H ws c):CapV H ws c:=by
  cases h with
  | mk h1 h2 _ _=>exact .mk h1.pcsV h2.lst
theorem OPcsV.mono (hx:HX H H')(h:OPcsV n H v ps pcs):OPcsV n H' v ps pcs:=⟨h.own.mono hx,h.len,fun i hi=>⟨(h.at' i hi).1.mono hx,(h.at' i hi).2.mono hx⟩,h.ap⟩
theorem OPcsV.le {m:Nat}(hnm:n≤m)(h:OPcsV m H v ps pcs):OPcsV n H v ps pcs:=⟨h.own.le hnm,h.len,fun i hi=>⟨(h.at' i hi).1.le hnm,(h.at' i hi).2.le hnm⟩,h.ap⟩
theorem OCapV.mono (hx:HX H H')(h:OCapV n H ws c):OCapV n H' ws c:=by
  cases h with
  | mk h1 h2 h3 h4=>exact .mk (h1.mono hx) (h2.mono hx) h3 h4
theorem OCapV.le {m:Nat}(hnm:n≤m)(h:OCapV m H ws c):OCapV n H ws c:=by
  cases h with
  | mk h1 h2 h3 h4=>exact .mk (h1.le hnm) (h2.le hnm) h3 h4
theorem OPcsV.nil:OPcsV n H .snil [] []:=⟨.nil,rfl,fun i hi=>by simp at hi,fun i hi=>by simp at hi⟩
theorem OPcsV.keepB (h:OPcsV n H v ps pcs)(h1:∀b o m z,v=.sl b o m z→H'[b]? = H[b]?)(h2:∀i,i<pcs.length→∀b o m z,((ps.getD i default).1=.sl b o m z∨(ps.getD i default).2=.sl b o m z)→H'[b]? = H[b]?):OPcsV n H' v ps pcs :=
  ⟨h.own.keepB h1,h.len,fun i hi=>⟨(h.at' i hi).1.keepB fun b o m z e=>h2 i hi b o m z (Or.inl e),(h.at' i hi).2.keepB fun b o m z e=>h2 i hi b o m z (Or.inr e)⟩,h.ap⟩
theorem OPcsV.append {p:Pc}(h:OPcsV n H v ps pcs)(hx:HX H H1)(ha:OwnV H.length H1 a p.s)(hb:OwnV H.length H1 b p.a)(hn:lim≤n∧n≤H.length)(hl:pcs.length<1000000) :
    ∃v' H2,vappend lim 2 48 (H1++[.row [a,b] true]) v (.sl H1.length 0 1 2)=some (v',H2)∧OPcsV n H2 v' (ps++[(a,b)]) (pcs++[p])∧(∀H0,HX H0 H1→H0.length≤n→HX H0 H2)∧H1.length≤H2.length∧(∀b',b'<H1.length→(∀o z y,v≠.sl b' o z y)→H2[b']? = H1[b']?)∧∀b o z y,v'=.sl b o z y→H1.length≤b:=by
  have h1:=h.mono hx
  have hlen:=hx.len
  obtain ⟨v',H2,a1,a2,a3,a4,a5,a6⟩:=h1.own.appendF2 (lim:=lim) (bytes:=48) (x:=(a,b)) (cs:=[a,b]) rfl ⟨hn.1,by omega⟩ (by omega) (by rw [h.len];exact hl)
  have old:∀b' o z y,v=.sl b' o z y→b'<H.length:=fun b' o z y e=>(h.own.belowB _ _ _ _ e).2
  refine ⟨v',H2,a1,⟨a2,by simp [h.len],fun i hi => ?_,fun i hi b' o z y o' z' y' e e' => ?_⟩,a3,a4,a5,a6⟩
  · rw [List.length_append,List.length_singleton] at hi
    by_cases hlt:i<pcs.length
    · rw [getD_lt (l:=ps) (by rw [h.len];exact hlt),getD_lt hlt]
      have:=h1.at' i hlt
      exact ⟨this.1.keepB fun b' o m z e=>a5 b' (this.1.belowB _ _ _ _ e).2 fun o' z' y' e'=>h1.ap i hlt _ _ _ _ _ _ _ e' (Or.inl e),this.2.keepB fun b' o m z e=>a5 b' (this.2.belowB _ _ _ _ e).2 fun o' z' y' e'=>h1.ap i hlt _ _ _ _ _ _ _ e' (Or.inr e)⟩
    · have:i=pcs.length:=by omega
      subst this
      rw [getD_last h.len.symm,getD_last rfl]
      exact ⟨(ha.keepB fun b' o m z e=>a5 b' (ha.belowB _ _ _ _ e).2 fun o' z' y' e'=>by have:=old _ _ _ _ e';have:=(ha.belowB _ _ _ _ e).1;omega).le (by omega),(hb.keepB fun b' o m z e=>a5 b' (hb.belowB _ _ _ _ e).2 fun o' z' y' e'=>by have:=old _ _ _ _ e';have:=(hb.belowB _ _ _ _ e).1;omega).le (by omega)⟩
  · rw [List.length_append,List.length_singleton] at hi
    have h6:=a6 _ _ _ _ e
    by_cases hlt:i<pcs.length
    · rw [getD_lt (l:=ps) (by rw [h.len];exact hlt)] at e'
      have:=h1.at' i hlt
      rcases e' with e' | e'
      · have:=(this.1.belowB _ _ _ _ e').2;omega
      · have:=(this.2.belowB _ _ _ _ e').2;omega
    · have:i=pcs.length:=by omega
      subst this
      rw [getD_last h.len.symm] at e'
      rcases e' with e' | e'
      · have:=(ha.belowB _ _ _ _ e').2;omega
      · have:=(hb.belowB _ _ _ _ e').2;omega
def longB (c:Cp):Bool:=decide (30<c.P.length∨60<c.S.length∨∃q,q<c.P.length∧(30<(c.P.getD q default).s.length∨30<(c.P.getD q default).a.length))
structure ShortC (c:Cp):Prop where
  np:c.P.length≤30
  ns:c.S.length≤60
  pc:∀q,q<c.P.length→(c.P.getD q default).s.length≤30∧(c.P.getD q default).a.length≤30
theorem short_of (h:longB c=false):ShortC c:=by
  simp only [longB,decide_eq_false_iff_not,not_or,Nat.not_lt] at h
  refine ⟨h.1,h.2.1,fun q hq => ?_⟩
  have h3:=h.2.2
  constructor
  · apply Nat.le_of_not_lt;intro g;exact h3 ⟨q,hq,Or.inl g⟩
  · apply Nat.le_of_not_lt;intro g;exact h3 ⟨q,hq,Or.inr g⟩
theorem l02_Long (hc:CapV H ws c)(hK:K (.bool (longB c)) H):VCall tbl lim 15 [.agg ws] H K:=by
  obtain ⟨pv,sv,ps,rfl,hp,hs,z1,z2,z3,z4⟩:=hc.form
  refine VCall_fn tbl_at15 rfl ?_
  by_cases h1:30<c.P.length
  · have e:longB c=true:=by simp only [longB,decide_eq_true_eq];exact Or.inl h1
    have e1:decide (30<(c.P.length:Int))=true:=by simp;omega
    rw [e] at hK
    simp [vf15,z1,z2,z3,z4,rd0,rd1',hp.vlen,hs.len,e1]
    exact hK
  have e1:decide (30<(c.P.length:Int))=false:=by simp;omega
  by_cases h2:60<c.S.length
  · have e:longB c=true:=by simp only [longB,decide_eq_true_eq];exact Or.inr (Or.inl h2)
    have e2:decide (60<(c.S.length:Int))=true:=by simp;omega
    rw [e] at hK
    simp [vf15,z1,z2,z3,z4,rd0,rd1',hp.vlen,hs.len,e1,e2]
    exact hK
  have e2:decide (60<(c.S.length:Int))=false:=by simp;omega
  simp [vf15,z1,z2,z3,z4,rd0,rd1',hp.vlen,hs.len,e1,e2]
  refine wLoop_up c.P.length (fun i fr L H'=>(fr 1=.lp 0 0∧fr 3=.int .i64 i)∧L=[[pv,sv,.int .i64 c.e]]∧H'=H∧∀q,q<i→(c.P.getD q default).s.length≤30∧(c.P.getD q default).a.length≤30) ⟨by simp,rfl,rfl,fun q hq=>by omega⟩ ?_
  rintro i hi fr L H1 ⟨⟨f1,f3⟩,rfl,rfl,hall⟩
  simp [f1,f3,rd0,hp.vlen]
  refine cond_dec (fun ht => ?_) fun hfl => ?_
  · have ht:i<c.P.length:=by omega
    obtain ⟨s1,s2⟩:=hp.at' i ht
    by_cases g1:30<(c.P.getD i default).s.length
    · have e:longB c=true:=by simp only [longB,decide_eq_true_eq];exact Or.inr (Or.inr ⟨i,ht,Or.inl g1⟩)
      have e3:decide (30<((c.P.getD i default).s.length:Int))=true:=by simp;omega
      rw [e] at hK
      simp [f1,f3,rd0,hp.at ht,hp.fa ht,hp.ld0 ht,hp.ld1 ht,s1.len,s2.len,e3]
      exact hK
    have e3:decide (30<((c.P.getD i default).s.length:Int))=false:=by simp;omega
    by_cases g2:30<(c.P.getD i default).a.length
    · have e:longB c=true:=by simp only [longB,decide_eq_true_eq];exact Or.inr (Or.inr ⟨i,ht,Or.inr g2⟩)
      have e4:decide (30<((c.P.getD i default).a.length:Int))=true:=by simp;omega
      rw [e] at hK
      simp [f1,f3,rd0,hp.at ht,hp.fa ht,hp.ld0 ht,hp.ld1 ht,s1.len,s2.len,e3,e4]
      exact hK
    have e4:decide (30<((c.P.getD i default).a.length:Int))=false:=by simp;omega
    simp (disch:=omega) [f1,f3,rd0,hp.at ht,hp.fa ht,hp.ld0 ht,hp.ld1 ht,s1.len,s2.len,e3,e4,wrap_i64]
    refine ⟨ht,fun q hq => ?_⟩
    by_cases eq:q=i
    · subst eq;omega
    · exact hall q (by omega)
  · have:i=c.P.length:=by omega
    subst this
    have e:longB c=false:=by
      simp only [longB,decide_eq_false_iff_not,not_or]
      refine ⟨h1,h2,?_⟩
      rintro ⟨q,hq,g | g⟩
      · have:=(hall q hq).1;omega
      · have:=(hall q hq).2;omega
    rw [e] at hK
    simp
    exact hK
def sameB (c d:Cp):Bool:=decide (c.e=d.e∧c.P.length=d.P.length∧c.S.length=d.S.length∧(∀q,q<c.P.length→(c.P.getD q default).s=(d.P.getD q default).s∧(c.P.getD q default).a=(d.P.getD q default).a)∧∀q,q<c.S.length→(c.S.getD q default).A=(d.S.getD q default).A∧(c.S.getD q default).I=(d.S.getD q default).I∧(c.S.getD q default).B=(d.S.getD q default).B∧(c.S.getD q default).J=(d.S.getD q default).J)
end
end Go.Proofs.Ytclghkegfpcdpaa.Vm
namespace Go.Proofs.Ytclghkegfpcdpaa.Vm
open Go
set_option maxRecDepth 100000
set_option maxHeartbeats 1000000
set_option linter.unusedSimpArgs false
set_option linter.unusedVariables false
attribute [-simp] List.getD_eq_getElem?_getD
structure CapA (H:Hp)(ws:List V)(c:Cp):Prop where
  cap:CapV H ws c
theorem pick_pcs {H:Hp}:∀{ps:List (V×V)},(∀p∈ps,∃c:Pc,SlV H p.1 c.s∧SlV H p.2 c.a)→∃pcs:List Pc,ps.length=pcs.length∧∀i,i<pcs.length→SlV H (ps.getD i default).1 (pcs.getD i default).s∧SlV H (ps.getD i default).2 (pcs.getD i default).a
  | [],_=>⟨[],rfl,fun i hi=>by simp at hi⟩
  | p :: ps,h=>by
    obtain ⟨c,h1,h2⟩:=h p (by simp)
    obtain ⟨pcs,h3,h4⟩:=pick_pcs (ps:=ps) fun q hq=>h q (List.mem_cons_of_mem _ hq)
    refine ⟨c :: pcs,by simp [h3],fun i hi => ?_⟩
    cases i with
    | zero=>exact ⟨h1,h2⟩
    | succ i=>exact h4 i (by simpa using hi)
theorem cap_of {H:Hp}{ws:List V}{ds:List CD}(h:RepTs H [.sl [cInts,cInts],.sl [cInt,cInt,cInt,cInt],cInt] ws ds):∃c,CapA H ws c:=by
  obtain ⟨v0,u0,_,_,rfl,_,p0,q0⟩:=reps_cons h
  obtain ⟨v1,u1,_,_,rfl,_,p1,q1⟩:=reps_cons q0
  obtain ⟨v2,u2,_,_,rfl,_,p2,q2⟩:=reps_cons q1
  have e:=reps_nil q2
  subst e
  obtain ⟨n,rfl,_⟩:=int_of p2
  obtain ⟨l1,h1,hl,hall⟩:=lst_of (c:=pvC) rfl (fun z=>∃c:Pc,SlV H z.1 c.s∧SlV H z.2 c.a) (fun vs ds h=>by
    obtain ⟨v0,u0,_,_,rfl,_,p0,q0⟩:=reps_cons h
    obtain ⟨v1,u1,_,_,rfl,_,p1,q1⟩:=reps_cons q0
    have e:=reps_nil q1
    subst e
    obtain ⟨l0,g0,_,_⟩:=ints_of p0
    obtain ⟨l1,g1,_,_⟩:=ints_of p1
    exact ⟨(v0,v1),rfl,⟨l0,l1⟩,g0,g1⟩) p0
  obtain ⟨l2,h2,_,_⟩:=lst_of (c:=smC) rfl (fun z=>True) (fun vs ds h=>by
    obtain ⟨v0,u0,_,_,rfl,_,p0,q0⟩:=reps_cons h
    obtain ⟨v1,u1,_,_,rfl,_,p1,q1⟩:=reps_cons q0
    obtain ⟨v2,u2,_,_,rfl,_,p2,q2⟩:=reps_cons q1
    obtain ⟨v3,u3,_,_,rfl,_,p3,q3⟩:=reps_cons q2
    have e:=reps_nil q3
    subst e
    obtain ⟨n0,rfl,c0⟩:=int_of p0
    obtain ⟨n1,rfl,c1⟩:=int_of p1
    obtain ⟨n2,rfl,c2⟩:=int_of p2
    obtain ⟨n3,rfl,c3⟩:=int_of p3
    exact ⟨⟨n0,n1,n2,n3⟩,rfl,trivial⟩) p1
  obtain ⟨pcs,g1,g2⟩:=pick_pcs hall
  exact ⟨⟨pcs,l2,n⟩,⟨.mk ⟨h1,g1,g2⟩ h2⟩⟩
def boolL (l:List Bool):List V:=l.map V.bool
section
variable {n lim:Nat}{H H' H1:Hp}{K:V→Hp→Prop}{ws:List V}{c:Cp}{b x:Nat}{el:List Bool}{il:List Int}{own:Bool}
theorem rw_addr (h:x<n):viaddrS 1 (.sl b 0 n 1) (.int .i64 (x:Int))=some (.ptr b x):=by
  rw [viaddrS_in (by omega)];simp
theorem bl_ld (h:H[b]? = some (.row (boolL el) own))(hx:x<el.length):∀L,vload none L H (.ptr b x)=some (.bool (el.getD x false)):=fun L=>by
  rw [vload_ptr h]
  simp [rd,boolL,hx,List.getD_eq_getElem?_getD]
theorem bl_st {y:Bool}(h:H[b]? = some (.row (boolL el) true))(hl:lim≤b)(hx:x<el.length):∀L,vstore lim L H (.ptr b x) (.bool y) 1=some (L,H.set b (.row (boolL (el.set x y)) true)):=fun L=>by
  have h1:x+1≤(boolL el).length:=by simp [boolL];omega
  have e:splice (boolL el) x [.bool y]=boolL (el.set x y):=by
    simp [splice,boolL,List.set_eq_take_append_cons_drop,hx,List.map_append,List.map_take,List.map_drop]
  simp [vstore,vstoreH,h,hl,h1,e]
theorem mk_bools {L:Lo}(h:n≤1000):vmks 1 1 [.bool false] L H (.int .i64 (n:Int)) (.int .i64 (n:Int))=some (.val (.sl H.length 0 n 1) L (H++[.row (boolL (List.replicate n false)) true])):=by
  have e:rowOf n [V.bool false]=boolL (List.replicate n false):=by
    simp only [rowOf,boolL,List.map_replicate]
    induction n with
    | zero=>rfl
    | succ n ih=>simp only [List.replicate_succ,List.flatten_cons,ih (by omega)];rfl
  simp only [vmks,Int.toNat_natCast,e]
  rw [if_pos ⟨trivial,by omega,by omega,by omega⟩]
def upTo (q:List (List Nat))(i k:Nat):List Nat:=(q.take i).flatten++(q.getD i []).take k
noncomputable def ptQ (c:Cp):List (List Nat):=(ptsP c).map (·.cs)
def outN (c:Cp)(l:List Nat)(k:Nat):Nat:=((l.take k).filter (freeN (lsN c))).length
end
end Go.Proofs.Ytclghkegfpcdpaa.Vm
namespace Go.Proofs.Ytclghkegfpcdpaa.Vm
open Go
set_option maxRecDepth 100000
set_option maxHeartbeats 1000000
set_option linter.unusedSimpArgs false
set_option linter.unusedVariables false
attribute [-simp] List.getD_eq_getElem?_getD
def zCap:Cp:=⟨[],[],0⟩
def sewC (c:Cp)(s:Sm):Cp:=⟨c.P,c.S++[s],c.e⟩
def unsC (c:Cp)(i:Nat):Cp:=⟨c.P,c.S.take i++c.S.drop (i+1),c.e⟩
def unsE (c:Cp)(i:Int):Int:=if capE c≠0 then capE c else if 0≤i∧i<c.S.length then 0 else 5
section
variable {n lim:Nat}{H H' H1:Hp}{K:V→Hp→Prop}{v pv sv a b:V}{ps:List (V×V)}{P:List Pc}{S:List Sm}{e:Int}{ws:List V}{c d:Cp}
end
end Go.Proofs.Ytclghkegfpcdpaa.Vm
namespace Go.Proofs.Ytclghkegfpcdpaa.Vm
open Go
set_option maxRecDepth 100000
set_option maxHeartbeats 1000000
set_option linter.unusedSimpArgs false
set_option linter.unusedVariables false
attribute [-simp] List.getD_eq_getElem?_getD
section
variable {n lim:Nat}{H H' H1:Hp}{K:V→Hp→Prop}{v pv sv a b u:V}{ps:List (V×V)}{P:List Pc}{S:List Sm}{e:Int}{ws:List V}{c d:Cp}
theorem OCapV.parts (h:OCapV n H ws c):∃pv sv ps,ws=[pv,sv,.int .i64 c.e]∧OPcsV n H pv ps c.P∧OwnT n smC H sv c.S∧(∀b o z y o' z' y',pv=.sl b o z y→sv=.sl b o' z' y'→False)∧∀i,i<c.P.length→∀b o z y o' z' y',sv=.sl b o z y→((ps.getD i default).1=.sl b o' z' y'∨(ps.getD i default).2=.sl b o' z' y')→False:=by
  cases h with
  | mk h1 h2 h3 h4=>exact ⟨_,_,_,rfl,h1,h2,h3,h4⟩
end
end Go.Proofs.Ytclghkegfpcdpaa.Vm
namespace Go.Proofs.Ytclghkegfpcdpaa.Vm
open Go
set_option maxRecDepth 100000
set_option maxHeartbeats 1000000
set_option linter.unusedSimpArgs false
set_option linter.unusedVariables false
attribute [-simp] List.getD_eq_getElem?_getD
section
variable {n lim:Nat}{H H' H1:Hp}{K:V→Hp→Prop}{v pv sv a b u:V}{ps:List (V×V)}{P:List Pc}{S:List Sm}{e:Int}{ws:List V}{c d:Cp}
noncomputable def measL (c:Cp):List V:=if capE c=0 then [.int .i64 (partP c),.int .i64 (eulP c),.int .i64 (missP c),.int .i64 (handP c),.int .i64 0] else [.int .i64 0,.int .i64 0,.int .i64 0,.int .i64 0,.int .i64 (capE c)]
structure WrS (m:Nat)(H0:Hp)(pv:V)(ps:List (V×V))(P:List Pc)(H:Hp):Prop where
  hx:HX H0 H
  hm:H0.length≤m
  own:OwnT m pvC H pv ps
  len:ps.length=P.length
  ol:∀i,i<P.length→OwnL m H (ps.getD i default).1 (P.getD i default).s.length
  ap:∀i,i<P.length→∀b o z y o' z' y',pv=.sl b o z y→(ps.getD i default).1=.sl b o' z' y'→False
theorem WrS.write {m:Nat}{H0:Hp}(h:WrS m H0 pv ps P H){i k:Nat}(hi:i<P.length)(hk:k<(P.getD i default).s.length)(hlim:lim≤m):∃H',(∀L,vstore lim L H (ept 1 (ps.getD i default).1 k) (.int .i64 (-1)) 1=some (L,H'))∧WrS m H0 pv ps P H':=by
  obtain ⟨l,hl,ho⟩:=h.ol i hi
  refine ⟨setH H (ps.getD i default).1 (ints (l.set k (-1))),fun L=>ho.store ⟨hlim,by omega⟩,setH_X h.hx ho h.hm,h.hm,h.own.keepB fun b o z y e => ?_,h.len,fun j hj=>(h.ol j hj).set ho (by simp),h.ap⟩
  cases hq:(ps.getD i default).1 with
  | sl b' o' z' y' =>
    simp only [setH]
    rw [List.getElem?_set_ne]
    rintro rfl
    exact h.ap i hi _ _ _ _ _ _ _ e hq
  | _=>rfl
theorem WrS.vlen {m:Nat}{H0:Hp}(h:WrS m H0 pv ps P H){i:Nat}(hi:i<P.length):vlenS (ps.getD i default).1=some (.int .i64 (P.getD i default).s.length):=by
  obtain ⟨l,hl,ho⟩:=h.ol i hi
  rw [←hl];exact ho.sl.len
theorem WrS.addr {m:Nat}{H0:Hp}(h:WrS m H0 pv ps P H){i k:Nat}(hi:i<P.length)(hk:k<(P.getD i default).s.length):viaddrS 1 (ps.getD i default).1 (.int .i64 (k:Int))=some (ept 1 (ps.getD i default).1 k):=by
  obtain ⟨l,hl,ho⟩:=h.ol i hi
  have:=ho.sl.addr (i:=(k:Int)) (by omega)
  simpa using this
end
end Go.Proofs.Ytclghkegfpcdpaa.Vm
namespace Go.Proofs.Ytclghkegfpcdpaa.Vm
set_option linter.unusedVariables false
set_option linter.unusedSimpArgs false
attribute [-simp] List.getD_eq_getElem?_getD
theorem sum_setN:∀{l:List Nat} {i x:Nat},i<l.length→(l.set i x).sum+l.getD i 0=l.sum+x
  | [],i,x,h=>absurd h (by simp)
  | y :: l,0,x,_=>by simp [List.set,List.getD_eq_getElem?_getD];omega
  | y :: l,i+1,x,h=>by
    have:=sum_setN (l:=l) (i:=i) (x:=x) (by simpa using h)
    simp only [List.set,List.sum_cons,List.getD_eq_getElem?_getD,List.getElem?_cons_succ] at this ⊢
    omega
theorem getD_setN {l:List Nat}{i t x:Nat}(h:i<l.length):(l.set i x).getD t 0=if t=i then x else l.getD t 0:=by
  simp only [List.getD_eq_getElem?_getD]
  by_cases e:t=i
  · subst e;simp [h]
  · rw [if_neg e,List.getElem?_set_ne (fun h=>e h.symm)]
def lowS (l:List Nat)(a b:Nat):List Nat:=(l.set a (min (l.getD a 0) (l.getD b 0))).set b (min (l.getD a 0) (l.getD b 0))
theorem lowS_len {l:List Nat}{a b:Nat}:(lowS l a b).length=l.length:=by simp [lowS]
theorem lowS_get {l:List Nat}{a b t:Nat}(ha:a<l.length)(hb:b<l.length):(lowS l a b).getD t 0=if t=b∨t=a then min (l.getD a 0) (l.getD b 0) else l.getD t 0:=by
  rw [lowS,getD_setN (by simpa using hb),getD_setN ha]
  by_cases e1:t=b<;>by_cases e2:t=a<;>simp [e1,e2]
theorem lowS_le {l:List Nat}{a b t:Nat}(ha:a<l.length)(hb:b<l.length):(lowS l a b).getD t 0≤l.getD t 0:=by
  rw [lowS_get ha hb]
  split
  · rename_i h
    rcases h with rfl | rfl
    · exact Nat.min_le_right _ _
    · exact Nat.min_le_left _ _
  · exact Nat.le_refl _
theorem lowS_sum {l:List Nat}{a b:Nat}(ha:a<l.length)(hb:b<l.length)(hne:l.getD a 0≠l.getD b 0):(lowS l a b).sum<l.sum:=by
  have hab:a≠b:=fun e=>hne (by rw [e])
  have h1:=sum_setN (l:=l) (i:=a) (x:=min (l.getD a 0) (l.getD b 0)) ha
  have h2:=sum_setN (l:=l.set a (min (l.getD a 0) (l.getD b 0))) (i:=b) (x:=min (l.getD a 0) (l.getD b 0)) (by simpa using hb)
  rw [getD_setN ha,if_neg (fun e=>hab e.symm)] at h2
  unfold lowS
  rcases Nat.lt_or_gt_of_ne hne with h | h
  · rw [Nat.min_eq_left (by omega)] at h1 h2 ⊢;omega
  · rw [Nat.min_eq_right (by omega)] at h1 h2 ⊢;omega
structure LowM (E:Nat→Nat→Prop)(N:Nat)(l:List Nat):Prop where
  len:l.length=N
  at':∀i,i<N→l.getD i 0≤i∧E i (l.getD i 0)
section
variable {E:Nat→Nat→Prop}{N:Nat}{l:List Nat}
theorem LowM.start (h:Eqv E):LowM E N (List.range N) where
  len:=by simp
  at':=fun i hi=>by
    have:(List.range N).getD i 0=i:=by simp [List.getD_eq_getElem?_getD,hi]
    rw [this];exact ⟨Nat.le_refl _,h.rf i⟩
theorem LowM.step (hE:Eqv E)(h:LowM E N l){a b:Nat}(ha:a<N)(hb:b<N)(he:E a b):LowM E N (lowS l a b) where
  len:=by rw [lowS_len,h.len]
  at' := fun i hi=>by
    have ha':=h.at' a ha
    have hb':=h.at' b hb
    refine ⟨Nat.le_trans (lowS_le (by rw [h.len];exact ha) (by rw [h.len];exact hb)) (h.at' i hi).1,?_⟩
    rw [lowS_get (by rw [h.len];exact ha) (by rw [h.len];exact hb)]
    have hm:E a (min (l.getD a 0) (l.getD b 0)):=by
      rcases Nat.le_total (l.getD a 0) (l.getD b 0) with g | g
      · rw [Nat.min_eq_left g];exact ha'.2
      · rw [Nat.min_eq_right g];exact hE.tr he hb'.2
    split
    · rename_i g
      rcases g with rfl | rfl
      · exact hE.tr (hE.sy he) hm
      · exact hm
    · exact (h.at' i hi).2
theorem LowM.lt (h:LowM E N l){i:Nat}(hi:i<N):l.getD i 0<N:=Nat.lt_of_le_of_lt (h.at' i hi).1 hi
theorem LowM.least (hE:Eqv E)(h:LowM E N l){i:Nat}(hi:i<N)(hl:LeE E i):l.getD i 0=i:=by
  obtain ⟨h1,h2⟩:=h.at' i hi
  rcases Nat.lt_or_ge (l.getD i 0) i with g | g
  · exact absurd h2 (hl _ g)
  · omega
theorem LowM.done (hE:Eqv E)(h:LowM E N l)(hfix:∀i j,i<N→j<N→E i j→l.getD i 0=l.getD j 0){i:Nat}(hi:i<N):l.getD i 0=lowE E i:=by
  obtain ⟨h1,h2,h3⟩:=lowE_spec hE i
  rw [hfix i (lowE E i) hi (by omega) h2,h.least hE (by omega) h3]
end
section
variable {c:Cp}{l:List Nat}
theorem low_points (hok:CapOk c)(h:LowM (PtR c) (nsN c.P) l)(hfix:∀a,a<nsN c.P→alf (lsN c) a≠a→l.getD a 0=l.getD (nuP c a) 0){i:Nat}(hi:i<nsN c.P):l.getD i 0=lowE (PtR c) i:=by
  have wk:∀{k x y:Nat},x<nsN c.P→WkN (nxN c.P) (lsN c) x k y→l.getD x 0=l.getD y 0:=by
    intro k
    induction k with
    | zero=>intro x y _ hw;rw [←hw.1];rfl
    | succ k ih =>
      intro x y hx hw
      have h1:l.getD x 0=l.getD (itN (nuP c) k x) 0:=ih hx ⟨rfl,fun i hi=>hw.2 i (by omega)⟩
      have hq:=hok.nu.it hx k
      have h2:=hfix _ hq (hw.2 k (by omega))
      rw [h1,h2]
      have:=hw.1
      rw [←this];rfl
  refine h.done hok.ptE (fun i j hi hj he => ?_) hi
  rcases he with e | ⟨_,_,k,hw | hw⟩
  · rw [e]
  · exact wk hi hw
  · exact (wk hj hw).symm
theorem prt_least {pc:Nat→Nat}{F:Nat→Nat→Prop}(hF:Eqv F):∀{L:List (Nat×Nat)},(∀s,s∈L→F (pc s.1) (pc s.2))→∀{x y:Nat},prtE pc L x y→F x y
  | [],_,x,y,h=>by rw [show x=y from h];exact hF.rf _
  | s :: L,hs,x,y,h=>by
    have ih:∀{x y:Nat},prtE pc L x y→F x y:=fun g=>prt_least hF (fun s hm=>hs s (List.mem_cons_of_mem _ hm)) g
    have h0:=hs s List.mem_cons_self
    rcases h with g | ⟨g1,g2⟩ | ⟨g1,g2⟩
    · exact ih g
    · exact hF.tr (ih g1) (hF.tr h0 (ih g2))
    · exact hF.tr (ih g1) (hF.tr (hF.sy h0) (ih g2))
theorem SmOk.alf_mem {N:Nat}{L:List (Nat×Nat)}(h:SmOk N L):∀s,s∈L→s.1<N∧s.2<N∧alf L s.1=s.2∧s.1≠s.2:=by
  induction h with
  | nil=>intro s hs;cases hs
  | cons hh h1 h2 h3 h4 ih =>
    intro s hs
    rename_i t L0
    have hco:=fun c=>alf_cons (s:=t) (L:=L0) (c:=c) (SmOk.cons hh h1 h2 h3 h4)
    rcases List.mem_cons.1 hs with e | hs
    · subst e
      refine ⟨h1,h2,?_,h3⟩
      rw [hco,if_pos rfl]
    · obtain ⟨a1,a2,a3,a4⟩:=ih s hs
      refine ⟨a1,a2,?_,a4⟩
      obtain ⟨b1,b2,_⟩:=h4 s hs
      rw [hco,if_neg b1,if_neg b2,a3]
def PrtR (c:Cp):Nat→Nat→Prop:=prtE (pcN c.P) (lsN c)
open Classical in
noncomputable def cntL (c:Cp)(l:List Nat)(v:Nat):List Nat:=(List.range c.P.length).filter fun x=>decide (l.getD x 0=v)
def RndP (c:Cp)(r:Nat)(l:List Nat):Prop:=∀v,v<c.P.length→LeE (PrtR c) v→(∀x,x<c.P.length→PrtR c x v→l.getD x 0=v)∨r+1≤(cntL c l v).length
theorem cnt_more {p q:Nat→Bool} {n y:Nat} (h:∀x,x<n→p x=true→q x=true) (hy:y<n) (h1:p y=false) (h2:q y=true):((List.range n).filter p).length+1≤((List.range n).filter q).length:=by
  induction n with
  | zero=>omega
  | succ n ih =>
    rw [List.range_succ,List.filter_append,List.filter_append,List.length_append,List.length_append]
    by_cases e:y=n
    · subst e
      have le : ((List.range y).filter p).length≤((List.range y).filter q).length:=by
        have:∀m,m≤y→((List.range m).filter p).length≤((List.range m).filter q).length:=by
          intro m
          induction m with
          | zero=>intro _;simp
          | succ m ihm =>
            intro hm
            rw [List.range_succ,List.filter_append,List.filter_append,List.length_append,List.length_append]
            have:=ihm (by omega)
            have:([m].filter p).length≤([m].filter q).length:=by
              cases hp:p m with
              | false=>simp [List.filter,hp]
              | true=>simp [List.filter,hp,h m (by omega) hp]
            omega
        exact this y (Nat.le_refl _)
      simp [List.filter,h1,h2];exact le
    · have:=ih (fun x hx=>h x (by omega)) (by omega)
      have:([n].filter p).length≤([n].filter q).length:=by
        cases hp:p n with
        | false=>simp [List.filter,hp]
        | true=>simp [List.filter,hp,h n (by omega) hp]
      omega
theorem RndP.start:RndP c 0 (List.range c.P.length):=by
  intro v hv hl
  right
  have:v∈cntL c (List.range c.P.length) v:=by
    simp [cntL,hv,List.getD_eq_getElem?_getD]
  have:=List.length_pos_of_mem this
  omega
theorem RndP.next (hok:CapOk c) {r:Nat} {l0 l1:List Nat} (h0:LowM (PrtR c) c.P.length l0) (h1:LowM (PrtR c) c.P.length l1) (hle:∀x,l1.getD x 0≤l0.getD x 0)
    (hs:∀a,a<nsN c.P→alf (lsN c) a≠a→l1.getD (pcN c.P a) 0≤l0.getD (pcN c.P (alf (lsN c) a)) 0) (h:RndP c r l0):RndP c (r+1) l1:=by
  have hE:Eqv (PrtR c):=prtE_eqv
  have hsm:=hok.sm_ok
  intro v hv hl
  have keep:∀x,x<c.P.length→l0.getD x 0=v→l1.getD x 0=v:=by
    intro x hx e
    have g1:=hle x
    have g2:=(h1.at' x hx).2
    have g3:=(h0.at' x hx).2
    rw [e] at g3 g1
    rcases Nat.lt_or_ge (l1.getD x 0) v with g | g
    · exact absurd (hE.tr (hE.sy g3) g2) (hl _ g)
    · omega
  rcases h v hv hl with g | g
  · exact Or.inl fun x hx he=>keep x hx (g x hx he)
  · by_cases hall:∀x,x<c.P.length→PrtR c x v→l0.getD x 0=v
    · exact Or.inl fun x hx he=>keep x hx (hall x hx he)
    · right
      have hex:∃a,a<nsN c.P∧alf (lsN c) a≠a∧l0.getD (pcN c.P a) 0≠v∧l0.getD (pcN c.P (alf (lsN c) a)) 0=v:=by
        apply Classical.byContradiction
        intro hno
        apply hall
        intro x hx he
        have hF:Eqv fun x y=>(l0.getD x 0=v↔l0.getD y 0=v):=⟨fun _=>Iff.rfl,fun h=>h.symm,fun h g=>h.trans g⟩
        have:=prt_least (pc:=pcN c.P) hF (L:=lsN c) (fun s hm=>by
          obtain ⟨a1,a2,a3,a4⟩:=hsm.alf_mem s hm
          have b3:alf (lsN c) s.2=s.1:=by rw [←a3,hsm.inv a1]
          constructor
          · intro e
            apply Classical.byContradiction
            intro hn
            exact hno ⟨s.2,a2,by rw [b3];exact a4,hn,by rw [b3];exact e⟩
          · intro e
            apply Classical.byContradiction
            intro hn
            exact hno ⟨s.1,a1,by rw [a3];exact fun e=>a4 e.symm,hn,by rw [a3];exact e⟩) he
        exact this.2 (h0.least hE hv hl)
      obtain ⟨a,a1,a2,a3,a4⟩:=hex
      have hpa:pcN c.P a<c.P.length:=pc_lt a1
      have hpb:pcN c.P (alf (lsN c) a)<c.P.length:=pc_lt (hsm.pr.lt a a1)
      have hnew:l1.getD (pcN c.P a) 0=v:=by
        have g1:=hs a a1 a2
        rw [a4] at g1
        have g2:=(h1.at' _ hpa).2
        have g3:=(h0.at' _ hpb).2
        rw [a4] at g3
        have g4:PrtR c (pcN c.P a) (pcN c.P (alf (lsN c) a)):=prtE_sewn
        rcases Nat.lt_or_ge (l1.getD (pcN c.P a) 0) v with q | q
        · exact absurd (hE.tr (hE.sy (hE.tr g4 g3)) g2) (hl _ q)
        · omega
      have:=cnt_more (p:=fun x=>decide (l0.getD x 0=v)) (q:=fun x=>decide (l1.getD x 0=v)) (n:=c.P.length) (y:=pcN c.P a) (fun x hx he=>by simpa using keep x hx (by simpa using he)) hpa (by simpa using a3) (by simpa using hnew)
      unfold cntL at g ⊢
      omega
theorem RndP.end (h0:LowM (PrtR c) c.P.length l)(h:RndP c c.P.length l){x:Nat}(hx:x<c.P.length):l.getD x 0=lowE (PrtR c) x:=by
  have hE:Eqv (PrtR c):=prtE_eqv
  obtain ⟨h1,h2,h3⟩:=lowE_spec hE x
  rcases h (lowE (PrtR c) x) (by omega) h3 with g | g
  · exact g x hx h2
  · have:(cntL c l (lowE (PrtR c) x)).length≤c.P.length:=by
      unfold cntL
      exact Nat.le_trans (List.length_filter_le _ _) (by simp)
    omega
def ownL (l:List Nat)(n:Nat):Nat:=((List.range n).filter fun i=>decide (l.getD i 0=i)).length
theorem ownL_next {n:Nat}:ownL l (n+1)=ownL l n+if l.getD n 0=n then 1 else 0:=by
  unfold ownL
  rw [List.range_succ,List.filter_append,List.length_append]
  by_cases e:l.getD n 0=n<;>simp [List.filter,e]
theorem own_parts (h:∀x,x<c.P.length→l.getD x 0=lowE (PrtR c) x):ownL l c.P.length=partP c:=by
  have hE:Eqv (PrtR c):=prtE_eqv
  unfold ownL partP nCls minsE
  congr 1
  refine List.filter_congr fun x hx => ?_
  have hx':=List.mem_range.1 hx
  rw [h x hx',decide_eq_decide]
  obtain ⟨h1,h2,h3⟩:=lowE_spec hE x
  constructor
  · intro e;rw [←e];exact h3
  · intro e;exact lowE_min hE e
end
end Go.Proofs.Ytclghkegfpcdpaa.Vm
namespace Go.Proofs.Ytclghkegfpcdpaa.Vm
open Go
set_option maxRecDepth 100000
set_option maxHeartbeats 1000000
set_option linter.unusedSimpArgs false
set_option linter.unusedVariables false
attribute [-simp] List.getD_eq_getElem?_getD
structure Owns (n:Nat)(H0 H:Hp)(vs:List V)(ls:List (List Int)):Prop where
  hx:HX H0 H
  len:vs.length=ls.length
  at':∀i,i<ls.length→OwnV n H (vs.getD i dv) (ls.getD i [])
  ap:∀i j,i<ls.length→j<ls.length→i≠j→∀b o z y o' z' y',vs.getD i dv=.sl b o z y→vs.getD j dv=.sl b o' z' y'→False
theorem getD_setX {α:Type}{l:List α}{i t:Nat}{x d:α}(h:i<l.length):(l.set i x).getD t d=if t=i then x else l.getD t d:=by
  simp only [List.getD_eq_getElem?_getD]
  by_cases e:t=i
  · subst e;simp [h]
  · rw [if_neg e,List.getElem?_set_ne (fun h=>e h.symm)]
section
variable {n lim:Nat}{H H0 H':Hp}{vs:List V}{ls:List (List Int)}
theorem isLp_ept {sz i:Nat}{v:V}:isLp (ept sz v i)=false:=by cases v<;>rfl
theorem OwnV.isP {v:V}{l:List Int}(h:OwnV n H v l){i:Nat}(hi:i<l.length):isPtr (ept 1 v i)=true∧isLp (ept 1 v i)=false:=by
  cases h with
  | nil=>simp at hi
  | row h1 h3=>exact ⟨rfl,rfl⟩
theorem Owns.push (h:Owns n H0 H vs ls) {i:Nat} (hi:i<ls.length) {x:Int} (hn:lim≤n∧H0.length≤n∧n≤H.length) (hl:(ls.getD i []).length<1000000) :
    ∃v' H',vappend lim 1 8 (H++[.row [.int .i64 x] true]) (vs.getD i dv) (.sl H.length 0 1 1)=some (v',H')∧Owns n H0 H' (vs.set i v') (ls.set i (ls.getD i []++[x]))∧H.length≤H'.length:=by
  obtain ⟨v',H',a1,a2,a3,a4,a5,a6⟩:=(h.at' i hi).appendF (lim:=lim) (x:=x) ⟨hn.1,hn.2.2⟩ hl
  have hlen:=h.len
  have other:∀j,j<ls.length→j≠i→∀b o m z,vs.getD j dv=.sl b o m z→b<H.length∧∀o z y,vs.getD i dv≠.sl b o z y:=fun j hj hne b o m z e =>
    ⟨((h.at' j hj).belowB _ _ _ _ e).2,fun o' z' y' e'=>h.ap i j hi hj (fun q=>hne q.symm) _ _ _ _ _ _ _ e' e⟩
  refine ⟨v',H',a1,⟨a3 _ h.hx hn.2.1,by simp [hlen],fun j hj => ?_,fun j k hj hk hjk b o z y o' z' y' e e' => ?_⟩,a4⟩
  · rw [List.length_set] at hj
    rw [getD_setX (by omega),getD_setX (by omega)]
    by_cases e:j=i
    · rw [if_pos e,if_pos e];exact a2
    · rw [if_neg e,if_neg e]
      exact (h.at' j hj).keepB fun b o m z q=>a5 b (other j hj e b o m z q).1 (other j hj e b o m z q).2
  · rw [List.length_set] at hj hk
    rw [getD_setX (by omega)] at e e'
    by_cases ej:j=i
    · rw [if_pos ej] at e
      rw [if_neg (by omega)] at e'
      have:=a6 _ _ _ _ e
      have:=((h.at' k hk).belowB _ _ _ _ e').2
      omega
    · rw [if_neg ej] at e
      by_cases ek:k=i
      · rw [if_pos ek] at e'
        have:=a6 _ _ _ _ e'
        have:=((h.at' j hj).belowB _ _ _ _ e).2
        omega
      · rw [if_neg ek] at e'
        exact h.ap j k hj hk hjk _ _ _ _ _ _ _ e e'
theorem Owns.put (h:Owns n H0 H vs ls) {i:Nat} (hi:i<ls.length) {l':List Int} (hl:l'.length=(ls.getD i []).length) (hn:H0.length≤n):Owns n H0 (setH H (vs.getD i dv) (ints l')) vs (ls.set i l') where
  hx:=setH_X h.hx (h.at' i hi) hn
  len:=by simp [h.len]
  at' := fun j hj=>by
    rw [List.length_set] at hj
    rw [getD_setX hi]
    by_cases e:j=i
    · subst e;rw [if_pos rfl];exact (h.at' j hi).put hl
    · rw [if_neg e]
      refine (h.at' j hj).keepB fun b o m z q => ?_
      have hap:=h.ap i j hi hj (fun q=>e q.symm)
      cases hv:vs.getD i dv with
      | sl b' o' m' z' =>
        simp only [setH]
        rw [List.getElem?_set_ne]
        rintro rfl
        exact hap _ _ _ _ _ _ _ hv q
      | _=>rfl
  ap:=fun j k hj hk=>by
    rw [List.length_set] at hj hk
    exact h.ap j k hj hk
theorem Owns.grow (h:Owns n H0 H vs ls)(hx:HX H H'):Owns n H0 H' vs ls:=⟨h.hx.trans hx,h.len,fun i hi=>(h.at' i hi).mono hx,h.ap⟩
end
theorem rd5_0 {x y z u w:V}:rd none [x,y,z,u,w] 0=some x:=Eq.trans rfl rfl
theorem rd5_1 {x y z u w:V}:rd none [x,y,z,u,w] 1=some y:=Eq.trans rfl rfl
theorem rd5_2 {x y z u w:V}:rd none [x,y,z,u,w] 2=some z:=Eq.trans rfl rfl
theorem rd5_3 {x y z u w:V}:rd none [x,y,z,u,w] 3=some u:=Eq.trans rfl rfl
theorem rd5_4 {x y z u w:V}:rd none [x,y,z,u,w] 4=some w:=Eq.trans rfl rfl
theorem rdA5 {x y z u w:V}:rd (some 5) [x,y,z,u,w] 0=some (.agg [x,y,z,u,w]):=Eq.trans rfl rfl
def upM (g:Nat→Int)(m:Nat):List Int:=(List.range m).map g
theorem upM_snoc {g:Nat→Int}{m:Nat}:upM g (m+1)=upM g m++[g m]:=by simp [upM,List.range_succ]
theorem upM_len {g:Nat→Int}{m:Nat}:(upM g m).length=m:=by simp [upM]
theorem upM_get {g:Nat→Int}{m i:Nat}(h:i<m):(upM g m).getD i 0=g i:=getD_map_range h
def ptL (L:List (Nat×Nat))(i:Nat):Int:=if alf L i=i then -1 else (alf L i:Nat)
theorem ptL_nil {i:Nat}:ptL [] i = -1:=by simp [ptL,alf]
theorem pt_seam {P:List Pc}{L:List (Nat×Nat)}{a b:Nat}(h:SmOk (nsN P) ((a,b) :: L)):((upM (ptL L) (nsN P)).set a (b:Nat)).set b (a:Nat)=upM (ptL ((a,b) :: L)) (nsN P):=by
  have hab:a≠b:=by cases h with | cons _ _ _ h3 _=>exact h3
  have ha:a<nsN P:=by cases h with | cons _ h1 _ _ _=>exact h1
  have hb:b<nsN P:=by cases h with | cons _ _ h2 _ _=>exact h2
  refine ext_getDA (by simp [upM_len]) fun k hk => ?_
  have hk':k<nsN P:=by simpa [upM_len] using hk
  have hco:=alf_cons (c:=k) h
  simp only at hco
  rw [getD_setX (by simp [upM_len];exact hb),getD_setX (by simp [upM_len];exact ha)]
  show _=(upM (ptL ((a,b) :: L)) (nsN P)).getD k 0
  rw [upM_get hk',ptL,hco]
  by_cases e1:k=a
  · subst e1
    rw [if_neg hab,if_pos rfl,if_pos rfl,if_neg (fun e=>hab e.symm)]
  · by_cases e2:k=b
    · subst e2
      rw [if_pos rfl,if_neg e1,if_pos rfl,if_neg (fun e=>e1 e.symm)]
    · rw [if_neg e2,if_neg e1,if_neg e1,if_neg e2]
      show (upM (ptL L) (nsN P)).getD k 0=_
      rw [upM_get hk'];rfl
structure NetV (H:Hp)(vs:List V)(c:Cp):Prop where
  ex:∃a b p x q,vs=[a,b,p,x,q]∧SlV H a (upM (lnN c.P) (nsN c.P))∧SlV H b (upM (anN c.P) (nsN c.P))∧SlV H p (upM (fun i=>(pcN c.P i:Nat)) (nsN c.P))∧SlV H x (upM (fun i=>(nxN c.P i:Nat)) (nsN c.P))∧SlV H q (upM (ptL (lsN c)) (nsN c.P))
section
variable {n lim:Nat}{H H0 H':Hp}{K:V→Hp→Prop}{v:V}{ws vs:List V}{c:Cp}
theorem NetV.mono (hx:HX H H')(h:NetV H vs c):NetV H' vs c:=by
  obtain ⟨a,b,p,x,q,e,h1,h2,h3,h4,h5⟩:=h.ex
  exact ⟨a,b,p,x,q,e,h1.mono hx,h2.mono hx,h3.mono hx,h4.mono hx,h5.mono hx⟩
def netL (P:List Pc)(L:List (Nat×Nat))(m:Nat)(f:List Int):List (List Int):=[upM (lnN P) m,upM (anN P) m,upM (fun i=>(pcN P i:Nat)) m,upM (fun i=>(nxN P i:Nat)) m,upM (ptL L) m,f]
theorem r02_open (hc:CapV H ws c) (hok:CapOk c) (hlim:lim≤H.length) (hK:∀H' vs,HX H H'→NetV H' vs c→K (.agg vs) H'):VCall tbl lim 60 [.agg ws] H K:=by
  cases hc with
  | mk hp hsv =>
  rename_i pv sv ps P S e
  refine VCall_fn tbl_at60 rfl ?_
  have hnp:=hok.np
  have hns:=hok.ns
  simp only at hnp hns
  have hsl:=ls_bd hok
  simp only at hsl
  have hks:∀q,q<P.length→3≤ksN P q∧ksN P q≤6:=fun q hq=>hok.ks hq
  have hof:∀q,q≤P.length→offN P q≤48:=fun q hq=>by have:=off_mono (pcs:=P) hq;unfold nsN at hns;omega
  simp [vf60,rd0,rd1',rd2',hp.lst.stor,hp.lst.one,hsv.stor,hsv.one,hp.vlen]
  refine wLoop_up P.length (fun i fr L H'=>∃va vb vp vx vq fv X,(fr 1=.lp 0 0∧fr 2=.lp 1 0∧fr 3=.lp 2 0∧fr 4=fv∧fr 5=.int .i64 i)∧L=[pv,sv,.int .i64 e] :: [.snil,.snil,.snil,.snil,.snil] :: [va,vb,vp,vx,vq] :: X∧Owns H.length H H' [va,vb,vp,vx,vq,fv] (netL P [] (offN P i) (offL P i))) ⟨.snil,.snil,.snil,.snil,.snil,.snil,[],by simp,by simp,⟨.refl,rfl,fun i hi => ?_,fun i j hi hj _ b o z y o' z' y' e _ => ?_⟩⟩ ?_
  · have:i=0∨i=1∨i=2∨i=3∨i=4∨i=5:=by simp [netL] at hi;omega
    rcases this with h | h | h | h | h | h<;>subst h<;>exact .nil
  · have:i=0∨i=1∨i=2∨i=3∨i=4∨i=5:=by simp [netL] at hi;omega
    rcases this with h | h | h | h | h | h<;>subst h<;>cases e
  rintro i hi fr L H1 ⟨va,vb,vp,vx,vq,fv,X,⟨f1,f2,f3,f4,f5⟩,rfl,hS⟩
  simp [f1,f2,f3,f4,f5,rd0,hp.vlen]
  have x1:HX H H1:=hS.hx
  have l1:=x1.len
  refine cond_dec (fun ht => ?_) fun hfl => ?_
  · have ht:i<P.length:=by omega
    have hp1:=hp.mono x1
    obtain ⟨s1,s2⟩:=hp1.at' i ht
    have hpo:=hok.pc i ht
    obtain ⟨g1,g2,g3,g4⟩:=piece_ok hpo
    simp only at g1 g2 g3 g4
    have hki:=hks i ht
    have hoi:=hof i (by omega)
    have ksd:ksN P i=(P.getD i default).s.length:=rfl
    have hl0:vlenS va=some (.int .i64 (offN P i)):=by
      have:vlenS va=some (.int .i64 ((upM (lnN P) (offN P i)).length:Nat)):=(hS.at' 0 (by simp [netL])).sl.len
      rw [upM_len] at this;exact this
    obtain ⟨fv2,H2,b1,hS2,l2⟩:=hS.push (lim:=lim) (i:=5) (by simp [netL]) (x:=(offN P i:Int)) ⟨hlim,Nat.le_refl _,by omega⟩ (by
      simp only [netL,List.getD_cons_succ,List.getD_cons_zero,offL_len];omega)
    simp only [List.getD_cons_succ,List.getD_cons_zero] at b1
    have x2:HX H H2:=hS2.hx
    simp [f1,f2,f3,f4,f5,hp1.at ht,hp1.ld2 ht,rd0,rd1',rd2',rdA2,splice,lastO,lastS,s1.stor,s1.one,s2.stor,s2.one,s1.len,hl0,b1]
    refine wLoop_up (ksN P i) (fun j fr L' H'=>∃va vb vp vx vq,(fr 1=.lp 0 0∧fr 2=.lp 1 0∧fr 3=.lp 2 0∧fr 4=fv2∧fr 5=.int .i64 i∧fr 6=.lp (X.length+3) 0∧fr 7=.int .i64 (offN P i)∧fr 8=.int .i64 j)∧L'=[pv,sv,.int .i64 e] :: [.snil,.snil,.snil,.snil,.snil] :: [va,vb,vp,vx,vq] :: (X++[[(ps.getD i default).1,(ps.getD i default).2]])∧Owns H.length H H' [va,vb,vp,vx,vq,fv2] (netL P [] (offN P i+j) (offL P i++[(offN P i:Int)]))) ⟨va,vb,vp,vx,vq,by simp [f1,f2,f3,f4,f5],rfl,hS2⟩ ?_
    clear f1 f2 f3 f4 f5 hl0 hS hS2 b1 hi x2 l2 fr
    rintro j hj fr L' H3 ⟨va,vb,vp,vx,vq,⟨f1,f2,f3,f4,f5,f6,f7,f8⟩,rfl,hS3⟩
    have x3:HX H H3:=hS3.hx
    have l3:=x3.len
    have hp3:=hp.mono x3
    obtain ⟨t1,t2⟩:=hp3.at' i ht
    simp [f1,f2,f3,f4,f5,f6,f7,f8,lastO,rd0,rd1',t1.len,←ksd]
    refine cond_dec (fun hjt => ?_) fun hjf => ?_
    · have hjt:j<ksN P i:=by omega
      have n0:∀k,k<5→((netL P [] (offN P i+j) (offL P i++[(offN P i:Int)])).getD k []).length<1000000:=by
        intro k hk
        have:k=0∨k=1∨k=2∨k=3∨k=4:=by omega
        rcases this with h | h | h | h | h<;>subst h<;>simp only [netL,List.getD_cons_succ,List.getD_cons_zero,upM_len]<;>omega
      have aa:=t1.addr (i:=(j:Int)) (by rw [←ksd];omega)
      simp only [Int.toNat_natCast] at aa
      have la:=fun L=>t1.load (i:=j) (by rw [←ksd];omega) (L:=L)
      obtain ⟨v0,H4,c0,hS4,l4⟩:=hS3.push (lim:=lim) (i:=0) (by simp [netL]) (x:=lnN P (offN P i+j)) ⟨hlim,Nat.le_refl _,by omega⟩ (n0 0 (by omega))
      have x4:HX H H4:=hS4.hx
      obtain ⟨_,u2⟩:=(hp.mono x4).at' i ht
      have ab:=u2.addr (i:=(j:Int)) (by rw [g2,←ksd];omega)
      simp only [Int.toNat_natCast] at ab
      have lb:=fun L=>u2.load (i:=j) (by rw [g2,←ksd];omega) (L:=L)
      rw [←ln_at ht hjt] at la
      rw [←an_at ht hjt] at lb
      obtain ⟨v1,H5,c1,hS5,l5⟩:=hS4.push (lim:=lim) (i:=1) (by simp [netL]) (x:=anN P (offN P i+j)) ⟨hlim,Nat.le_refl _,by omega⟩ (n0 1 (by omega))
      obtain ⟨v2,H6,c2,hS6,l6⟩:=hS5.push (lim:=lim) (i:=2) (by simp [netL]) (x:=(i:Int)) ⟨hlim,Nat.le_refl _,by omega⟩ (n0 2 (by omega))
      obtain ⟨v4,H7,c4,hS7,l7⟩:=hS6.push (lim:=lim) (i:=4) (by simp [netL]) (x:=(-1:Int)) ⟨hlim,Nat.le_refl _,by omega⟩ (n0 4 (by omega))
      have x7:HX H H7:=hS7.hx
      have hl7:=((hp.mono x7).at' i ht).1.len
      have e1:((j:Int)+1).tmod (ksN P i:Int)=(((j+1) % ksN P i:Nat):Int):=tmod_nat (j+1) (ksN P i)
      have m1:(j+1) % ksN P i<ksN P i:=Nat.mod_lt _ (by omega)
      have hnx:((offN P i:Int)+((j+1) % ksN P i:Nat))=(nxN P (offN P i+j):Nat):=by rw [nx_at ht hjt];omega
      obtain ⟨v3,H8,c3,hS8,l8⟩:=hS7.push (lim:=lim) (i:=3) (by simp [netL]) (x:=(nxN P (offN P i+j):Nat)) ⟨hlim,Nat.le_refl _,by omega⟩ (n0 3 (by omega))
      have hnl:nxN P (offN P i+j)<1000:=by
        have:=nx_pr.lt (offN P i+j) (off_lt (p:=P.length) ht hjt)
        omega
      simp only [List.getD_cons_succ,List.getD_cons_zero,List.set] at c0 c1 c2 c3 c4
      have z0:stor v0=true∧cellsV v0=[v0]:=⟨(hS8.at' 0 (by simp [netL])).sl.stor,(hS8.at' 0 (by simp [netL])).sl.one⟩
      have z1:stor v1=true∧cellsV v1=[v1]:=⟨(hS8.at' 1 (by simp [netL])).sl.stor,(hS8.at' 1 (by simp [netL])).sl.one⟩
      have z2:stor v2=true∧cellsV v2=[v2]:=⟨(hS8.at' 2 (by simp [netL])).sl.stor,(hS8.at' 2 (by simp [netL])).sl.one⟩
      have z3:stor v3=true∧cellsV v3=[v3]:=⟨(hS8.at' 3 (by simp [netL])).sl.stor,(hS8.at' 3 (by simp [netL])).sl.one⟩
      have z4:stor v4=true∧cellsV v4=[v4]:=⟨(hS8.at' 4 (by simp [netL])).sl.stor,(hS8.at' 4 (by simp [netL])).sl.one⟩
      have hne:(ksN P i:Int)≠0:=by omega
      have hvr:∀a:Int,vbin .rem (.int .i64 a) (.int .i64 (ksN P i:Int))=some (.int .i64 (a.tmod (ksN P i:Int))):=fun a=>vbin_rem hne
      rw [←ksd] at hl7
      generalize hm1:(j+1) % ksN P i=r1 at *
      generalize hqn:nxN P (offN P i+j)=q1 at *
      simp (disch:=omega) [f1,f2,f3,f4,f5,f6,f7,f8,rd0,rd1',rd2',rd3',lastO,aa,ab,la,lb,wrap_i64,hvr,e1,hnx,splice,zs5,c0,c1,c2,c3,c4,hl7,isLp_ept,z0,z1,z2,z3,z4,rd5_0,rd5_1,rd5_2,rd5_3,rd5_4]
      refine ⟨hjt,v0,v1,v2,v3,v4,⟨rfl,rfl,rfl,rfl,rfl⟩,?_⟩
      have key:netL P [] (offN P i+(j+1)) (offL P i++[(offN P i:Int)])=[upM (lnN P) (offN P i+j)++[lnN P (offN P i+j)],upM (anN P) (offN P i+j)++[anN P (offN P i+j)],upM (fun i=>(pcN P i:Nat)) (offN P i+j)++[(i:Int)],upM (fun i=>(nxN P i:Nat)) (offN P i+j)++[(q1:Int)],upM (ptL []) (offN P i+j)++[-1],offL P i++[(offN P i:Int)]]:=by
        rw [←Nat.add_assoc]
        simp only [netL,upM_snoc,pc_at ht hjt,hqn,ptL_nil]
      rw [key]
      exact hS8
    · have:j=ksN P i:=by omega
      subst this
      simp (disch:=omega) [f1,f2,f3,f4,f5,f6,f7,f8,wrap_i64]
      exact ⟨ht,va,vb,vp,vx,vq,⟨rfl,rfl,rfl,rfl,rfl⟩,by rw [offL_snoc];exact hS3⟩
  · have:i=P.length:=by omega
    subst this
    simp [f1,f2,f3,f4,f5,rd1',hsv.len]
    refine wLoop_up S.length (fun i fr L H'=>∃X,(fr 1=.lp 0 0∧fr 2=.lp 1 0∧fr 3=.lp 2 0∧fr 4=fv∧fr 9=.int .i64 i)∧L=[pv,sv,.int .i64 e] :: [.snil,.snil,.snil,.snil,.snil] :: [va,vb,vp,vx,vq] :: X∧Owns H.length H H' [va,vb,vp,vx,vq,fv] (netL P (prL P (S.take i)) (nsN P) (offL P P.length))) ⟨X,by simp [f1,f2,f3,f4],rfl,by
      have e0:prL P (S.take 0)=[]:=by simp [prL]
      rw [e0];exact hS⟩ ?_
    clear f1 f2 f3 f4 f5 hS hi fr hfl
    rintro i hi fr L H3 ⟨X,⟨f1,f2,f3,f4,f9⟩,rfl,hS3⟩
    have x3:HX H H3:=hS3.hx
    have l3:=x3.len
    simp [f1,f2,f3,f4,f9,rd1',hsv.len]
    refine cond_dec (fun ht => ?_) fun hfl => ?_
    · have ht:i<S.length:=by omega
      have hs3:=hsv.mono x3
      have ld:=fun L=>hs3.load ht (L:=L)
      have hso:=hok.sm i ht
      have hpl:prL P (S.take (i+1))=prS P (S.getD i default) :: prL P (S.take i):=by
        rw [take_next ht,prL,List.map_append,List.reverse_append];rfl
      have hsk:=seams_ok hok (n:=i+1) ht
      simp only at hsk
      rw [hpl] at hsk ⊢
      simp only at hso
      generalize hs:S.getD i default=s at ld hso hsk ⊢
      have ec:smC.cells s=[.int .i64 s.A,.int .i64 s.I,.int .i64 s.B,.int .i64 s.J]:=rfl
      rw [ec] at ld
      obtain ⟨⟨q1,q2⟩,_,_,_⟩:=seam_ok hso
      obtain ⟨a1,a2,a3,a4⟩:=sd_ok q1
      obtain ⟨b1,b2,b3,b4⟩:=sd_ok q2
      have oa:=hof s.A.toNat (by omega)
      have ob:=hof s.B.toNat (by omega)
      have ka:=hks _ a1
      have kb:=hks _ b1
      have ofv:SlV H3 fv (offL P P.length):=(hS3.at' 5 (by simp [netL])).sl
      have aa:=ofv.addr (i:=s.A) (by rw [offL_len];omega)
      have ab:=ofv.addr (i:=s.B) (by rw [offL_len];omega)
      have la:=fun L=>ofv.load (i:=s.A.toNat) (by rw [offL_len];omega) (L:=L)
      have lb:=fun L=>ofv.load (i:=s.B.toNat) (by rw [offL_len];omega) (L:=L)
      rw [offL_get a1] at la
      rw [offL_get b1] at lb
      have hsk2:=hsk
      generalize hab:prS P s=ab' at hsk hsk2 ⊢
      obtain ⟨a,b⟩:=ab'
      simp only [prS,Prod.mk.injEq] at hab
      cases hsk2 with
      | cons _ h1 h2 h3 h4 =>
      simp only at h1 h2 h3
      have ea:(offN P s.A.toNat:Int)+s.I=(a:Nat):=by omega
      have eb:(offN P s.B.toNat:Int)+s.J=(b:Nat):=by omega
      have wa:IntKind.wrap .i64 (a:Int)=(a:Int):=wrap_i64 (by omega) (by omega)
      have wb:IntKind.wrap .i64 (b:Int)=(b:Int):=wrap_i64 (by omega) (by omega)
      have oq:OwnV H.length H3 vq (upM (ptL (prL P (S.take i))) (nsN P)):=hS3.at' 4 (by simp [netL])
      have ga:=oq.sl.addr (i:=(a:Int)) (by rw [upM_len];omega)
      have gb:=oq.sl.addr (i:=(b:Int)) (by rw [upM_len];omega)
      simp only [Int.toNat_natCast] at ga gb
      have st1:=fun L=>oq.store (lim:=lim) (i:=a) (x:=(b:Int)) (L:=L) ⟨hlim,by rw [upM_len];exact h1⟩
      have hS4:=hS3.put (i:=4) (by simp [netL]) (l':=(upM (ptL (prL P (S.take i))) (nsN P)).set a (b:Int)) (by rw [List.length_set];rfl) (Nat.le_refl _)
      have oq4:OwnV H.length (setH H3 vq (ints ((upM (ptL (prL P (S.take i))) (nsN P)).set a (b:Int)))) vq ((upM (ptL (prL P (S.take i))) (nsN P)).set a (b:Int)):=oq.put (by simp)
      have st2:=fun L=>oq4.store (lim:=lim) (i:=b) (x:=(a:Int)) (L:=L) ⟨hlim,by rw [List.length_set,upM_len];exact h2⟩
      have hS5:=hS4.put (i:=4) (by simp [netL]) (l':=((upM (ptL (prL P (S.take i))) (nsN P)).set a (b:Int)).set b (a:Int)) (by rw [List.length_set];rfl) (Nat.le_refl _)
      rw [pt_seam hsk] at hS5 st2
      have ls:vstore lim ([pv,sv,.int .i64 e] :: [.snil,.snil,.snil,.snil,.snil] :: [va,vb,vp,vx,vq] :: (X++[[.int .i64 0,.int .i64 0,.int .i64 0,.int .i64 0]])) H3 (.lp (X.length+3) 0) (.agg [.int .i64 s.A,.int .i64 s.I,.int .i64 s.B,.int .i64 s.J]) 4=some ([pv,sv,.int .i64 e] :: [.snil,.snil,.snil,.snil,.snil] :: [va,vb,vp,vx,vq] :: (X++[[.int .i64 s.A,.int .i64 s.I,.int .i64 s.B,.int .i64 s.J]]),H3):=by simp [vstore,splice]
      have ip1:=oq.isP (i:=a) (by rw [upM_len];exact h1)
      have ip2:=oq.isP (i:=b) (by rw [upM_len];exact h2)
      have r4:∀{x y z u w:V},rd none [x,y,z,u,w] 4=some w:=fun {x y z u w}=>Eq.trans rfl rfl
      simp (disch:=omega) [f1,f2,f3,f4,f9,hs3.at ht,ld,zs4,spl4,splice,lastO,lastS,rd0,rd1',rd2',rd3',r4,aa,ab,la,lb,ea,eb,wa,wb,ga,gb,st1,st2,ls,ip1,ip2,-vstore,wrap_i64]
      exact ⟨ht,hS5⟩
    · have:i=S.length:=by omega
      subst this
      rw [List.take_length] at hS3
      have s0:=(hS3.at' 0 (by simp [netL])).sl
      have s1:=(hS3.at' 1 (by simp [netL])).sl
      have s2:=(hS3.at' 2 (by simp [netL])).sl
      have s3:=(hS3.at' 3 (by simp [netL])).sl
      have s4:=(hS3.at' 4 (by simp [netL])).sl
      have r5:∀{x y z u w:V},rd (some 5) [x,y,z,u,w] 0=some (.agg [x,y,z,u,w]):=fun {x y z u w}=>Eq.trans rfl rfl
      simp [f2,f3,splice,r5]
      exact hK _ _ x3 ⟨_,_,_,_,_,rfl,s0,s1,s2,s3,s4⟩
end
end Go.Proofs.Ytclghkegfpcdpaa.Vm
