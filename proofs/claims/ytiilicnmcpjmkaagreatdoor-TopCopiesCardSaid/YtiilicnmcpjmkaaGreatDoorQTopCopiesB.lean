/- Quicksort over the machine (int): heaps, partitions. -/
import Derived.Test.YtiilicnmcpjmkaaGreatDoorQTopCopiesA
namespace Go.Proofs.YtiilicnmcpjmkaaGreatDoor.Vm
open Go
set_option maxRecDepth 100000
set_option maxHeartbeats 1000000
set_option linter.unusedSimpArgs false
set_option linter.unusedVariables false
attribute [-simp] List.getD_eq_getElem?_getD
section
variable {lim:Nat}{H H0:Hp}{K:V→Hp→Prop}{b g:Nat}{l l0:List EQ}{cf:EQ→EQ→Int}{fs cs:List V}
theorem sq_sift (hs:SqS b H0 l0 l H) (hlim:lim≤b) (hst:allStor fs=true∧allStor cs=true∧g≠3999999) (hc:CmpQ b g fs cs H0 l0 cf) (ho:Ordr cf) {f lo hi:Nat} (hf:f+hi≤l0.length∧lo<hi+1) (hl:l0.length≤100000) (hp:HpR cf f (lo+1) hi l)
    (hK:∀H' l',SqS b H0 l0 l' H'→PermR f (f+hi) l l'→HpR cf f lo hi l'→K (.tup []) H') :
    VCall tbl lim 98 [.sl b 0 l0.length 1,.int .i64 lo,.int .i64 hi,.int .i64 f,.func (.func g) fs cs] H K:=by
  refine VCall_fn tbl_at98 rfl ?_
  have hn:=hs.n
  simp (disch:=omega) [vf98,wrap_i64]
  refine wLoop_m (n:=hi+1-lo) (fun m fr L H'=>∃l' r,(fr 0=.sl b 0 l0.length 1∧fr 2=.int .i64 hi∧fr 3=.int .i64 f∧fr 4=.func (.func g) fs cs∧fr 10=.int .i64 (r:Nat))∧L=[]∧SqS b H0 l0 l' H'∧PermR f (f+hi) l l'∧SfI cf f lo hi r l'∧r≤hi∧m=hi+1-r) ⟨l,lo,by simp,rfl,hs,PermR.refl,SfI.start hp,by omega,rfl⟩ ?_
  rintro m fr L H' ⟨l',r,⟨f0,f2,f3,f4,f10⟩,rfl,hr,hpp,hI,hrh,hm⟩
  have hlen:=hpp.len
  simp (disch:=omega) [f0,f2,f3,f4,f10,wrap_i64]
  refine cond_dec (fun ht => ?_) fun ht => ?_
  · simp
    exact hK _ _ hr hpp (hI.end1 (by omega))
  have h1:2*r+1<hi:=by omega
  have e1:((f:Int)+(2*(r:Int)+1)).toNat=f+(2*r+1):=by omega
  have e2:((f:Int)+(2*(r:Int)+1)+1).toNat=f+(2*r+1+1):=by omega
  have e3:((f:Int)+(r:Int)).toNat=f+r:=by omega
  have e4:((f:Int)+(2*(r:Int)+1+1)).toNat=f+(2*r+1+1):=by omega
  have g1:=fun L=>sq_ld hr.row (i:=f+(2*r+1)) (by omega) (L:=L)
  by_cases h2:2*r+1+1<hi
  · have g2:=fun L=>sq_ld hr.row (i:=f+(2*r+1+1)) (by omega) (L:=L)
    have hgt:(2*(r:Int)+1+1<(hi:Int))=True:=eq_true (by omega)
    simp (disch:=omega) [f0,f2,f3,f4,f10,hgt,wrap_i64,e1,e2,g1,g2,hst,sq_addr,-viaddrS_in,-vload_ptrO]
    refine hc.at hr (i:=f+(2*r+1)) (j:=f+(2*r+1+1)) (by omega) (by omega) fun H2 x2 hr2 => ?_
    simp
    refine cond_dec (fun hlt => ?_) fun hlt => ?_
    · have ch0:=ChR.two ho h2 hlt
      have ch:ChR cf f hi r (2*r+1+1) l':=ch0
      have hcr:=ch.rng
      have g3:=fun L=>sq_ld hr2.row (i:=f+r) (by omega) (L:=L)
      have g4:=fun L=>sq_ld hr2.row (i:=f+(2*r+1+1)) (by omega) (L:=L)
      simp (disch:=omega) [f0,f2,f3,f4,f10,wrap_i64,e1,e2,e3,e4,g3,g4,hst,sq_addr,-viaddrS_in,-vload_ptrO]
      refine hc.at hr2 (i:=f+r) (j:=f+(2*r+1+1)) (by omega) (by omega) fun H3 x3 hr3 => ?_
      simp
      refine cond_ndec (fun hlt => ?_) fun hlt => ?_
      · simp
        exact hK _ _ hr3 hpp (hI.end2 ho ch hlt)
      · have g3:=fun L=>sq_ld hr3.row (i:=f+r) (by omega) (L:=L)
        have g4:=fun L=>sq_ld hr3.row (i:=f+(2*r+1+1)) (by omega) (L:=L)
        have w1:=fun L=>sq_w1 hr3 hlim (i:=f+r) (by omega) (L:=L) (gE l' (f+(2*r+1+1)))
        have w2:=fun L=>sq_w2 hr3 hlim (i:=f+r) (j:=f+(2*r+1+1)) (by omega) (L:=L)
        have hr4:=hr3.swap (i:=f+r) (j:=f+(2*r+1+1)) (by omega) (by omega)
        have hps:=hpp.trans (swp_perm (l:=l') (i:=f+r) (j:=f+(2*r+1+1)) (a:=f) (b:=f+hi) ⟨by omega,by omega⟩ ⟨by omega,by omega⟩ (by omega))
        have hI2:=hI.step ho ch (by omega) hlt
        simp (disch:=omega) [f0,f2,f3,f4,f10,wrap_i64,e1,e2,e3,e4,g3,g4,w1,w2,sq_addr,-viaddrS_in,-vstore,-vload_ptrO]
        exact ⟨hi+1-(2*r+1+1),by omega,_,2*r+1+1,by omega,hr4,hps,hI2,by omega,rfl⟩
    · have ch0:=ChR.one ho (hi:=hi) (l:=l') (f:=f) h1 (fun h=>hlt h.2)
      have ch:ChR cf f hi r (2*r+1) l':=ch0
      have hcr:=ch.rng
      have g3:=fun L=>sq_ld hr2.row (i:=f+r) (by omega) (L:=L)
      have g4:=fun L=>sq_ld hr2.row (i:=f+(2*r+1)) (by omega) (L:=L)
      simp (disch:=omega) [f0,f2,f3,f4,f10,wrap_i64,e1,e2,e3,e4,g3,g4,hst,sq_addr,-viaddrS_in,-vload_ptrO]
      refine hc.at hr2 (i:=f+r) (j:=f+(2*r+1)) (by omega) (by omega) fun H3 x3 hr3 => ?_
      simp
      refine cond_ndec (fun hlt => ?_) fun hlt => ?_
      · simp
        exact hK _ _ hr3 hpp (hI.end2 ho ch hlt)
      · have g3:=fun L=>sq_ld hr3.row (i:=f+r) (by omega) (L:=L)
        have g4:=fun L=>sq_ld hr3.row (i:=f+(2*r+1)) (by omega) (L:=L)
        have w1:=fun L=>sq_w1 hr3 hlim (i:=f+r) (by omega) (L:=L) (gE l' (f+(2*r+1)))
        have w2:=fun L=>sq_w2 hr3 hlim (i:=f+r) (j:=f+(2*r+1)) (by omega) (L:=L)
        have hr4:=hr3.swap (i:=f+r) (j:=f+(2*r+1)) (by omega) (by omega)
        have hps:=hpp.trans (swp_perm (l:=l') (i:=f+r) (j:=f+(2*r+1)) (a:=f) (b:=f+hi) ⟨by omega,by omega⟩ ⟨by omega,by omega⟩ (by omega))
        have hI2:=hI.step ho ch (by omega) hlt
        simp (disch:=omega) [f0,f2,f3,f4,f10,wrap_i64,e1,e2,e3,e4,g3,g4,w1,w2,sq_addr,-viaddrS_in,-vstore,-vload_ptrO]
        exact ⟨hi+1-(2*r+1),by omega,_,2*r+1,by omega,hr4,hps,hI2,by omega,rfl⟩
  · have ch0:=ChR.one ho (hi:=hi) (l:=l') (f:=f) h1 (fun h=>h2 h.1)
    have hgd:decide (2*(r:Int)+1+1<(hi:Int))=false:=decide_eq_false (by omega)
    simp (disch:=omega) [f0,f2,f3,f4,f10,hgd,wrap_i64,-viaddrS_in]
    have ch:ChR cf f hi r (2*r+1) l':=ch0
    have hcr:=ch.rng
    have g3:=fun L=>sq_ld hr.row (i:=f+r) (by omega) (L:=L)
    have g4:=fun L=>sq_ld hr.row (i:=f+(2*r+1)) (by omega) (L:=L)
    simp (disch:=omega) [f0,f2,f3,f4,f10,wrap_i64,e1,e2,e3,e4,g3,g4,hst,sq_addr,-viaddrS_in,-vload_ptrO]
    refine hc.at hr (i:=f+r) (j:=f+(2*r+1)) (by omega) (by omega) fun H3 x3 hr3 => ?_
    simp
    refine cond_ndec (fun hlt => ?_) fun hlt => ?_
    · simp
      exact hK _ _ hr3 hpp (hI.end2 ho ch hlt)
    · have g3:=fun L=>sq_ld hr3.row (i:=f+r) (by omega) (L:=L)
      have g4:=fun L=>sq_ld hr3.row (i:=f+(2*r+1)) (by omega) (L:=L)
      have w1:=fun L=>sq_w1 hr3 hlim (i:=f+r) (by omega) (L:=L) (gE l' (f+(2*r+1)))
      have w2:=fun L=>sq_w2 hr3 hlim (i:=f+r) (j:=f+(2*r+1)) (by omega) (L:=L)
      have hr4:=hr3.swap (i:=f+r) (j:=f+(2*r+1)) (by omega) (by omega)
      have hps:=hpp.trans (swp_perm (l:=l') (i:=f+r) (j:=f+(2*r+1)) (a:=f) (b:=f+hi) ⟨by omega,by omega⟩ ⟨by omega,by omega⟩ (by omega))
      have hI2:=hI.step ho ch (by omega) hlt
      simp (disch:=omega) [f0,f2,f3,f4,f10,wrap_i64,e1,e2,e3,e4,g3,g4,w1,w2,sq_addr,-viaddrS_in,-vstore,-vload_ptrO]
      exact ⟨hi+1-(2*r+1),by omega,_,2*r+1,by omega,hr4,hps,hI2,by omega,rfl⟩
theorem sq_heap (hs:SqS b H0 l0 l H)(hlim:lim≤b)(hst:allStor fs=true∧allStor cs=true∧g≠3999999)(hc:CmpQ b g fs cs H0 l0 cf)(ho:Ordr cf){a e:Nat}(hae:a<e∧e≤l0.length)(hl:l0.length≤100000)
    (hK:∀H' l',SqS b H0 l0 l' H'→PermR a e l l'→SortR cf a e l'→K (.tup []) H'):VCall tbl lim 74 [.sl b 0 l0.length 1,.int .i64 a,.int .i64 e,.func (.func g) fs cs] H K:=by
  refine VCall_fn tbl_at74 rfl ?_
  have hn:=hs.n
  obtain ⟨d,rfl⟩:∃d,e=a+d:=⟨e-a,by omega⟩
  have ed:((a+d:Nat):Int)-(a:Int)=(d:Int):=by omega
  have e0:(a:Int)+(d:Int)-(a:Int)=(d:Int):=by omega
  have eq2:((d:Int)-1).tdiv 2=(((d-1) / 2:Nat):Int):=by
    have:(d:Int)-1=((d-1:Nat):Int):=by omega
    rw [this];exact tdiv_nat _ 2
  simp (disch:=omega) [vf74,wrap_i64,ed,e0,eq2]
  refine wLoop_post 0 (fun fr L H'=>∃l',(fr 0=.sl b 0 l0.length 1∧fr 3=.func (.func g) fs cs∧fr 8=.int .i64 a∧fr 9=.int .i64 0∧fr 10=.int .i64 d)∧L=[]∧SqS b H0 l0 l' H'∧PermR a (a+d) l l'∧HpR cf a 0 d l') ?_ ?_
  · refine wLoop_m (n:=(d-1) / 2+1) (fun m fr L H'=>∃l',(fr 0=.sl b 0 l0.length 1∧fr 3=.func (.func g) fs cs∧fr 8=.int .i64 a∧fr 9=.int .i64 0∧fr 10=.int .i64 d∧fr 11=.int .i64 ((m:Nat)-1:Int))∧L=[]∧SqS b H0 l0 l' H'∧PermR a (a+d) l l'∧HpR cf a m d l'∧m≤(d-1) / 2+1) ⟨l,by simp,rfl,hs,PermR.refl,HpR.none,Nat.le_refl _⟩ ?_
    rintro m fr L H' ⟨l',⟨f0,f3,f8,f9,f10,f11⟩,rfl,hr,hp,hH,hm⟩
    have hlen:=hp.len
    simp [f0,f3,f8,f9,f10,f11]
    refine cond_dec (fun ht => ?_) fun ht => ?_
    · obtain ⟨k,rfl⟩:∃k,m=k+1:=⟨m-1,by omega⟩
      have e1:((k+1:Nat):Int)-1=(k:Int):=by omega
      have e2:(k:Int)+1-1=(k:Int):=by omega
      simp [f0,f3,f8,f9,f10,f11,e1,e2,hst]
      refine sq_sift hr hlim hst hc ho (f:=a) (lo:=k) (hi:=d) (by omega) hl hH fun H2 l2 hr2 hp2 hH2 => ?_
      simp (disch:=omega) [f0,f3,f8,f9,f10,f11,e1,e2,wrap_i64]
      exact ⟨k,by omega,by omega,l2,hr2,hp.trans hp2,hH2,by omega⟩
    · have:m=0:=by omega
      subst this
      simp [f0,f3,f8,f9,f10]
      exact ⟨l',hr,hp,hH⟩
  rintro fr L H' ⟨l',⟨f0,f3,f8,f9,f10⟩,rfl,hr,hp,hH⟩
  simp (disch:=omega) [f0,f3,f8,f9,f10,wrap_i64]
  refine wLoop_m (n:=d) (fun m fr L H'=>∃l',(fr 0=.sl b 0 l0.length 1∧fr 3=.func (.func g) fs cs∧fr 8=.int .i64 a∧fr 9=.int .i64 0∧fr 10=.int .i64 d∧fr 12=.int .i64 ((m:Nat)-1:Int))∧L=[]∧SqS b H0 l0 l' H'∧PermR a (a+d) l l'∧HpR cf a 0 m l'∧OutR cf a (a+d) a (a+m) l'∧m≤d) ⟨l',by simp [f0,f3,f8,f9,f10],rfl,hr,hp,hH,OutR.start (by omega),Nat.le_refl _⟩ ?_
  clear f0 f3 f8 f9 f10 hr hp hH l'
  rintro m fr L H' ⟨l',⟨f0,f3,f8,f9,f10,f12⟩,rfl,hr,hp,hH,hO,hm⟩
  have hlen:=hp.len
  simp [f0,f3,f8,f9,f10,f12]
  refine cond_dec (fun ht => ?_) fun ht => ?_
  · obtain ⟨k,rfl⟩:∃k,m=k+1:=⟨m-1,by omega⟩
    have e1:((k+1:Nat):Int)-1=(k:Int):=by omega
    have e2:(k:Int)+1-1=(k:Int):=by omega
    have e3:((a:Int)+(k:Int)).toNat=a+k:=by omega
    have g1:=fun L=>sq_ld hr.row (i:=a) (by omega) (L:=L)
    have g2:=fun L=>sq_ld hr.row (i:=a+k) (by omega) (L:=L)
    have w1:=fun L=>sq_w1 hr hlim (i:=a) (by omega) (L:=L) (gE l' (a+k))
    have w2:=fun L=>sq_w2 hr hlim (i:=a) (j:=a+k) (by omega) (L:=L)
    have hr4:=hr.swap (i:=a) (j:=a+k) (by omega) (by omega)
    have hps:=hp.trans (swp_perm (l:=l') (i:=a) (j:=a+k) (a:=a) (b:=a+d) ⟨by omega,by omega⟩ ⟨by omega,by omega⟩ (by omega))
    obtain ⟨hH1,hO1⟩:=hH.pop ho hO (by omega)
    simp (disch:=omega) [f0,f3,f8,f9,f10,f12,e1,e2,e3,wrap_i64,g1,g2,w1,w2,hst,sq_addr,-viaddrS_in,-vstore,-vload_ptrO]
    refine sq_sift hr4 hlim hst hc ho (f:=a) (lo:=0) (hi:=k) (by omega) hl hH1 fun H2 l2 hr2 hp2 hH2 => ?_
    simp (disch:=omega) [f0,f3,f8,f9,f10,f12,e1,e2,wrap_i64]
    exact ⟨k,by omega,by omega,l2,hr2,hps.trans (hp2.wide (Nat.le_refl _) (by omega)),hH2,hO1.perm hp2 (by rw [swp_len];omega),by omega⟩
  · have:m=0:=by omega
    subst this
    simp
    exact hK _ _ hr hp (hO.sort fun p q h1 h2 h3=>by omega)
theorem sq_part (hs:SqS b H0 l0 l H) (hlim:lim≤b) (hst:allStor fs=true∧allStor cs=true∧g≠3999999) (hc:CmpQ b g fs cs H0 l0 cf) (ho:Ordr cf) {a e v:Nat} (hae:a≤v∧v<e∧e≤l0.length) (hl:l0.length≤100000)
    (hK:∀H' l' m ok,SqS b H0 l0 l' H'→PermR a e l l'→PartR cf a e m l'→K (.tup [.int .i64 (m:Nat),.bool ok]) H'):VCall tbl lim 80 [.sl b 0 l0.length 1,.int .i64 a,.int .i64 e,.int .i64 v,.func (.func g) fs cs] H K:=by
  refine VCall_fn tbl_at80 rfl ?_
  have hn:=hs.n
  have g1:=fun L=>sq_ld hs.row (i:=a) (by omega) (L:=L)
  have g2:=fun L=>sq_ld hs.row (i:=v) (by omega) (L:=L)
  have w1:=fun L=>sq_w1 hs hlim (i:=a) (by omega) (L:=L) (gE l v)
  have w2:=fun L=>sq_w2 hs hlim (i:=a) (j:=v) (by omega) (L:=L)
  have hs1:=hs.swap (i:=a) (j:=v) (by omega) (by omega)
  have hp1:PermR a e l (swp l a v):=swp_perm ⟨by omega,by omega⟩ ⟨by omega,by omega⟩ (by omega)
  have e0:(e:Int)-1=((e-1:Nat):Int):=by omega
  simp (disch:=omega) [vf80,wrap_i64,g1,g2,w1,w2,hst,sq_addr,e0,-viaddrS_in,-vstore,-vload_ptrO]
  refine wLoop_post 0 (fun fr L H'=>∃l' i j,(fr 0=.sl b 0 l0.length 1∧fr 1=.int .i64 a∧fr 4=.func (.func g) fs cs∧fr 12=.int .i64 (i:Nat)∧fr 13=.int .i64 (j:Nat))∧L=[]∧SqS b H0 l0 l' H'∧PermR a e l l'∧PtI cf a e i j l'∧j+1-i≤(e-a)∧(i≤j→¬cf (gE l' i) (gE l' a)<0)) ?_ ?_
  · refine wLoop_m (n:=(e-a)) (fun m fr L H'=>∃l' i j,(fr 0=.sl b 0 l0.length 1∧fr 1=.int .i64 a∧fr 4=.func (.func g) fs cs∧fr 12=.int .i64 (i:Nat)∧fr 13=.int .i64 (j:Nat))∧L=[]∧SqS b H0 l0 l' H'∧PermR a e l l'∧PtI cf a e i j l'∧j+1-i≤m∧m≤(e-a)) ⟨swp l a v,a+1,e-1,by simp,rfl,hs1,hp1,PtI.start (by omega),by omega,Nat.le_refl _⟩ ?_
    rintro m fr L H' ⟨l',i,j,⟨f0,f1,f4,f12,f13⟩,rfl,hr,hp,hI,hm,hm2⟩
    have hrg:=hI.rng
    have hlen:=hp.len
    by_cases hij:i≤j
    · have hgt:((i:Int)≤(j:Int))=True:=eq_true (by omega)
      have g1:=fun L=>sq_ld hr.row (i:=i) (by omega) (L:=L)
      have g2:=fun L=>sq_ld hr.row (i:=a) (by omega) (L:=L)
      simp (disch:=omega) [f0,f1,f4,f12,f13,hgt,wrap_i64,g1,g2,hst,sq_addr,-viaddrS_in,-vload_ptrO]
      refine hc.at hr (i:=i) (j:=a) (by omega) (by omega) fun H2 x2 hr2 => ?_
      simp
      refine cond_dec (fun hlt => ?_) fun hlt => ?_
      · simp (disch:=omega) [f0,f1,f4,f12,f13,wrap_i64]
        exact ⟨m-1,by omega,l',i+1,j,by omega,hr2,hp,hI.up hij hlt,by omega,by omega⟩
      · simp [f0,f1,f4,f12,f13]
        exact ⟨l',i,j,by omega,hr2,hp,hI,by omega,fun _=>by omega⟩
    · have hgt:((i:Int)≤(j:Int))=False:=eq_false (by omega)
      simp (disch:=omega) [f0,f1,f4,f12,f13,hgt]
      exact ⟨l',i,j,by omega,hr,hp,hI,by omega,fun h=>absurd h hij⟩
  rintro fr L H' ⟨l',i,j,⟨f0,f1,f4,f12,f13⟩,rfl,hr,hp,hI,hm,hup⟩
  simp [f0,f1,f4,f12,f13]
  refine wLoop_post 2 (fun fr L H'=>∃l' i j,(fr 0=.sl b 0 l0.length 1∧fr 1=.int .i64 a∧fr 4=.func (.func g) fs cs∧fr 12=.int .i64 (i:Nat)∧fr 13=.int .i64 (j:Nat))∧L=[]∧SqS b H0 l0 l' H'∧PermR a e l l'∧PtI cf a e i j l'∧j+1-i≤(e-a)∧(i≤j→¬cf (gE l' i) (gE l' a)<0)∧(i≤j→cf (gE l' j) (gE l' a)<0)) ?_ ?_
  · refine wLoop_m (n:=(e-a)) (fun m fr L H'=>∃l' i j,(fr 0=.sl b 0 l0.length 1∧fr 1=.int .i64 a∧fr 4=.func (.func g) fs cs∧fr 12=.int .i64 (i:Nat)∧fr 13=.int .i64 (j:Nat))∧L=[]∧SqS b H0 l0 l' H'∧PermR a e l l'∧PtI cf a e i j l'∧(i≤j→¬cf (gE l' i) (gE l' a)<0)∧j+1-i≤m∧m≤(e-a)) ⟨l',i,j,by simp [f0,f1,f4,f12,f13],rfl,hr,hp,hI,hup,hm,Nat.le_refl _⟩ ?_
    clear f0 f1 f4 f12 f13 hr hp hI hup hm l' i j
    rintro m fr L H' ⟨l',i,j,⟨f0,f1,f4,f12,f13⟩,rfl,hr,hp,hI,hup,hm,hm2⟩
    have hrg:=hI.rng
    have hlen:=hp.len
    by_cases hij:i≤j
    · have hgt:((i:Int)≤(j:Int))=True:=eq_true (by omega)
      have g1:=fun L=>sq_ld hr.row (i:=j) (by omega) (L:=L)
      have g2:=fun L=>sq_ld hr.row (i:=a) (by omega) (L:=L)
      simp (disch:=omega) [f0,f1,f4,f12,f13,hgt,wrap_i64,g1,g2,hst,sq_addr,-viaddrS_in,-vload_ptrO]
      refine hc.at hr (i:=j) (j:=a) (by omega) (by omega) fun H2 x2 hr2 => ?_
      simp
      refine cond_ndec (fun hlt => ?_) fun hlt => ?_
      · have e1:(j:Int)-1=((j-1:Nat):Int):=by omega
        simp (disch:=omega) [f0,f1,f4,f12,f13,wrap_i64,e1]
        exact ⟨m-1,by omega,l',i,j-1,by omega,hr2,hp,hI.down hij hlt,fun h=>by have:=hup (by omega);omega,by omega,by omega⟩
      · simp [f0,f1,f4,f12,f13]
        exact ⟨l',i,j,by omega,hr2,hp,hI,by omega,fun h=>by have:=hup h;omega,fun _=>by omega⟩
    · have hgt:((i:Int)≤(j:Int))=False:=eq_false (by omega)
      simp (disch:=omega) [f0,f1,f4,f12,f13,hgt]
      exact ⟨l',i,j,by omega,hr,hp,hI,by omega,fun h=>absurd h hij,fun h=>absurd h hij⟩
  clear f0 f1 f4 f12 f13 hr hp hI hup hm l' i j
  rintro fr L H' ⟨l',i,j,⟨f0,f1,f4,f12,f13⟩,rfl,hr,hp,hI,hm,hup,hdn⟩
  have hrg:=hI.rng
  have hlen:=hp.len
  by_cases hij:i≤j
  · have hgt:((j:Int)<(i:Int))=False:=eq_false (by omega)
    have hi0:=hup hij
    have hj0:=hdn hij
    have g1:=fun L=>sq_ld hr.row (i:=i) (by omega) (L:=L)
    have g2:=fun L=>sq_ld hr.row (i:=j) (by omega) (L:=L)
    have w1:=fun L=>sq_w1 hr hlim (i:=i) (by omega) (L:=L) (gE l' j)
    have w2:=fun L=>sq_w2 hr hlim (i:=i) (j:=j) (by omega) (L:=L)
    have hr4:=hr.swap (i:=i) (j:=j) (by omega) (by omega)
    have hps:=hp.trans (swp_perm (l:=l') (i:=i) (j:=j) (a:=a) (b:=e) ⟨by omega,by omega⟩ ⟨by omega,by omega⟩ (by omega))
    have hI2:=hI.swap ho hij (by omega) hi0 hj0
    have hrg2:=hI2.rng
    have e1:(j:Int)-1=((j-1:Nat):Int):=by omega
    simp (disch:=omega) [f0,f1,f4,f12,f13,hgt,e1,wrap_i64,g1,g2,w1,w2,hst,sq_addr,-viaddrS_in,-vstore,-vload_ptrO]
    refine wLoop_m (n:=(e-a)) (fun m fr L H'=>∃l' i j,(fr 0=.sl b 0 l0.length 1∧fr 1=.int .i64 a∧fr 4=.func (.func g) fs cs∧fr 12=.int .i64 (i:Nat)∧fr 13=.int .i64 (j:Nat))∧L=[]∧SqS b H0 l0 l' H'∧PermR a e l l'∧PtI cf a e i j l'∧j+1-i≤m∧m≤(e-a)) ⟨swp l' i j,i+1,j-1,by simp [f0,f1,f4,f12,f13],rfl,hr4,hps,hI2,by omega,Nat.le_refl _⟩ ?_
    clear f0 f1 f4 f12 f13 hr hp hI hup hdn hm hrg hlen hij hgt hi0 hj0 g1 g2 w1 w2 hr4 hps hI2 hrg2 e1 l' i j
    rintro n fr L H' ⟨l',i,j,⟨f0,f1,f4,f12,f13⟩,rfl,hr,hp,hI,hm,hn2⟩
    simp [f0,f1,f4,f12,f13]
    refine wLoop_post 6 (fun fr L H'=>∃l' i j,(fr 0=.sl b 0 l0.length 1∧fr 1=.int .i64 a∧fr 4=.func (.func g) fs cs∧fr 12=.int .i64 (i:Nat)∧fr 13=.int .i64 (j:Nat))∧L=[]∧SqS b H0 l0 l' H'∧PermR a e l l'∧PtI cf a e i j l'∧j+1-i≤n∧(i≤j→¬cf (gE l' i) (gE l' a)<0)) ?_ ?_
    · refine wLoop_m (n:=n) (fun m fr L H'=>∃l' i j,(fr 0=.sl b 0 l0.length 1∧fr 1=.int .i64 a∧fr 4=.func (.func g) fs cs∧fr 12=.int .i64 (i:Nat)∧fr 13=.int .i64 (j:Nat))∧L=[]∧SqS b H0 l0 l' H'∧PermR a e l l'∧PtI cf a e i j l'∧j+1-i≤m∧m≤n) ⟨l',i,j,by simp [f0,f1,f4,f12,f13],rfl,hr,hp,hI,hm,Nat.le_refl _⟩ ?_
      clear f0 f1 f4 f12 f13 hr hp hI hm l' i j
      rintro m fr L H' ⟨l',i,j,⟨f0,f1,f4,f12,f13⟩,rfl,hr,hp,hI,hm,hm2⟩
      have hrg:=hI.rng
      have hlen:=hp.len
      by_cases hij:i≤j
      · have hgt:((i:Int)≤(j:Int))=True:=eq_true (by omega)
        have g1:=fun L=>sq_ld hr.row (i:=i) (by omega) (L:=L)
        have g2:=fun L=>sq_ld hr.row (i:=a) (by omega) (L:=L)
        simp (disch:=omega) [f0,f1,f4,f12,f13,hgt,wrap_i64,g1,g2,hst,sq_addr,-viaddrS_in,-vload_ptrO]
        refine hc.at hr (i:=i) (j:=a) (by omega) (by omega) fun H2 x2 hr2 => ?_
        simp
        refine cond_dec (fun hlt => ?_) fun hlt => ?_
        · simp (disch:=omega) [f0,f1,f4,f12,f13,wrap_i64]
          exact ⟨m-1,by omega,l',i+1,j,by omega,hr2,hp,hI.up hij hlt,by omega,by omega⟩
        · simp [f0,f1,f4,f12,f13]
          exact ⟨l',i,j,by omega,hr2,hp,hI,by omega,fun _=>by omega⟩
      · have hgt:((i:Int)≤(j:Int))=False:=eq_false (by omega)
        simp (disch:=omega) [f0,f1,f4,f12,f13,hgt]
        exact ⟨l',i,j,by omega,hr,hp,hI,by omega,fun h=>absurd h hij⟩
    clear f0 f1 f4 f12 f13 hr hp hI hm l' i j
    rintro fr L H' ⟨l',i,j,⟨f0,f1,f4,f12,f13⟩,rfl,hr,hp,hI,hm,hup⟩
    simp [f0,f1,f4,f12,f13]
    refine wLoop_post 8 (fun fr L H'=>∃l' i j,(fr 0=.sl b 0 l0.length 1∧fr 1=.int .i64 a∧fr 4=.func (.func g) fs cs∧fr 12=.int .i64 (i:Nat)∧fr 13=.int .i64 (j:Nat))∧L=[]∧SqS b H0 l0 l' H'∧PermR a e l l'∧PtI cf a e i j l'∧j+1-i≤n∧(i≤j→¬cf (gE l' i) (gE l' a)<0)∧(i≤j→cf (gE l' j) (gE l' a)<0)) ?_ ?_
    · refine wLoop_m (n:=n) (fun m fr L H'=>∃l' i j,(fr 0=.sl b 0 l0.length 1∧fr 1=.int .i64 a∧fr 4=.func (.func g) fs cs∧fr 12=.int .i64 (i:Nat)∧fr 13=.int .i64 (j:Nat))∧L=[]∧SqS b H0 l0 l' H'∧PermR a e l l'∧PtI cf a e i j l'∧(i≤j→¬cf (gE l' i) (gE l' a)<0)∧j+1-i≤m∧m≤n) ⟨l',i,j,by simp [f0,f1,f4,f12,f13],rfl,hr,hp,hI,hup,hm,Nat.le_refl _⟩ ?_
      clear f0 f1 f4 f12 f13 hr hp hI hup hm l' i j
      rintro m fr L H' ⟨l',i,j,⟨f0,f1,f4,f12,f13⟩,rfl,hr,hp,hI,hup,hm,hm2⟩
      have hrg:=hI.rng
      have hlen:=hp.len
      by_cases hij:i≤j
      · have hgt:((i:Int)≤(j:Int))=True:=eq_true (by omega)
        have g1:=fun L=>sq_ld hr.row (i:=j) (by omega) (L:=L)
        have g2:=fun L=>sq_ld hr.row (i:=a) (by omega) (L:=L)
        simp (disch:=omega) [f0,f1,f4,f12,f13,hgt,wrap_i64,g1,g2,hst,sq_addr,-viaddrS_in,-vload_ptrO]
        refine hc.at hr (i:=j) (j:=a) (by omega) (by omega) fun H2 x2 hr2 => ?_
        simp
        refine cond_ndec (fun hlt => ?_) fun hlt => ?_
        · have e1:(j:Int)-1=((j-1:Nat):Int):=by omega
          simp (disch:=omega) [f0,f1,f4,f12,f13,wrap_i64,e1]
          exact ⟨m-1,by omega,l',i,j-1,by omega,hr2,hp,hI.down hij hlt,fun h=>by have:=hup (by omega);omega,by omega,by omega⟩
        · simp [f0,f1,f4,f12,f13]
          exact ⟨l',i,j,by omega,hr2,hp,hI,by omega,fun h=>by have:=hup h;omega,fun _=>by omega⟩
      · have hgt:((i:Int)≤(j:Int))=False:=eq_false (by omega)
        simp (disch:=omega) [f0,f1,f4,f12,f13,hgt]
        exact ⟨l',i,j,by omega,hr,hp,hI,by omega,fun h=>absurd h hij,fun h=>absurd h hij⟩
    clear f0 f1 f4 f12 f13 hr hp hI hup hm l' i j
    rintro fr L H' ⟨l',i,j,⟨f0,f1,f4,f12,f13⟩,rfl,hr,hp,hI,hm,hup,hdn⟩
    have hrg:=hI.rng
    have hlen:=hp.len
    by_cases hij:i≤j
    · have hgt:((j:Int)<(i:Int))=False:=eq_false (by omega)
      have hi0:=hup hij
      have hj0:=hdn hij
      have g1:=fun L=>sq_ld hr.row (i:=i) (by omega) (L:=L)
      have g2:=fun L=>sq_ld hr.row (i:=j) (by omega) (L:=L)
      have w1:=fun L=>sq_w1 hr hlim (i:=i) (by omega) (L:=L) (gE l' j)
      have w2:=fun L=>sq_w2 hr hlim (i:=i) (j:=j) (by omega) (L:=L)
      have hr4:=hr.swap (i:=i) (j:=j) (by omega) (by omega)
      have hps:=hp.trans (swp_perm (l:=l') (i:=i) (j:=j) (a:=a) (b:=e) ⟨by omega,by omega⟩ ⟨by omega,by omega⟩ (by omega))
      have hI2:=hI.swap ho hij (by omega) hi0 hj0
      have hrg2:=hI2.rng
      have e1:(j:Int)-1=((j-1:Nat):Int):=by omega
      simp (disch:=omega) [f0,f1,f4,f12,f13,hgt,e1,wrap_i64,g1,g2,w1,w2,hst,sq_addr,-viaddrS_in,-vstore,-vload_ptrO]
      exact ⟨n-1,by omega,_,i+1,j-1,by omega,hr4,hps,hI2,by omega,by omega⟩
    · have hgt:((j:Int)<(i:Int))=True:=eq_true (by omega)
      have hij2:¬i≤j:=hij
      have g1:=fun L=>sq_ld hr.row (i:=j) (by omega) (L:=L)
      have g2:=fun L=>sq_ld hr.row (i:=a) (by omega) (L:=L)
      have w1:=fun L=>sq_w1 hr hlim (i:=j) (by omega) (L:=L) (gE l' a)
      have w2:=fun L=>sq_w2 hr hlim (i:=j) (j:=a) (by omega) (L:=L)
      have hr4:=hr.swap (i:=j) (j:=a) (by omega) (by omega)
      have hps:=hp.trans (swp_perm (l:=l') (i:=j) (j:=a) (a:=a) (b:=e) ⟨by omega,by omega⟩ ⟨by omega,by omega⟩ (by omega))
      simp (disch:=omega) [f0,f1,f4,f12,f13,hgt,wrap_i64,g1,g2,w1,w2,hst,sq_addr,-viaddrS_in,-vstore,-vload_ptrO]
      exact hK _ _ j false hr4 hps (hI.done ho hij2 (by omega))
  · have hgt:((j:Int)<(i:Int))=True:=eq_true (by omega)
    have hij2:¬i≤j:=hij
    have g1:=fun L=>sq_ld hr.row (i:=j) (by omega) (L:=L)
    have g2:=fun L=>sq_ld hr.row (i:=a) (by omega) (L:=L)
    have w1:=fun L=>sq_w1 hr hlim (i:=j) (by omega) (L:=L) (gE l' a)
    have w2:=fun L=>sq_w2 hr hlim (i:=j) (j:=a) (by omega) (L:=L)
    have hr4:=hr.swap (i:=j) (j:=a) (by omega) (by omega)
    have hps:=hp.trans (swp_perm (l:=l') (i:=j) (j:=a) (a:=a) (b:=e) ⟨by omega,by omega⟩ ⟨by omega,by omega⟩ (by omega))
    simp (disch:=omega) [f0,f1,f4,f12,f13,hgt,wrap_i64,g1,g2,w1,w2,hst,sq_addr,-viaddrS_in,-vstore,-vload_ptrO]
    exact hK _ _ j true hr4 hps (hI.done ho hij2 (by omega))
end
end Go.Proofs.YtiilicnmcpjmkaaGreatDoor.Vm
namespace Go.Proofs.YtiilicnmcpjmkaaGreatDoor.Vm
open Go
set_option maxRecDepth 100000
set_option maxHeartbeats 1000000
set_option linter.unusedSimpArgs false
set_option linter.unusedVariables false
attribute [-simp] List.getD_eq_getElem?_getD
section
variable {T:Tbl}{lim:Nat}
theorem wVal_mon {o:VOper}{s:St}{K K':V→Lo→Hp→Prop}(h:wVal T lim o s K)(hk:∀v L H,K v L H→K' v L H):wVal T lim o s K':=by
  unfold wVal at h ⊢
  split
  · rename_i hw
    rw [if_pos hw] at h
    split
    · rename_i h1;rw [h1] at h;exact hk _ _ _ h
    · rename_i h1;rw [h1] at h;exact h.mono fun v H=>hk _ _ _
    · rename_i h1;rw [h1] at h;exact h
  · rename_i hw
    rw [if_neg hw] at h;exact hk _ _ _ h
theorem wOps_mon:∀{l:List VOper} {s:St} {K K':St→Prop},wOps T lim l K s→(∀s,K s→K' s)→wOps T lim l K' s
  | [],s,K,K',h,hk=>hk _ h
  | o :: l,s,K,K',h,hk=>wVal_mon h fun _ _ _ h2=>wOps_mon h2 hk
theorem wHead_mon:∀{l:List VOper} {k:Nat} {acc:List (Nat×Nat)} {s:St} {K K':St→Prop},wHead T k l acc K s→(∀s,K s→K' s)→wHead T k l acc K' s
  | [],k,acc,s,K,K',h,hk=>hk _ h
  | o :: l,k,acc,s,K,K',h,hk=>by
    simp only [wHead] at h ⊢
    split
    · rename_i h1;rw [h1] at h;exact h
    · rename_i h1;rw [h1] at h;exact wVal_mon h fun _ _ _ h2=>wHead_mon h2 hk
theorem wHeadS_mon:∀{l:List VOper} {k:Nat} {acc:List (Nat×Nat)} {hp:HpAcc} {s:St} {K K':St→Prop},wHeadS T lim k l acc hp K s→(∀s,K s→K' s)→wHeadS T lim k l acc hp K' s
  | [],k,acc,hp,s,K,K',h,hk=>hk _ h
  | o :: l,k,acc,hp,s,K,K',h,hk=>by
    simp only [wHeadS] at h ⊢
    split
    · rename_i h1;rw [h1] at h;exact h
    · rename_i h1;rw [h1] at h;exact wVal_mon h fun _ _ _ h2=>wHeadS_mon h2 hk
theorem wCode_mon:∀{c:VCode} {Q Q':VExit→St→Prop} {s:St},wCode T lim c Q s→(∀e s,Q e s→Q' e s)→wCode T lim c Q' s
  | .skip,Q,Q',s,h,hq=>hq _ _ h
  | .reg ops,Q,Q',s,h,hq=>wOps_mon h fun s=>hq _ s
  | .draw hd t,Q,Q',s,h,hq=>wHead_mon h fun s h2=>wOps_mon h2 fun s=>hq _ s
  | .drawS hd t,Q,Q',s,h,hq=>wHeadS_mon h fun s h2=>wOps_mon h2 fun s=>hq _ s
  | .seq a b,Q,Q',s,h,hq=>wCode_mon (c:=a) h fun e s h2=>by
    cases e with
    | normal=>exact wCode_mon (c:=b) h2 hq
    | exit id=>exact hq _ _ h2
    | ret=>exact hq _ _ h2
  | .cond c a b,Q,Q',s,h,hq=>by
    simp only [wCode] at h ⊢
    split
    · rename_i h1;rw [h1] at h;exact wCode_mon (c:=a) h hq
    · rename_i h1;rw [h1] at h;exact wCode_mon (c:=b) h hq
    · rename_i h1 h2
      split at h
      · rename_i h3;exact absurd h3 h1
      · rename_i h3;exact absurd h3 h2
      · exact h
  | .block id body,Q,Q',s,h,hq=>wCode_mon (c:=body) h fun e s h2=>by
    cases e with
    | normal=>exact hq _ _ h2
    | exit id' =>
      simp only [blockQ] at h2 ⊢
      split
      · rename_i h3;rw [if_pos h3] at h2;exact hq _ _ h2
      · rename_i h3;rw [if_neg h3] at h2;exact hq _ _ h2
    | ret=>exact hq _ _ h2
  | .loop body,Q,Q',s,h,hq=>by
    obtain ⟨n,e,s',h1,h2⟩:=h
    exact ⟨n,e,s',h1,hq _ _ h2⟩
  | .scope body,Q,Q',s,h,hq=>wCode_mon (c:=body) h hq
  | .exit id,Q,Q',s,h,hq=>hq _ _ h
  | .ret,Q,Q',s,h,hq=>hq _ _ h
  | .stuck,Q,Q',s,h,hq=>h
  | .rangeF gg f ps nt,Q,Q',s,h,hq=>by
    simp only [wCode] at h ⊢
    split
    · rename_i h1
      rw [h1] at h
      exact ⟨h.1,h.2.mono fun _ H2 ⟨f2,ps2,fr2,h3,h4⟩=>⟨f2,ps2,fr2,h3,hq _ _ h4⟩⟩
    · rename_i h1
      split at h
      · rename_i h3;exact absurd h3 (h1 _ _ _)
      · exact h
theorem wCond_join {c:Bool}{X Y:VCode}{Q:VExit→St→Prop}{s:St}(P:Fr→Lo→Hp→Prop)(hX:c=true→wCode T lim X (seqQ (fun s'=>P s'.fr s'.L s'.H) Q) s)(hY:c=false→wCode T lim Y (seqQ (fun s'=>P s'.fr s'.L s'.H) Q) s)
    (hR:∀fr L H,P fr L H→Q .normal ⟨fr,L,H⟩):wCond T lim (.bool c) X Y Q s:=by
  have hm:∀e s,seqQ (fun s'=>P s'.fr s'.L s'.H) Q e s→Q e s:=fun e s h=>by
    cases e with
    | normal=>exact hR _ _ _ h
    | exit id=>exact h
    | ret=>exact h
  cases c with
  | true=>exact wCode_mon (hX rfl) hm
  | false=>exact wCode_mon (hY rfl) hm
theorem wSeq_join {A B:VCode}{Q:VExit→St→Prop}{s:St}(P:Fr→Lo→Hp→Prop)(hA:wCode T lim A (seqQ (fun s'=>P s'.fr s'.L s'.H) Q) s)(hR:∀fr L H,P fr L H→wCode T lim B Q ⟨fr,L,H⟩):wCode T lim (.seq A B) Q s :=
  wCode_mon (c:=A) hA fun e s h=>by
    cases e with
    | normal=>exact hR _ _ _ h
    | exit id=>exact h
    | ret=>exact h
end
section
variable {lim:Nat}{H H0:Hp}{K:V→Hp→Prop}{b g:Nat}{l l0:List EQ}{cf:EQ→EQ→Int}{fs cs:List V}
theorem sq_partEq (hs:SqS b H0 l0 l H) (hlim:lim≤b) (hst:allStor fs=true∧allStor cs=true∧g≠3999999) (hc:CmpQ b g fs cs H0 l0 cf) (ho:Ordr cf) {a e v:Nat} (hae:a≤v∧v<e∧e≤l0.length) (hl:l0.length≤100000)
    (hmin:∀k,a≤k→k<e→leC cf (l.getD v default) (l.getD k default))
    (hK:∀H' l' m,SqS b H0 l0 l' H'→PermR a e l l'→(a<m∧m≤e)→(∀p q,a≤p→p<m→p<q→q<e→leC cf (l'.getD p default) (l'.getD q default))→K (.int .i64 (m:Nat)) H'):VCall tbl lim 79 [.sl b 0 l0.length 1,.int .i64 a,.int .i64 e,.int .i64 v,.func (.func g) fs cs] H K:=by
  refine VCall_fn tbl_at79 rfl ?_
  have hn:=hs.n
  have g1:=fun L=>sq_ld hs.row (i:=a) (by omega) (L:=L)
  have g2:=fun L=>sq_ld hs.row (i:=v) (by omega) (L:=L)
  have w1:=fun L=>sq_w1 hs hlim (i:=a) (by omega) (L:=L) (gE l v)
  have w2:=fun L=>sq_w2 hs hlim (i:=a) (j:=v) (by omega) (L:=L)
  have hs1:=hs.swap (i:=a) (j:=v) (by omega) (by omega)
  have hp1:PermR a e l (swp l a v):=swp_perm ⟨by omega,by omega⟩ ⟨by omega,by omega⟩ (by omega)
  have e0:(e:Int)-1=((e-1:Nat):Int):=by omega
  have hm1:=least_swp (cf:=cf) (l:=l) (a:=a) (b:=e) (v:=v) (by omega) (by omega) hmin
  simp (disch:=omega) [vf79,wrap_i64,g1,g2,w1,w2,hst,sq_addr,e0,-viaddrS_in,-vstore,-vload_ptrO]
  refine wLoop_m (n:=(e-a)) (fun m fr L H'=>∃l' i j,(fr 0=.sl b 0 l0.length 1∧fr 1=.int .i64 a∧fr 4=.func (.func g) fs cs∧fr 11=.int .i64 (i:Nat)∧fr 12=.int .i64 (j:Nat))∧L=[]∧SqS b H0 l0 l' H'∧PermR a e l l'∧PeI cf a e i j l'∧j+1-i≤m∧m≤(e-a)) ⟨swp l a v,a+1,e-1,by simp,rfl,hs1,hp1,PeI.start (by omega) hm1,by omega,Nat.le_refl _⟩ ?_
  rintro n fr L H' ⟨l',i,j,⟨f0,f1,f4,f11,f12⟩,rfl,hr,hp,hI,hm,hn2⟩
  simp [f0,f1,f4,f11,f12]
  refine wLoop_post 2 (fun fr L H'=>∃l' i j,(fr 0=.sl b 0 l0.length 1∧fr 1=.int .i64 a∧fr 4=.func (.func g) fs cs∧fr 11=.int .i64 (i:Nat)∧fr 12=.int .i64 (j:Nat))∧L=[]∧SqS b H0 l0 l' H'∧PermR a e l l'∧PeI cf a e i j l'∧j+1-i≤n∧(i≤j→cf (gE l' a) (gE l' i)<0)) ?_ ?_
  · refine wLoop_m (n:=n) (fun m fr L H'=>∃l' i j,(fr 0=.sl b 0 l0.length 1∧fr 1=.int .i64 a∧fr 4=.func (.func g) fs cs∧fr 11=.int .i64 (i:Nat)∧fr 12=.int .i64 (j:Nat))∧L=[]∧SqS b H0 l0 l' H'∧PermR a e l l'∧PeI cf a e i j l'∧j+1-i≤m∧m≤n) ⟨l',i,j,by simp [f0,f1,f4,f11,f12],rfl,hr,hp,hI,hm,Nat.le_refl _⟩ ?_
    clear f0 f1 f4 f11 f12 hr hp hI hm l' i j
    rintro m fr L H' ⟨l',i,j,⟨f0,f1,f4,f11,f12⟩,rfl,hr,hp,hI,hm,hm2⟩
    have hrg:=hI.rng
    have hlen:=hp.len
    by_cases hij:i≤j
    · have hgt:((i:Int)≤(j:Int))=True:=eq_true (by omega)
      have g1:=fun L=>sq_ld hr.row (i:=a) (by omega) (L:=L)
      have g2:=fun L=>sq_ld hr.row (i:=i) (by omega) (L:=L)
      simp (disch:=omega) [f0,f1,f4,f11,f12,hgt,wrap_i64,g1,g2,hst,sq_addr,-viaddrS_in,-vload_ptrO]
      refine hc.at hr (i:=a) (j:=i) (by omega) (by omega) fun H2 x2 hr2 => ?_
      simp
      refine cond_ndec (fun hlt => ?_) fun hlt => ?_
      · simp (disch:=omega) [f0,f1,f4,f11,f12,wrap_i64]
        exact ⟨m-1,by omega,l',i+1,j,by omega,hr2,hp,hI.up hij hlt,by omega,by omega⟩
      · simp [f0,f1,f4,f11,f12]
        exact ⟨l',i,j,by omega,hr2,hp,hI,by omega,fun _=>hlt⟩
    · have hgt:((i:Int)≤(j:Int))=False:=eq_false (by omega)
      simp (disch:=omega) [f0,f1,f4,f11,f12,hgt]
      exact ⟨l',i,j,by omega,hr,hp,hI,by omega,fun h=>absurd h hij⟩
  clear f0 f1 f4 f11 f12 hr hp hI hm l' i j
  rintro fr L H' ⟨l',i,j,⟨f0,f1,f4,f11,f12⟩,rfl,hr,hp,hI,hm,hup⟩
  simp [f0,f1,f4,f11,f12]
  refine wLoop_post 4 (fun fr L H'=>∃l' i j,(fr 0=.sl b 0 l0.length 1∧fr 1=.int .i64 a∧fr 4=.func (.func g) fs cs∧fr 11=.int .i64 (i:Nat)∧fr 12=.int .i64 (j:Nat))∧L=[]∧SqS b H0 l0 l' H'∧PermR a e l l'∧PeI cf a e i j l'∧j+1-i≤n∧(i≤j→cf (gE l' a) (gE l' i)<0)∧(i≤j→¬cf (gE l' a) (gE l' j)<0)) ?_ ?_
  · refine wLoop_m (n:=n) (fun m fr L H'=>∃l' i j,(fr 0=.sl b 0 l0.length 1∧fr 1=.int .i64 a∧fr 4=.func (.func g) fs cs∧fr 11=.int .i64 (i:Nat)∧fr 12=.int .i64 (j:Nat))∧L=[]∧SqS b H0 l0 l' H'∧PermR a e l l'∧PeI cf a e i j l'∧(i≤j→cf (gE l' a) (gE l' i)<0)∧j+1-i≤m∧m≤n) ⟨l',i,j,by simp [f0,f1,f4,f11,f12],rfl,hr,hp,hI,hup,hm,Nat.le_refl _⟩ ?_
    clear f0 f1 f4 f11 f12 hr hp hI hup hm l' i j
    rintro m fr L H' ⟨l',i,j,⟨f0,f1,f4,f11,f12⟩,rfl,hr,hp,hI,hup,hm,hm2⟩
    have hrg:=hI.rng
    have hlen:=hp.len
    by_cases hij:i≤j
    · have hgt:((i:Int)≤(j:Int))=True:=eq_true (by omega)
      have g1:=fun L=>sq_ld hr.row (i:=a) (by omega) (L:=L)
      have g2:=fun L=>sq_ld hr.row (i:=j) (by omega) (L:=L)
      simp (disch:=omega) [f0,f1,f4,f11,f12,hgt,wrap_i64,g1,g2,hst,sq_addr,-viaddrS_in,-vload_ptrO]
      refine hc.at hr (i:=a) (j:=j) (by omega) (by omega) fun H2 x2 hr2 => ?_
      simp
      refine cond_dec (fun hlt => ?_) fun hlt => ?_
      · have e1:(j:Int)-1=((j-1:Nat):Int):=by omega
        simp (disch:=omega) [f0,f1,f4,f11,f12,e1,wrap_i64]
        exact ⟨m-1,by omega,l',i,j-1,by omega,hr2,hp,hI.down hij,fun h=>hup (by omega),by omega,by omega⟩
      · simp [f0,f1,f4,f11,f12]
        exact ⟨l',i,j,by omega,hr2,hp,hI,by omega,hup,fun _=>by omega⟩
    · have hgt:((i:Int)≤(j:Int))=False:=eq_false (by omega)
      simp (disch:=omega) [f0,f1,f4,f11,f12,hgt]
      exact ⟨l',i,j,by omega,hr,hp,hI,by omega,fun h=>absurd h hij,fun h=>absurd h hij⟩
  clear f0 f1 f4 f11 f12 hr hp hI hup hm l' i j
  rintro fr L H' ⟨l',i,j,⟨f0,f1,f4,f11,f12⟩,rfl,hr,hp,hI,hm,hup,hdn⟩
  have hrg:=hI.rng
  have hlen:=hp.len
  by_cases hij:i≤j
  · have hgt:((j:Int)<(i:Int))=False:=eq_false (by omega)
    have hi0:=hup hij
    have hj0:=hdn hij
    have g1:=fun L=>sq_ld hr.row (i:=i) (by omega) (L:=L)
    have g2:=fun L=>sq_ld hr.row (i:=j) (by omega) (L:=L)
    have w1:=fun L=>sq_w1 hr hlim (i:=i) (by omega) (L:=L) (gE l' j)
    have w2:=fun L=>sq_w2 hr hlim (i:=i) (j:=j) (by omega) (L:=L)
    have hr4:=hr.swap (i:=i) (j:=j) (by omega) (by omega)
    have hps:=hp.trans (swp_perm (l:=l') (i:=i) (j:=j) (a:=a) (b:=e) ⟨by omega,by omega⟩ ⟨by omega,by omega⟩ (by omega))
    have hI2:=hI.swap ho hij (by omega) hi0 hj0
    have hrg2:=hI2.rng
    have e1:(j:Int)-1=((j-1:Nat):Int):=by omega
    simp (disch:=omega) [f0,f1,f4,f11,f12,hgt,e1,wrap_i64,g1,g2,w1,w2,hst,sq_addr,-viaddrS_in,-vstore,-vload_ptrO]
    exact ⟨n-1,by omega,_,i+1,j-1,by omega,hr4,hps,hI2,by omega,by omega⟩
  · have hgt:((j:Int)<(i:Int))=True:=eq_true (by omega)
    simp [f0,f1,f4,f11,f12,hgt]
    exact hK _ _ i hr hp (by omega) (hI.done ho)
end
end Go.Proofs.YtiilicnmcpjmkaaGreatDoor.Vm
namespace Go.Proofs.YtiilicnmcpjmkaaGreatDoor.Vm
open Go
set_option maxRecDepth 100000
set_option maxHeartbeats 1000000
set_option linter.unusedSimpArgs false
set_option linter.unusedVariables false
attribute [-simp] List.getD_eq_getElem?_getD
section
variable {lim:Nat}{H H0:Hp}{K:V→Hp→Prop}{b g:Nat}{l l0:List EQ}{cf:EQ→EQ→Int}{fs cs:List V}
theorem sq_pis (hs:SqS b H0 l0 l H) (hlim:lim≤b) (hst:allStor fs=true∧allStor cs=true∧g≠3999999) (hc:CmpQ b g fs cs H0 l0 cf) (ho:Ordr cf) {a e:Nat} (hae:a<e∧e≤l0.length) (hl:l0.length≤100000) (hg:GdR cf a e l)
    (hK:∀H' l' ok,SqS b H0 l0 l' H'→PermR a e l l'→(ok=true→SortR cf a e l')→K (.bool ok) H'):VCall tbl lim 78 [.sl b 0 l0.length 1,.int .i64 a,.int .i64 e,.func (.func g) fs cs] H K:=by
  refine VCall_fn tbl_at78 rfl ?_
  have hn:=hs.n
  simp (disch:=omega) [vf78,wrap_i64]
  refine wLoop_up 5 (fun c fr L H'=>∃l' i,(fr 0=.sl b 0 l0.length 1∧fr 1=.int .i64 a∧fr 2=.int .i64 e∧fr 3=.func (.func g) fs cs∧fr 9=.int .i64 (i:Nat)∧fr 10=.int .i64 (c:Nat))∧L=[]∧SqS b H0 l0 l' H'∧PermR a e l l'∧(a+1≤i∧i≤e)∧SortR cf a i l') ⟨l,a+1,by simp,rfl,hs,PermR.refl,by omega,SortR.one (by omega)⟩ ?_
  rintro c hc5 fr L H' ⟨l',i,⟨f0,f1,f2,f3,f9,f10⟩,rfl,hr,hp,hi,hso⟩
  simp [f0,f1,f2,f3,f9,f10]
  refine cond_dec (fun ht => ?_) fun ht => ?_
  case refine_2 =>
    simp
    exact hK _ _ false hr hp (fun h=>by cases h)
  simp [f0,f1,f2,f3,f9,f10]
  refine wLoop_post 2 (fun fr L H'=>∃l' i,(fr 0=.sl b 0 l0.length 1∧fr 1=.int .i64 a∧fr 2=.int .i64 e∧fr 3=.func (.func g) fs cs∧fr 9=.int .i64 (i:Nat)∧fr 10=.int .i64 (c:Nat))∧L=[]∧SqS b H0 l0 l' H'∧PermR a e l l'∧(a+1≤i∧i≤e)∧SortR cf a i l'∧(i<e→cf (gE l' i) (gE l' (i-1))<0)) ?_ ?_
  · refine wLoop_m (n:=e-i) (fun m fr L H'=>∃l' i,(fr 0=.sl b 0 l0.length 1∧fr 1=.int .i64 a∧fr 2=.int .i64 e∧fr 3=.func (.func g) fs cs∧fr 9=.int .i64 (i:Nat)∧fr 10=.int .i64 (c:Nat))∧L=[]∧SqS b H0 l0 l' H'∧PermR a e l l'∧(a+1≤i∧i≤e)∧SortR cf a i l'∧m=e-i) ⟨l',i,by simp [f0,f1,f2,f3,f9,f10],rfl,hr,hp,hi,hso,rfl⟩ ?_
    clear f0 f1 f2 f3 f9 f10 hr hp hi hso l' i
    rintro m fr L H' ⟨l',i,⟨f0,f1,f2,f3,f9,f10⟩,rfl,hr,hp,hi,hso,hm⟩
    have hlen:=hp.len
    by_cases hie:i<e
    · have hgt:((i:Int)<(e:Int))=True:=eq_true (by omega)
      have e1:((i:Int)-1).toNat=i-1:=by omega
      have g1:=fun L=>sq_ld hr.row (i:=i) (by omega) (L:=L)
      have g2:=fun L=>sq_ld hr.row (i:=i-1) (by omega) (L:=L)
      simp (disch:=omega) [f0,f1,f2,f3,f9,f10,hgt,e1,wrap_i64,g1,g2,hst,sq_addr,-viaddrS_in,-vload_ptrO]
      refine hc.at hr (i:=i) (j:=i-1) (by omega) (by omega) fun H2 x2 hr2 => ?_
      simp
      refine cond_ndec (fun hlt => ?_) fun hlt => ?_
      · simp (disch:=omega) [f0,f1,f2,f3,f9,f10,wrap_i64]
        exact ⟨m-1,by omega,l',i+1,by omega,hr2,hp,by omega,hso.next ho (by omega) hlt,by omega⟩
      · simp [f0,f1,f2,f3,f9,f10]
        exact ⟨l',i,by omega,hr2,hp,by omega,hso,fun _=>hlt⟩
    · have hgt:((i:Int)<(e:Int))=False:=eq_false (by omega)
      simp (disch:=omega) [f0,f1,f2,f3,f9,f10,hgt]
      exact ⟨l',i,by omega,hr,hp,by omega,hso,fun h=>absurd h hie⟩
  clear f0 f1 f2 f3 f9 f10 hr hp hi hso l' i
  rintro fr L H' ⟨l',i,⟨f0,f1,f2,f3,f9,f10⟩,rfl,hr,hp,hi,hso,hlt⟩
  have hlen:=hp.len
  simp [f0,f1,f2,f3,f9,f10]
  by_cases hie:i=e
  · subst hie
    simp
    exact hK _ _ true hr hp fun _=>hso
  have hie2:((i:Int)=(e:Int))=False:=eq_false (by omega)
  replace hlt:=hlt (by omega)
  simp (disch:=omega) [hie,hie2,f0,f1,f2,f3,f9,f10,wrap_i64]
  refine cond_dec (fun h50 => ?_) fun h50 => ?_
  · simp
    exact hK _ _ false hr hp (fun h=>by cases h)
  have e1:((i:Int)-1).toNat=i-1:=by omega
  have g1:=fun L=>sq_ld hr.row (i:=i) (by omega) (L:=L)
  have g2:=fun L=>sq_ld hr.row (i:=i-1) (by omega) (L:=L)
  have w1:=fun L=>sq_w1 hr hlim (i:=i) (by omega) (L:=L) (gE l' (i-1))
  have w2:=fun L=>sq_w2 hr hlim (i:=i) (j:=i-1) (by omega) (L:=L)
  have hr4:=hr.swap (i:=i) (j:=i-1) (by omega) (by omega)
  have hps:=hp.trans (swp_perm (l:=l') (i:=i) (j:=i-1) (a:=a) (b:=e) ⟨by omega,by omega⟩ ⟨by omega,by omega⟩ (by omega))
  have hso1:SortR cf a (i-1) (swp l' i (i-1)):=SortR.keep (fun p q h1 h2 h3=>hso p q h1 h2 (by omega)) fun k hk=>by rw [swp_get (by omega) (by omega),if_neg (by omega),if_neg (by omega)]
  simp (disch:=omega) [f0,f1,f2,f3,f9,f10,e1,wrap_i64,g1,g2,w1,w2,hst,sq_addr,-viaddrS_in,-vstore,-vload_ptrO]
  generalize swp l' i (i-1)=l1 at *
  generalize H'.set b (rowB l1)=H1 at *
  clear g1 g2 w1 w2 hr hp hso hlt hlen
  refine wCond_join (fun fr L H'=>∃l',(fr 0=.sl b 0 l0.length 1∧fr 1=.int .i64 a∧fr 2=.int .i64 e∧fr 3=.func (.func g) fs cs∧fr 9=.int .i64 (i:Nat)∧fr 10=.int .i64 (c:Nat))∧L=[]∧SqS b H0 l0 l' H'∧PermR a e l l'∧SortR cf a i l') (fun h2 => ?_) (fun h2 => ?_) ?_
  · simp (disch:=omega) [f0,f1,f2,f3,f9,f10,wrap_i64]
    refine wLoop_m (n:=i-1) (fun m fr L H'=>∃l',(fr 0=.sl b 0 l0.length 1∧fr 1=.int .i64 a∧fr 2=.int .i64 e∧fr 3=.func (.func g) fs cs∧fr 9=.int .i64 (i:Nat)∧fr 10=.int .i64 (c:Nat)∧fr 11=.int .i64 (m:Nat))∧L=[]∧SqS b H0 l0 l' H'∧PermR a e l l'∧InsR cf a (i-1) m l'∧a≤m∧m≤i-1) ⟨l1,by simp [f0,f1,f2,f3,f9,f10];omega,rfl,hr4,hps,InsR.start hso1,by omega,Nat.le_refl _⟩ ?_
    clear f0 f1 f2 f3 f9 f10
    rintro m fr L H' ⟨l',⟨f0,f1,f2,f3,f9,f10,f11⟩,rfl,hr,hp,hI,ha,hm⟩
    have hlen:=hp.len
    simp [f0,f1,f2,f3,f9,f10,f11]
    refine cond_dec (fun h1 => ?_) fun h1 => ?_
    · have e2:((m:Int)-1).toNat=m-1:=by omega
      have g1:=fun L=>sq_ld hr.row (i:=m) (by omega) (L:=L)
      have g2:=fun L=>sq_ld hr.row (i:=m-1) (by omega) (L:=L)
      simp (disch:=omega) [f0,f1,f2,f3,f9,f10,f11,e2,wrap_i64,g1,g2,hst,sq_addr,-viaddrS_in,-vload_ptrO]
      refine hc.at hr (i:=m) (j:=m-1) (by omega) (by omega) fun H2 x2 hr2 => ?_
      simp
      refine cond_ndec (fun hlt => ?_) fun hlt => ?_
      · have hd:=hI.done ho ha hm (Or.inr hlt)
        rw [show i-1+1=i by omega] at hd
        simp [f0,f1,f2,f3,f9,f10]
        exact ⟨l',hr2,hp,hd⟩
      · have ham:a<m:=by
          apply Classical.byContradiction
          intro hn2
          have:m=a:=by omega
          subst this
          exact hg.perm hp (Nat.le_refl _) (Nat.le_refl _) (by omega) (by omega) m (Nat.le_refl _) (by omega) hlt
        have g1:=fun L=>sq_ld hr2.row (i:=m) (by omega) (L:=L)
        have g2:=fun L=>sq_ld hr2.row (i:=m-1) (by omega) (L:=L)
        have w1:=fun L=>sq_w1 hr2 hlim (i:=m) (by omega) (L:=L) (gE l' (m-1))
        have w2:=fun L=>sq_w2 hr2 hlim (i:=m) (j:=m-1) (by omega) (L:=L)
        have hr5:=hr2.swap (i:=m) (j:=m-1) (by omega) (by omega)
        have hsw:=InsR.swap ho hI (by omega) (by omega) (by omega) hlt
        have hps5:=hp.trans (swp_perm (l:=l') (i:=m) (j:=m-1) (a:=a) (b:=e) ⟨by omega,by omega⟩ ⟨by omega,by omega⟩ (by omega))
        have e3:(m:Int)-1=((m-1:Nat):Int):=by omega
        simp (disch:=omega) [f0,f1,f2,f3,f9,f10,f11,e2,wrap_i64,g1,g2,w1,w2,sq_addr,-viaddrS_in,-vstore,-vload_ptrO]
        exact ⟨m-1,by omega,by omega,swp l' m (m-1),hr5,hps5,hsw,by omega,by omega⟩
    · have hd:=hI.done ho ha hm (Or.inl (by omega))
      rw [show i-1+1=i by omega] at hd
      simp [f0,f1,f2,f3,f9,f10]
      exact ⟨l',hr,hp,hd⟩
  · simp [f0,f1,f2,f3,f9,f10]
    exact ⟨l1,hr4,hps,SortR.one (by simp at h2;omega)⟩
  clear f0 f1 f2 f3 f9 f10 hr4 hps hso1 l1 H1
  rintro fr L H' ⟨l',⟨f0,f1,f2,f3,f9,f10⟩,rfl,hr,hp,hso⟩
  simp (disch:=omega) [f0,f1,f2,f3,f9,f10,wrap_i64]
  refine wCond_join (fun fr L H'=>∃l',(fr 0=.sl b 0 l0.length 1∧fr 1=.int .i64 a∧fr 2=.int .i64 e∧fr 3=.func (.func g) fs cs∧fr 9=.int .i64 (i:Nat)∧fr 10=.int .i64 (c:Nat))∧L=[]∧SqS b H0 l0 l' H'∧PermR a e l l'∧SortR cf a i l') (fun h2 => ?_) (fun h2 => ?_) ?_
  · simp (disch:=omega) [f0,f1,f2,f3,f9,f10,wrap_i64]
    refine wLoop_up (e-(i+1)) (fun m fr L H'=>∃l',(fr 0=.sl b 0 l0.length 1∧fr 1=.int .i64 a∧fr 2=.int .i64 e∧fr 3=.func (.func g) fs cs∧fr 9=.int .i64 (i:Nat)∧fr 10=.int .i64 (c:Nat)∧fr 12=.int .i64 ((i+1+m:Nat):Int))∧L=[]∧SqS b H0 l0 l' H'∧PermR a e l l'∧SortR cf a i l') ⟨l',by simp [f0,f1,f2,f3,f9,f10],rfl,hr,hp,hso⟩ ?_
    clear f0 f1 f2 f3 f9 f10 hr hp hso l'
    rintro m hm fr L H' ⟨l',⟨f0,f1,f2,f3,f9,f10,f12⟩,rfl,hr,hp,hso⟩
    have hlen:=hp.len
    simp [f0,f1,f2,f3,f9,f10,f12]
    refine cond_dec (fun h1 => ?_) fun h1 => ?_
    · have e2:((i:Int)+1+(m:Int)).toNat=i+1+m:=by omega
      have e3:((i:Int)+1+(m:Int)-1).toNat=i+m:=by omega
      have g1:=fun L=>sq_ld hr.row (i:=i+1+m) (by omega) (L:=L)
      have g2:=fun L=>sq_ld hr.row (i:=i+m) (by omega) (L:=L)
      simp (disch:=omega) [f0,f1,f2,f3,f9,f10,f12,e2,e3,wrap_i64,g1,g2,hst,sq_addr,-viaddrS_in,-vload_ptrO]
      refine hc.at hr (i:=i+1+m) (j:=i+m) (by omega) (by omega) fun H2 x2 hr2 => ?_
      simp
      refine cond_ndec (fun hlt => ?_) fun hlt => ?_
      · simp [f0,f1,f2,f3,f9,f10]
        exact ⟨l',hr2,hp,hso⟩
      · have g1:=fun L=>sq_ld hr2.row (i:=i+1+m) (by omega) (L:=L)
        have g2:=fun L=>sq_ld hr2.row (i:=i+m) (by omega) (L:=L)
        have w1:=fun L=>sq_w1 hr2 hlim (i:=i+1+m) (by omega) (L:=L) (gE l' (i+m))
        have w2:=fun L=>sq_w2 hr2 hlim (i:=i+1+m) (j:=i+m) (by omega) (L:=L)
        have hr5:=hr2.swap (i:=i+1+m) (j:=i+m) (by omega) (by omega)
        have hps5:=hp.trans (swp_perm (l:=l') (i:=i+1+m) (j:=i+m) (a:=a) (b:=e) ⟨by omega,by omega⟩ ⟨by omega,by omega⟩ (by omega))
        have hso5:SortR cf a i (swp l' (i+1+m) (i+m)):=hso.keep fun k hk=>by rw [swp_get (by omega) (by omega),if_neg (by omega),if_neg (by omega)]
        simp (disch:=omega) [f0,f1,f2,f3,f9,f10,f12,e2,e3,wrap_i64,g1,g2,w1,w2,sq_addr,-viaddrS_in,-vstore,-vload_ptrO]
        exact ⟨by omega,by omega,_,hr5,hps5,hso5⟩
    · simp [f0,f1,f2,f3,f9,f10]
      exact ⟨l',hr,hp,hso⟩
  · simp [f0,f1,f2,f3,f9,f10]
    exact ⟨l',hr,hp,hso⟩
  clear f0 f1 f2 f3 f9 f10 hr hp hso l'
  rintro fr L H' ⟨l',⟨f0,f1,f2,f3,f9,f10⟩,rfl,hr,hp,hso⟩
  simp (disch:=omega) [f0,f1,f2,f3,f9,f10,wrap_i64]
  exact ⟨by omega,l',i,by omega,hr,hp,by omega,hso⟩
def powChk (r:Option (V×Hp))(x:Nat):Bool:=match r with
  | some (.int .u64 m,[])=>decide (0≤m∧(x:Int)<m∧m≤2*(x:Int))||decide (x=0)
  | _=>false
def lenChk (r:Option (V×Hp)):Bool:=match r with
  | some (.int .i64 m,[])=>decide (0≤m∧m≤100)
  | _=>false
theorem pow_all:(List.range 256).all (fun x=>powChk (evFn (cloT tbl) 60 0 99 [.int .i64 x] []) x)=true:=by kernel_rfl
theorem len_all:(List.range 256).all (fun x=>lenChk (evFn (cloT tbl) 60 0 61 [.int .u64 x] []))=true:=by kernel_rfl
theorem sq_pow {x:Nat}(hx:0<x∧x<256)(hlim:lim≤H.length)(hK:∀m:Nat,x<m→m≤2*x→K (.int .u64 m) H):VCall tbl lim 99 [.int .i64 x] H K:=by
  have h:=List.all_eq_true.1 pow_all x (List.mem_range.2 hx.2)
  cases hr:evFn (cloT tbl) 60 0 99 [.int .i64 x] [] with
  | none=>rw [hr] at h;cases h
  | some r =>
    obtain ⟨v,H1⟩:=r
    rw [hr] at h
    unfold powChk at h
    split at h
    · rename_i m he
      cases he
      have:=evFn_sh (G:=H) tbl ShT.clo 60 0 lim _ _ [] _ _ (by omega) hr
      have e:shH H []=H:=by simp [shH]
      rw [e] at this
      simp at h
      refine ⟨60,.int .u64 m,H,by simpa [shs,sh] using this,?_⟩
      have e2:m=((m.toNat:Nat):Int):=by omega
      rw [e2]
      exact hK _ (by omega) (by omega)
    · cases h
theorem sq_bits {x:Nat}(hx:x<256)(hlim:lim≤H.length)(hK:∀m:Nat,m≤100→K (.int .i64 m) H):VCall tbl lim 61 [.int .u64 x] H K:=by
  have h:=List.all_eq_true.1 len_all x (List.mem_range.2 hx)
  cases hr:evFn (cloT tbl) 60 0 61 [.int .u64 x] [] with
  | none=>rw [hr] at h;cases h
  | some r =>
    obtain ⟨v,H1⟩:=r
    rw [hr] at h
    unfold lenChk at h
    split at h
    · rename_i m he
      cases he
      have:=evFn_sh (G:=H) tbl ShT.clo 60 0 lim _ _ [] _ _ (by omega) hr
      have e:shH H []=H:=by simp [shH]
      rw [e] at this
      simp at h
      refine ⟨60,.int .i64 m,H,by simpa [shs,sh] using this,?_⟩
      have e2:m=((m.toNat:Nat):Int):=by omega
      rw [e2]
      exact hK _ (by omega)
    · cases h
theorem shl_u {a:Int}:vbin .shl (.int .u64 a) (.int .u64 13)=some (.int .u64 (IntKind.wrap .u64 (a*2 ^ 13))):=Eq.trans rfl rfl
theorem shl_u2 {a:Int}:vbin .shl (.int .u64 a) (.int .u64 17)=some (.int .u64 (IntKind.wrap .u64 (a*2 ^ 17))):=Eq.trans rfl rfl
theorem shr_u {a:Int}:vbin .shr (.int .u64 a) (.int .u64 7)=some (.int .u64 (a.fdiv (2 ^ 7))):=Eq.trans rfl rfl
theorem su_ld {s:Nat}{w:Int}(h:H[s]? = some (.row [.int .u64 w] true)){L:Lo}:vload none L H (.ptr s 0)=some (.int .u64 w):=by
  rw [vload_ptr h];rfl
theorem su_st {s:Nat}{r:Blk}{z w:Int}(h:H[s]? = some (.row [.int .u64 w] true))(hl:lim≤s){L:Lo}:vstore lim L H (.ptr s 0) (.int .u64 z) 1=some (L,H.set s (.row [.int .u64 z] true)):=by
  simp [vstore,vstoreH,h,hl,splice]
theorem sq_next {s:Nat}{w:Int}(h:H[s]? = some (.row [.int .u64 w] true))(hl:lim≤s)(hK:∀z,K (.int .u64 z) (H.set s (.row [.int .u64 z] true))):VCall tbl lim 100 [.ptr s 0] H K:=by
  refine VCall_fn tbl_at100 rfl ?_
  have hb:=(List.getElem?_eq_some_iff.1 h).1
  have ld:=fun L=>su_ld h (L:=L)
  have st:=fun L z=>su_st (lim:=lim) (r:=.row [] true) h hl (L:=L) (z:=z)
  have row:∀z,(H.set s (.row [.int .u64 z] true))[s]? = some (.row [.int .u64 z] true):=fun z=>by simp [hb]
  have ld2:=fun z L=>su_ld (row z) (L:=L)
  have st2:∀y z L,vstore lim L (H.set s (.row [.int .u64 y] true)) (.ptr s 0) (.int .u64 z) 1=some (L,H.set s (.row [.int .u64 z] true)):=fun y z L=>by
    rw [su_st (r:=.row [] true) (row y) hl,List.set_set]
  simp [vf100,ld,st,ld2,st2,shl_u,shl_u2,shr_u,vbin_xor,-vstore,-vload_ptrO]
  exact hK _
end
end Go.Proofs.YtiilicnmcpjmkaaGreatDoor.Vm
namespace Go.Proofs.YtiilicnmcpjmkaaGreatDoor.Vm
open Go
set_option maxRecDepth 100000
set_option maxHeartbeats 1000000
set_option linter.unusedSimpArgs false
set_option linter.unusedVariables false
attribute [-simp] List.getD_eq_getElem?_getD
theorem and_lt {x:Int}{m:Nat}(hm:0<m∧m<1000):∃o:Nat,o<m∧vbin .and (.int .u64 x) (.int .u64 ((m:Int)-1))=some (.int .u64 o):=by
  have h2:(BitVec.ofInt 64 ((m:Int)-1)).toNat=m-1:=by
    rw [BitVec.toNat_ofInt];omega
  have h1:(BitVec.ofInt 64 x &&& BitVec.ofInt 64 ((m:Int)-1)).toNat≤m-1:=by
    rw [BitVec.toNat_and,h2];exact Nat.and_le_right
  refine ⟨(BitVec.ofInt 64 x &&& BitVec.ofInt 64 ((m:Int)-1)).toNat,by omega,?_⟩
  rw [vbin_and]
  have:IntKind.wrap .u64 (((BitVec.ofInt (IntKind.bits .u64) x &&& BitVec.ofInt (IntKind.bits .u64) ((m:Int)-1)).toNat:Nat):Int)=((BitVec.ofInt 64 x &&& BitVec.ofInt 64 ((m:Int)-1)).toNat:Nat):=by
    show IntKind.wrap .u64 (((BitVec.ofInt 64 x &&& BitVec.ofInt 64 ((m:Int)-1)).toNat:Nat):Int)=_
    generalize (BitVec.ofInt 64 x &&& BitVec.ofInt 64 ((m:Int)-1)).toNat=o at *
    simp [IntKind.wrap,IntKind.bits,IntKind.signed];omega
  rw [this]
theorem wrap_u64 {n:Int}(h:0≤n∧n<1000000):IntKind.wrap .u64 n=n:=by
  simp [IntKind.wrap,IntKind.bits,IntKind.signed];omega
section
variable {lim:Nat}{H H0:Hp}{K:V→Hp→Prop}{b g:Nat}{l l0:List EQ}{cf:EQ→EQ→Int}{fs cs:List V}
theorem sq_break (hs:SqS b H0 l0 l H)(hlim:lim≤b){a e:Nat}{f:V}(hf:stor f=true)(hae:a+8≤e∧e≤l0.length)(hl:l0.length<256)
    (hK:∀H' l',SqS b H0 l0 l' H'→PermR a e l l'→K (.tup []) H'):VCall tbl lim 75 [.sl b 0 l0.length 1,.int .i64 a,.int .i64 e,f] H K:=by
  refine VCall_fn tbl_at75 rfl ?_
  have hn:=hs.n
  have hb:=hs.blt
  have hle:=hs.len
  obtain ⟨d,rfl⟩:∃d,e=a+d:=⟨e-a,by omega⟩
  have e0:(a:Int)+(d:Int)-(a:Int)=(d:Int):=by omega
  have e8:((8:Int)≤(d:Int))=True:=eq_true (by omega)
  have eq4:(d:Int).tdiv 4=((d / 4:Nat):Int):=tdiv_nat _ 4
  have hd4:2*(d / 4)≤d / 2∧2≤d / 4∧4*(d / 4)≤d:=by omega
  have wu:∀k:Nat,k<256→IntKind.wrap .u64 (k:Int)=k:=fun k hk=>wrap_u64 (by omega)
  have stn:∀L,vstore lim L (H++[Blk.row [V.int .u64 0] true]) (.ptr H.length 0) (.int .u64 d) 1=some (L,H++[Blk.row [V.int .u64 d] true]):=fun L=>by
    rw [su_st (r:=.row [] true) (w:=0) (by simp) (by omega)];simp
  simp (disch:=omega) [vf75,wrap_i64,e0,e8,eq4,wu,stn,-vstore]
  have row1:(H++[Blk.row [V.int .u64 d] true])[H.length]? = some (.row [.int .u64 d] true):=by simp
  have hs1:SqS b H0 l0 l (H++[Blk.row [V.int .u64 d] true]):=hs.grow HX.push
  have hl1:H.length<(H++[Blk.row [V.int .u64 d] true]).length:=by simp
  generalize H++[Blk.row [V.int .u64 d] true]=H1 at *
  refine sq_pow (x:=d) (by omega) (by omega) fun m hm1 hm2 => ?_
  simp (disch:=omega) [wrap_i64,e0,e8,eq4]
  refine wLoop_up 3 (fun i fr L H'=>∃l' w,(fr 0=.sl b 0 l0.length 1∧fr 1=.int .i64 a∧fr 8=.int .i64 d∧fr 9=.ptr H.length 0∧fr 10=.int .u64 m∧fr 11=.int .i64 ((a+(d / 4*2-1)+i:Nat):Int))∧L=[]∧SqS b H0 l0 l' H'∧H'[H.length]? = some (.row [.int .u64 w] true)∧PermR a (a+d) l l') ⟨l,d,by simp;omega,rfl,hs1,row1,PermR.refl⟩ ?_
  rintro i hi fr L H' ⟨l',w,⟨f0,f1,f8,f9,f10,f11⟩,rfl,hr,hw,hp⟩
  have hlen:=hp.len
  simp (disch:=omega) [f0,f1,f8,f9,f10,f11,eq4,wrap_i64]
  refine cond_dec (fun ht => ?_) fun ht => ?_
  · have hi2:i<3:=by omega
    simp [f0,f1,f8,f9,f10,f11]
    refine sq_next hw (by omega) fun z => ?_
    have hr2:=hr.aside (s:=H.length) (r:=.row [.int .u64 z] true) hle
    have hw2:(H'.set H.length (.row [.int .u64 z] true))[H.length]? = some (.row [.int .u64 z] true):=by
      rw [List.getElem?_set_self (List.getElem?_eq_some_iff.1 hw).1]
    generalize H'.set H.length (.row [.int .u64 z] true)=H2 at *
    obtain ⟨o,ho,hand⟩:=and_lt (x:=z) (m:=m) (by omega)
    have wm:IntKind.wrap .u64 ((m:Int)-1)=(m:Int)-1:=wrap_u64 (by omega)
    simp (disch:=omega) [f0,f1,f8,f9,f10,f11,wm,hand,wrap_i64]
    refine wCond_join (fun fr L H'=>∃o:Nat,(fr 0=.sl b 0 l0.length 1∧fr 1=.int .i64 a∧fr 8=.int .i64 d∧fr 9=.ptr H.length 0∧fr 10=.int .u64 m∧fr 11=.int .i64 ((a+(d / 4*2-1)+i:Nat):Int)∧fr 12=.int .i64 (o:Nat))∧L=[]∧H'=H2∧o<d) (fun h => ?_) (fun h => ?_) ?_
    · simp at h
      simp (disch:=omega) [f0,f1,f8,f9,f10,f11,wrap_i64]
      exact ⟨o-d,by omega,by omega⟩
    · simp at h
      simp [f0,f1,f8,f9,f10,f11]
      exact ⟨o,rfl,by omega⟩
    clear f0 f1 f8 f9 f10 f11
    rintro fr L H3 ⟨q,⟨f0,f1,f8,f9,f10,f11,f12⟩,rfl,rfl,hq⟩
    have e1:((a:Int)+((d / 4*2-1:Nat):Int)+(i:Int)).toNat=a+(d / 4*2-1)+i:=by omega
    have e2:((a:Int)+(q:Int)).toNat=a+q:=by omega
    have g1:=fun L=>sq_ld hr2.row (i:=a+(d / 4*2-1)+i) (by omega) (L:=L)
    have g2:=fun L=>sq_ld hr2.row (i:=a+q) (by omega) (L:=L)
    have w1:=fun L=>sq_w1 hr2 hlim (i:=a+(d / 4*2-1)+i) (by omega) (L:=L) (gE l' (a+q))
    have w2:=fun L=>sq_w2 hr2 hlim (i:=a+(d / 4*2-1)+i) (j:=a+q) (by omega) (L:=L)
    have hr5:=hr2.swap (i:=a+(d / 4*2-1)+i) (j:=a+q) (by omega) (by omega)
    have hps5:=hp.trans (swp_perm (l:=l') (i:=a+(d / 4*2-1)+i) (j:=a+q) (a:=a) (b:=a+d) ⟨by omega,by omega⟩ ⟨by omega,by omega⟩ (by omega))
    have hw5:(H3.set b (rowB (swp l' (a+(d / 4*2-1)+i) (a+q))))[H.length]? = some (.row [.int .u64 z] true):=by
      rw [List.getElem?_set_ne (by omega)];exact hw2
    simp (disch:=omega) [f0,f1,f8,f9,f10,f11,f12,e1,e2,wrap_i64,g1,g2,w1,w2,sq_addr,-viaddrS_in,-vstore,-vload_ptrO]
    exact ⟨by omega,by omega,_,hr5,⟨z,hw2⟩,hps5⟩
  · simp
    exact hK _ _ hr hp
theorem sq_choose (hs:SqS b H0 l0 l H)(hlim:lim≤b)(hst:allStor fs=true∧allStor cs=true∧g≠3999999)(hc:CmpQ b g fs cs H0 l0 cf){a e:Nat}(hae:a+8≤e∧e≤l0.length)(hl:l0.length≤100000)
    (hK:∀H' (v h:Nat),SqS b H0 l0 l H'→(a≤v∧v<e)→K (.tup [.int .i64 (v:Nat),.int .i64 (h:Nat)]) H'):VCall tbl lim 76 [.sl b 0 l0.length 1,.int .i64 a,.int .i64 e,.func (.func g) fs cs] H K:=by
  refine VCall_fn tbl_at76 rfl ?_
  have hn:=hs.n
  have hb:=hs.blt
  have hle:=hs.len
  obtain ⟨d,rfl⟩:∃d,e=a+d:=⟨e-a,by omega⟩
  have e0:(a:Int)+(d:Int)-(a:Int)=(d:Int):=by omega
  have e8:((8:Int)≤(d:Int))=True:=eq_true (by omega)
  obtain ⟨q,eq4,hd4⟩:∃q:Nat,(d:Int).tdiv 4=(q:Int)∧4*q≤d∧d≤4*q+3:=⟨d / 4,tdiv_nat _ 4,by omega,by omega⟩
  simp (disch:=omega) [vf76,wrap_i64,e0,e8,eq4]
  have row1:(H++[Blk.row [V.int .i64 0] true])[H.length]? = some (.row [.int .i64 0] true):=by simp
  have hs1:SqS b H0 l0 l (H++[Blk.row [V.int .i64 0] true]):=hs.grow HX.push
  generalize H++[Blk.row [V.int .i64 0] true]=H1 at *
  generalize H.length=sw at *
  refine wCond_join (fun fr L H'=>∃i j k w,(fr 0=.sl b 0 l0.length 1∧fr 3=.func (.func g) fs cs∧fr 11=.ptr sw 0∧fr 12=.int .i64 (i:Nat)∧fr 13=.int .i64 (j:Nat)∧fr 14=.int .i64 (k:Nat))∧L=[]∧SqS b H0 l0 l H'∧H'[sw]? = some (.row [.int .i64 w] true)∧(a≤i∧i<a+d)∧(a≤j∧j<a+d)∧a≤k∧k<a+d) (fun h => ?_) (fun h => ?_) ?_
  · simp at h
    have c1:(a:Int)+(q:Int)=((a+q:Nat):Int):=by omega
    have c2:(a:Int)+(q:Int)*2=((a+q*2:Nat):Int):=by omega
    have c3:(a:Int)+(q:Int)*3=((a+q*3:Nat):Int):=by omega
    simp only [c1,c2,c3]
    generalize hi:a+q=i at *
    generalize hj:a+q*2=j at *
    generalize hk:a+q*3=k at *
    simp [hst]
    refine sq_medianAdj hs1 hlim hst hc row1 hle (x:=i) (by omega) hl fun H2 w2 r2 hs2 row2 h2 => ?_
    simp [hst]
    refine sq_medianAdj hs2 hlim hst hc row2 hle (x:=j) (by omega) hl fun H3 w3 r3 hs3 row3 h3 => ?_
    simp [hst]
    refine sq_medianAdj hs3 hlim hst hc row3 hle (x:=k) (by omega) hl fun H4 w4 r4 hs4 row4 h4 => ?_
    simp
    exact ⟨r2,r3,r4,by omega,hs4,⟨w4,row4⟩,by omega,by omega,by omega,by omega⟩
  · simp
    exact ⟨a+q,a+q*2,a+q*3,by omega,hs1,⟨0,row1⟩,by omega,by omega,by omega,by omega⟩
  rintro fr L H2 ⟨i,j,k,w,⟨f0,f3,f11,f12,f13,f14⟩,rfl,hs2,row2,hi,hj,hk⟩
  simp [f0,f3,f11,f12,f13,f14,hst]
  refine sq_median hs2 hlim hst hc row2 hle (x:=i) (y:=j) (z:=k) (by omega) (by omega) (by omega) fun H3 w3 r hs3 row3 h3 => ?_
  have ld:=fun L=>sw_ld row3 (L:=L)
  simp [f0,f3,f11,f12,f13,f14,ld,-vload_ptrO]
  refine cond_dec (fun h => ?_) fun h => ?_
  · simp
    exact hK _ r 1 hs3 (by omega)
  simp
  refine cond_dec (fun h => ?_) fun h => ?_
  · simp
    exact hK _ r 2 hs3 (by omega)
  · simp
    exact hK _ r 0 hs3 (by omega)
theorem sq_pdq (hc:CmpQ b g fs cs H0 l0 cf) (ho:Ordr cf) (hst:allStor fs=true∧allStor cs=true∧g≠3999999) (hlim:lim≤b) (hl:l0.length<256):∀(n:Nat) {H:Hp} {l:List EQ} {a e:Nat} {lm:Nat} {K:V→Hp→Prop},e-a≤n→SqS b H0 l0 l H→(a≤e∧e≤l0.length)→lm≤1000→GdR cf a e l →
    (∀H' l',SqS b H0 l0 l' H'→PermR a e l l'→SortR cf a e l'→K (.tup []) H')→VCall tbl lim 60 [.sl b 0 l0.length 1,.int .i64 a,.int .i64 e,.int .i64 lm,.func (.func g) fs cs] H K:=by
  intro n
  induction n using Nat.strongRecOn with
  | ind n ih =>
  intro H l a e lm K hn hs hae hlm hg hK
  have hb:=hs.blt
  refine VCall_fn tbl_at60 rfl ?_
  have hln:=hs.n
  simp [vf60]
  refine wLoop_m (n:=e-a) (fun m fr L H'=>∃l' a' e' lm wb wp,(fr 0=.sl b 0 l0.length 1∧fr 1=.int .i64 (a':Nat)∧fr 2=.int .i64 (e':Nat)∧fr 3=.int .i64 (lm:Nat)∧fr 4=.func (.func g) fs cs∧fr 10=.bool wb∧fr 11=.bool wp)∧L=[]∧SqS b H0 l0 l' H'∧PermR a e l l'∧OutR cf a e a' e' l'∧GdR cf a' e' l'∧lm≤1000∧m=e'-a'∧m≤e-a) ⟨l,a,e,lm,true,true,by simp,rfl,hs,PermR.refl,OutR.start hae.1,hg,hlm,rfl,Nat.le_refl _⟩ ?_
  clear hs hg hlm
  rintro m fr L H1 ⟨l1,x,y,lm1,wb,wp,⟨f0,f1,f2,f3,f4,f10,f11⟩,rfl,hs,hp,hO,hg,hlm,hm,hm2⟩
  have hlen:=hp.len
  have hrg:=hO.rng
  have e0:(y:Int)-(x:Int)=((y-x:Nat):Int):=by omega
  simp (disch:=omega) [f0,f1,f2,f3,f4,f10,f11,wrap_i64,hst]
  refine cond_dec (fun h12 => ?_) fun h12 => ?_
  · simp [f0,f1,f2,f3,f4,f10,f11,hst]
    refine sq_isort hs hlim hst hc ho (a:=x) (e:=y) (by omega) (by omega) fun H2 l2 hs2 hp2 hso2 => ?_
    simp
    exact hK _ _ hs2 (hp.trans (hp2.wide hrg.1 hrg.2.2)) ((hO.perm hp2 (by omega)).sort hso2)
  simp [f0,f1,f2,f3,f4,f10,f11,hst]
  by_cases hz:lm1=0
  · subst hz
    simp [f0,f1,f2,f3,f4,f10,f11,hst]
    refine sq_heap hs hlim hst hc ho (a:=x) (e:=y) (by omega) (by omega) fun H2 l2 hs2 hp2 hso2 => ?_
    simp
    exact hK _ _ hs2 (hp.trans (hp2.wide hrg.1 hrg.2.2)) ((hO.perm hp2 (by omega)).sort hso2)
  simp [f0,f1,f2,f3,f4,f10,f11,hst,hz]
  refine wCond_join (fun fr L H'=>∃l' lm,(fr 0=.sl b 0 l0.length 1∧fr 1=.int .i64 x∧fr 2=.int .i64 y∧fr 3=.int .i64 (lm:Nat)∧fr 4=.func (.func g) fs cs∧fr 10=.bool wb∧fr 11=.bool wp∧fr 12=.int .i64 ((y:Int)-(x:Int)))∧L=[]∧SqS b H0 l0 l' H'∧PermR a e l l'∧OutR cf a e x y l'∧GdR cf x y l'∧lm≤1000) (fun h => ?_) (fun h => ?_) ?_
  · simp [f0,f1,f2,f3,f4,f10,f11,hst]
    refine sq_break hs hlim (a:=x) (e:=y) (by simp [stor,hst]) (by omega) (by omega) fun H2 l2 hs2 hp2 => ?_
    have e1:(lm1:Int)-1=((lm1-1:Nat):Int):=by omega
    simp (disch:=omega) [f0,f1,f2,f3,f4,f10,f11,wrap_i64,e1]
    exact ⟨l2,lm1-1,by omega,hs2,hp.trans (hp2.wide hrg.1 hrg.2.2),hO.perm hp2 (by omega),hg.perm hp2 (Nat.le_refl _) (Nat.le_refl _) (by omega),by omega⟩
  · simp [f0,f1,f2,f3,f4,f10,f11]
    exact ⟨l1,lm1,by omega,hs,hp,hO,hg,by omega⟩
  clear f0 f1 f2 f3 f4 f10 f11 hs hp hO hg hlen hlm hz
  rintro fr L H2 ⟨l2,lm2,⟨f0,f1,f2,f3,f4,f10,f11,f12⟩,rfl,hs,hp,hO,hg,hlm⟩
  have hlen:=hp.len
  simp [f0,f1,f2,f3,f4,f10,f11,f12,hst]
  refine sq_choose hs hlim hst hc (a:=x) (e:=y) (by omega) (by omega) fun H3 v hint hs3 hv => ?_
  simp [f0,f1,f2,f3,f4,f10,f11,f12,hst]
  refine wCond_join (fun fr L H'=>∃l' v hint,(fr 0=.sl b 0 l0.length 1∧fr 1=.int .i64 x∧fr 2=.int .i64 y∧fr 3=.int .i64 (lm2:Nat)∧fr 4=.func (.func g) fs cs∧fr 10=.bool wb∧fr 11=.bool wp∧fr 12=.int .i64 ((y:Int)-(x:Int))∧fr 13=.int .i64 (v:Nat)∧fr 14=.int .i64 (hint:Nat))∧L=[]∧SqS b H0 l0 l' H'∧PermR a e l l'∧OutR cf a e x y l'∧GdR cf x y l'∧x≤v∧v<y) (fun h => ?_) (fun h => ?_) ?_
  · simp [f0,f1,f2,f3,f4,f10,f11,hst]
    refine sq_reverse hs3 hlim (a:=x) (e:=y) (by omega) (by omega) fun H4 l4 hs4 hp4 => ?_
    simp (disch:=omega) [f0,f1,f2,f3,f4,f10,f11,f12,wrap_i64]
    exact ⟨l4,(y-1)-(v-x),⟨by omega,1,rfl⟩,hs4,hp.trans (hp4.wide hrg.1 hrg.2.2),hO.perm hp4 (by omega),hg.perm hp4 (Nat.le_refl _) (Nat.le_refl _) (by omega),by omega,by omega⟩
  · simp [f0,f1,f2,f3,f4,f10,f11,f12]
    exact ⟨l2,v,⟨rfl,hint,rfl⟩,hs3,hp,hO,hg,by omega,by omega⟩
  clear f0 f1 f2 f3 f4 f10 f11 f12 hs hs3 hp hO hg hlen hv
  rintro fr L H4 ⟨l4,v,hint,⟨f0,f1,f2,f3,f4,f10,f11,f12,f13,f14⟩,rfl,hs,hp,hO,hg,hv⟩
  have hlen:=hp.len
  rw [seqQ_normal]
  refine wSeq_join (fun fr L H'=>∃l' wb wp,(fr 0=.sl b 0 l0.length 1∧fr 1=.int .i64 x∧fr 2=.int .i64 y∧fr 3=.int .i64 (lm2:Nat)∧fr 4=.func (.func g) fs cs∧fr 12=.int .i64 ((y:Int)-(x:Int))∧fr 13=.int .i64 (v:Nat)∧fr 10=.bool wb∧fr 11=.bool wp)∧L=[]∧SqS b H0 l0 l' H'∧PermR a e l l'∧OutR cf a e x y l'∧GdR cf x y l') ?_ ?_
  · have pis:∀(fr:Fr),fr 0=.sl b 0 l0.length 1→True:=fun _ _=>trivial
    by_cases hh:wb=true∧wp=true∧hint=1
    · obtain ⟨rfl,rfl,rfl⟩:=hh
      simp [f0,f1,f2,f3,f4,f10,f11,f12,f13,f14,hst]
      refine sq_pis hs hlim hst hc ho (a:=x) (e:=y) (by omega) (by omega) hg fun H5 l5 ok hs5 hp5 hso5 => ?_
      cases ok with
      | true =>
        simp
        exact hK _ _ hs5 (hp.trans (hp5.wide hrg.1 hrg.2.2)) ((hO.perm hp5 (by omega)).sort (hso5 rfl))
      | false =>
        simp [f0,f1,f2,f3,f4,f10,f11,f12,f13,f14]
        exact ⟨l5,hs5,hp.trans (hp5.wide hrg.1 hrg.2.2),hO.perm hp5 (by omega),hg.perm hp5 (Nat.le_refl _) (Nat.le_refl _) (by omega)⟩
    · have fin:∃l',SqS b H0 l0 l' H4∧PermR a e l l'∧OutR cf a e x y l'∧GdR cf x y l':=⟨l4,hs,hp,hO,hg⟩
      cases wb with
      | false =>
        simp [f0,f1,f2,f3,f4,f10,f11,f12,f13,f14]
        exact fin
      | true =>
        cases wp with
        | false =>
          simp [f0,f1,f2,f3,f4,f10,f11,f12,f13,f14]
          exact fin
        | true =>
          have h1:((hint:Int)=1)=False:=eq_false (by simp at hh;omega)
          simp [f0,f1,f2,f3,f4,f10,f11,f12,f13,f14,h1]
          exact fin
  clear f0 f1 f2 f3 f4 f10 f11 f12 f13 f14 hs hp hO hg hlen
  rintro fr L H5 ⟨l5,wb,wp,⟨f0,f1,f2,f3,f4,f12,f13,f10,f11⟩,rfl,hs,hp,hO,hg⟩
  have hlen:=hp.len
  refine wSeq_join (fun fr L H'=>∃l' wb wp,(fr 0=.sl b 0 l0.length 1∧fr 1=.int .i64 x∧fr 2=.int .i64 y∧fr 3=.int .i64 (lm2:Nat)∧fr 4=.func (.func g) fs cs∧fr 12=.int .i64 ((y:Int)-(x:Int))∧fr 13=.int .i64 (v:Nat)∧fr 10=.bool wb∧fr 11=.bool wp)∧L=[]∧SqS b H0 l0 l' H'∧PermR a e l l'∧OutR cf a e x y l'∧GdR cf x y l') ?_ ?_
  · by_cases hx0:x=0
    · have h0:(0<x)=False:=eq_false (by omega)
      simp [f0,f1,f2,f3,f4,f10,f11,f12,f13,h0]
      exact ⟨l5,hs,hp,hO,hg⟩
    · have h0:(0<x)=True:=eq_true (by omega)
      have e1:((x:Int)-1).toNat=x-1:=by omega
      have g1:=fun L=>sq_ld hs.row (i:=x-1) (by omega) (L:=L)
      have g2:=fun L=>sq_ld hs.row (i:=v) (by omega) (L:=L)
      simp (disch:=omega) [f0,f1,f2,f3,f4,f10,f11,f12,f13,h0,e1,wrap_i64,g1,g2,hst,sq_addr,-viaddrS_in,-vload_ptrO]
      refine hc.at hs (i:=x-1) (j:=v) (by omega) (by omega) fun H6 x6 hs6 => ?_
      simp
      refine cond_ndec (fun hlt => ?_) fun hlt => ?_
      · simp [f0,f1,f2,f3,f4,f10,f11,f12,f13,hst]
        refine sq_partEq hs6 hlim hst hc ho (a:=x) (e:=y) (v:=v) (by omega) (by omega) (hg.least ho (by omega) hlt) fun H7 l7 q hs7 hp7 hq heq => ?_
        have hO7:=(hO.perm hp7 (by omega)).equal (m:=q) (by omega) heq
        simp [f0,f1,f2,f3,f4,f10,f11,f12,f13]
        exact ⟨y-q,by omega,l7,q,y,lm2,by omega,hs7,hp.trans (hp7.wide hrg.1 hrg.2.2),hO7,hO7.guard (by omega),by omega,rfl,by omega⟩
      · simp [f0,f1,f2,f3,f4,f10,f11,f12,f13]
        exact ⟨l5,hs6,hp,hO,hg⟩
  clear f0 f1 f2 f3 f4 f10 f11 f12 f13 hs hp hO hg hlen
  rintro fr L H6 ⟨l6,wb,wp,⟨f0,f1,f2,f3,f4,f12,f13,f10,f11⟩,rfl,hs,hp,hO,hg⟩
  have hlen:=hp.len
  simp [f0,f1,f2,f3,f4,f10,f11,f12,f13,hst]
  refine sq_part hs hlim hst hc ho (a:=x) (e:=y) (v:=v) (by omega) (by omega) fun H7 l7 q ok hs7 hp7 hq => ?_
  have hqr:=hq.rng
  have hO7:=hO.perm hp7 (by omega)
  have hp77:=hp.trans (hp7.wide hrg.1 hrg.2.2)
  have hl7:=hp77.len
  simp (disch:=omega) [f0,f1,f2,f3,f4,f10,f11,f12,f13,hst,wrap_i64]
  refine cond_dec (fun hlr => ?_) fun hlr => ?_
  · simp [f0,f1,f2,f3,f4,f10,f11,f12,f13,hst]
    refine ih (q-x) (by omega) (Nat.le_refl _) hs7 (by omega) hlm ((hg.perm hp7 (Nat.le_refl _) (Nat.le_refl _) (by omega)).less (by omega)) fun H8 l8 hs8 hp8 hso8 => ?_
    have hO8:=hO7.left ho hq hp8 hso8 (by omega)
    simp (disch:=omega) [f0,f1,f2,f3,f4,f10,f11,f12,f13,hst,wrap_i64]
    exact ⟨y-(q+1),by omega,l8,q+1,y,lm2,by omega,hs8,hp77.trans (hp8.wide (by omega) (by omega)),hO8,hO8.guard (by omega),by omega,rfl,by omega⟩
  · have e1:(q:Int)+1=((q+1:Nat):Int):=by omega
    simp (disch:=omega) [f0,f1,f2,f3,f4,f10,f11,f12,f13,hst,wrap_i64]
    rw [e1]
    refine ih (y-(q+1)) (by omega) (Nat.le_refl _) hs7 (by omega) hlm (fun _ k h1 h2=>hq.hi k (by omega) h2) fun H8 l8 hs8 hp8 hso8 => ?_
    have hO8:=hO7.right ho hq hp8 hso8 (by omega)
    simp (disch:=omega) [f0,f1,f2,f3,f4,f10,f11,f12,f13,hst,wrap_i64]
    exact ⟨q-x,by omega,l8,x,q,lm2,by omega,hs8,hp77.trans (hp8.wide (by omega) (by omega)),hO8,((hg.perm hp7 (Nat.le_refl _) (Nat.le_refl _) (by omega)).perm hp8 (by omega) (Nat.le_refl _) (by omega)).less (by omega),by omega,rfl,by omega⟩
theorem sq_sort (hb:H[b]? = some (rowB l))(hlim:lim≤b)(hst:allStor fs=true∧allStor cs=true∧g≠3999999)(hc:CmpQ b g fs cs H l cf)(ho:Ordr cf)(hl:l.length<256)
    (hK:∀H' l',SqS b H l l' H'→SortR cf 0 l.length l'→K (.tup []) H'):VCall tbl lim 38 [.sl b 0 l.length 1,.func (.func g) fs cs] H K:=by
  refine VCall_fn tbl_at38 rfl ?_
  have hbl:=(List.getElem?_eq_some_iff.1 hb).1
  have wu:IntKind.wrap .u64 (l.length:Int)=(l.length:Int):=wrap_u64 (by omega)
  simp [vf38,wu,hst]
  refine sq_bits (x:=l.length) hl (by omega) fun m hm => ?_
  simp [hst]
  refine sq_pdq (a:=0) (e:=l.length) hc ho hst hlim hl l.length (by omega) (SqS.start hb) (by omega) (by omega) (fun h=>by omega) fun H' l' hs hp hso => ?_
  simp
  exact hK _ _ hs hso
theorem sq_sort0 (hlim:lim≤H.length)(hst:allStor fs=true∧allStor cs=true∧g≠3999999)(hK:K (.tup []) H):VCall tbl lim 38 [.snil,.func (.func g) fs cs] H K:=by
  refine VCall_fn tbl_at38 rfl ?_
  have wu:IntKind.wrap .u64 0=0:=wrap_u64 (by omega)
  simp [vf38,wu,hst]
  refine sq_bits (x:=0) (by omega) hlim fun m hm => ?_
  simp [hst]
  refine VCall_fn tbl_at60 rfl ?_
  simp [vf60]
  refine wLoop_round ?_
  simp [hst]
  refine VCall_fn tbl_at73 rfl ?_
  simp [vf73]
  refine wLoop_round ?_
  simp
  exact hK
end
end Go.Proofs.YtiilicnmcpjmkaaGreatDoor.Vm
namespace Go.Proofs.YtiilicnmcpjmkaaGreatDoor.Vm
open Go
set_option maxRecDepth 100000
set_option maxHeartbeats 1000000
set_option linter.unusedSimpArgs false
set_option linter.unusedVariables false
attribute [-simp] List.getD_eq_getElem?_getD
def cmpIo (x y:Int):Int:=if x<y then -1 else if y<x then 1 else 0
def ageE (e:En):Int:=e.a+e.b+e.c
def kAo (c:List En)(x:Int):Int:=ageE (c.getD x.toNat default)
def kP (c:List En)(x:Int):Int:=(c.getD x.toNat default).p
def cfO (c:List En)(x y:Int):Int:=if cmpIo (kAo c x) (kAo c y)≠0 then cmpIo (kAo c x) (kAo c y) else cmpIo (kP c x) (kP c y)
theorem cfO_le {c:List En}{x y:Int}:leC (cfO c) x y↔kAo c x<kAo c y∨(kAo c x=kAo c y∧kP c x≤kP c y):=by
  unfold leC cfO cmpIo
  repeat' split
  all_goals constructor<;>intro h<;>omega
theorem cfO_ordr {c:List En}:Ordr (cfO c):=⟨fun x y z h1 h2=>by rw [cfO_le] at *;omega,fun x y=>by rw [cfO_le,cfO_le];omega⟩
section
variable {c:List En}
theorem age_rng (h:valE c=0){i:Nat}(hi:i<c.length):0≤ageE (c.getD i default)∧ageE (c.getD i default)≤180:=by
  have s:=(valE_ok h hi).2.2
  simp only [seenR,Bool.and_eq_true] at s
  have r:=s.1.2
  simp only [rangB,Bool.and_eq_true,decide_eq_true_eq] at r
  have l:=valE_small h
  have c0:=cntE_le (c:=c) (q:=0) (n:=c.length)
  have c1:=cntE_le (c:=c) (q:=1) (n:=c.length)
  have c2:=cntE_le (c:=c) (q:=2) (n:=c.length)
  unfold ageE;omega
theorem sees_age (h:valE c=0){i k:Nat}(hi:i<c.length)(hk:k<c.length)(hs:seesB (c.getD i default) (c.getD k default)=true):ageE (c.getD k default)<ageE (c.getD i default):=by
  have si:=(valE_ok h hi).2.2
  have sk:=(valE_ok h hk).2.2
  simp only [seenR,Bool.and_eq_true] at si sk
  have t:=allN_at si.2 hk
  simp only [trB,hs,Bool.true_and,Bool.not_eq_true'] at t
  have ok:=sk.1.1
  simp only [selfB,decide_eq_true_eq] at ok
  simp only [seesB,decide_eq_true_eq] at hs
  have pl:=val_pl h hk
  have a0:=at3 (q:=0) t
  have a1:=at3 (q:=1) t
  have a2:=at3 (q:=2) t
  generalize c.getD i default=e at *
  generalize c.getD k default=f at *
  have hlt:f.at f.p.toNat<e.at f.p.toNat:=by omega
  have e0:∀z:En,z.at 0=z.a:=fun _=>rfl
  have e1:∀z:En,z.at 1=z.b:=fun _=>rfl
  have e2:∀z:En,z.at 2=z.c:=fun _=>rfl
  rw [e0,e0] at a0
  rw [e1,e1] at a1
  rw [e2,e2] at a2
  unfold ageE
  rcases (show f.p.toNat=0∨f.p.toNat=1∨f.p.toNat=2 by omega) with hp | hp | hp
  · rw [hp,e0,e0] at hlt;omega
  · rw [hp,e1,e1] at hlt;omega
  · rw [hp,e2,e2] at hlt;omega
theorem own_sees (h:valE c=0){i k:Nat}(hik:i<k)(hk:k<c.length)(hp:(c.getD i default).p=(c.getD k default).p):seesB (c.getD k default) (c.getD i default)=true:=by
  have hlt:=val_lt h hik hk hp
  have sk:=(valE_ok h hk).2.2
  simp only [seenR,Bool.and_eq_true] at sk
  have ok:=sk.1.1
  simp only [selfB,decide_eq_true_eq] at ok
  simp only [seesB,decide_eq_true_eq,hp]
  omega
theorem age_uniq (h:valE c=0){i k:Nat}(hi:i<c.length)(hk:k<c.length)(hp:(c.getD i default).p=(c.getD k default).p)(ha:ageE (c.getD i default)=ageE (c.getD k default)):i=k:=by
  rcases Nat.lt_trichotomy i k with x | x | x
  · have:=sees_age h hk hi (own_sees h x hk hp);omega
  · exact x
  · have:=sees_age h hi hk (own_sees h x hi hp.symm);omega
def pickB (c:List En)(n p:Nat)(i:Nat):Bool:=decide (ageE (c.getD i default)=n)&&decide ((c.getD i default).p=p)
def ordI (c:List En)(n p k:Nat):List Int:=((List.range k).filter (pickB c n p)).map Int.ofNat
def ordP (c:List En)(n:Nat):Nat→List Int
  | 0=>[]
  | p+1=>ordP c n p++ordI c n p c.length
def ordN (c:List En):Nat→List Int
  | 0=>[]
  | n+1=>ordN c n++ordP c n 3
theorem ordI_succ {n p k:Nat}:ordI c n p (k+1)=if pickB c n p k=true then ordI c n p k++[(k:Int)] else ordI c n p k:=by
  simp only [ordI,List.range_succ,List.filter_append,List.map_append]
  by_cases h:pickB c n p k=true
  · simp [h]
  · simp [h]
theorem ordI_mem {n p k:Nat}{x:Int}:x∈ordI c n p k↔∃i:Nat,x=i∧i<k∧ageE (c.getD i default)=n∧(c.getD i default).p=p:=by
  simp only [ordI,List.mem_map,List.mem_filter,List.mem_range,pickB,Bool.and_eq_true,decide_eq_true_eq]
  constructor
  · rintro ⟨i,⟨h1,h2⟩,rfl⟩;exact ⟨i,rfl,h1,h2⟩
  · rintro ⟨i,rfl,h1,h2⟩;exact ⟨i,⟨h1,h2⟩,rfl⟩
theorem ordP_mem {n:Nat}{x:Int}:∀{p:Nat},x∈ordP c n p↔∃i:Nat,x=i∧i<c.length∧ageE (c.getD i default)=n∧(0≤(c.getD i default).p∧(c.getD i default).p<p)
  | 0=>by simp only [ordP,List.not_mem_nil,false_iff];rintro ⟨i,_,_,_,h⟩;omega
  | p + 1=>by
    rw [ordP,List.mem_append,ordP_mem (p:=p),ordI_mem]
    constructor
    · rintro (⟨i,h1,h2,h3,h4⟩ | ⟨i,h1,h2,h3,h4⟩)
      · exact ⟨i,h1,h2,h3,by omega⟩
      · exact ⟨i,h1,h2,h3,by omega⟩
    · rintro ⟨i,h1,h2,h3,h4⟩
      by_cases e:(c.getD i default).p=p
      · exact Or.inr ⟨i,h1,h2,h3,e⟩
      · exact Or.inl ⟨i,h1,h2,h3,by omega⟩
theorem ordN_mem {x:Int}:∀{n:Nat},x∈ordN c n↔∃i:Nat,x=i∧i<c.length∧(0≤ageE (c.getD i default)∧ageE (c.getD i default)<n)∧(0≤(c.getD i default).p∧(c.getD i default).p<3)
  | 0=>by simp only [ordN,List.not_mem_nil,false_iff];rintro ⟨i,_,_,h,_⟩;omega
  | n + 1=>by
    rw [ordN,List.mem_append,ordN_mem (n:=n),ordP_mem]
    constructor
    · rintro (⟨i,h1,h2,h3,h4⟩ | ⟨i,h1,h2,h3,h4⟩)
      · exact ⟨i,h1,h2,by omega,h4⟩
      · exact ⟨i,h1,h2,by omega,by omega⟩
    · rintro ⟨i,h1,h2,h3,h4⟩
      by_cases e:ageE (c.getD i default)=n
      · exact Or.inr ⟨i,h1,h2,e,by omega⟩
      · exact Or.inl ⟨i,h1,h2,by omega,h4⟩
def ltO (c:List En)(x y:Int):Prop:=kAo c x<kAo c y∨(kAo c x=kAo c y∧kP c x<kP c y)
theorem ordI_sort (h:valE c=0){n p:Nat}:∀{k:Nat},k≤c.length→(ordI c n p k).Pairwise (ltO c)
  | 0,_=>by simp [ordI]
  | k + 1,hk=>by
    rw [ordI_succ]
    have ih:=ordI_sort h (n:=n) (p:=p) (k:=k) (by omega)
    split
    · rename_i hp
      simp only [pickB,Bool.and_eq_true,decide_eq_true_eq] at hp
      refine List.pairwise_append.2 ⟨ih,List.pairwise_singleton _ _,fun x hx y hy => ?_⟩
      obtain ⟨i,rfl,h1,h2,h3⟩:=ordI_mem.1 hx
      have:=age_uniq h (i:=i) (k:=k) (by omega) (by omega) (by omega) (by omega)
      omega
    · exact ih
theorem ordP_sort (h:valE c=0){n:Nat}:∀{p:Nat},(ordP c n p).Pairwise (ltO c)
  | 0=>List.Pairwise.nil
  | p+1=>by
    refine List.pairwise_append.2 ⟨ordP_sort h,ordI_sort h (Nat.le_refl _),fun x hx y hy => ?_⟩
    obtain ⟨i,rfl,h1,h2,h3⟩:=ordP_mem.1 hx
    obtain ⟨j,rfl,k1,k2,k3⟩:=ordI_mem.1 hy
    simp only [ltO,kAo,kP,Int.toNat_natCast]
    omega
theorem ordN_sort (h:valE c=0):∀{n:Nat},(ordN c n).Pairwise (ltO c)
  | 0=>List.Pairwise.nil
  | n+1=>by
    refine List.pairwise_append.2 ⟨ordN_sort h,ordP_sort h,fun x hx y hy => ?_⟩
    obtain ⟨i,rfl,h1,h2,h3⟩:=ordN_mem.1 hx
    obtain ⟨j,rfl,k1,k2,k3⟩:=ordP_mem.1 hy
    simp only [ltO,kAo,kP,Int.toNat_natCast]
    omega
theorem uniq_list {R:Int→Int→Prop} (ir:∀x,¬R x x) (asy:∀x y,R x y→¬R y x):∀{l m:List Int},l.Pairwise R→m.Pairwise R→(∀x,x∈l↔x∈m)→l=m
  | [],[],_,_,_=>rfl
  | [],y :: m,_,_,h=>absurd ((h y).2 (by simp)) (by simp)
  | x :: l,[],_,_,h=>absurd ((h x).1 (by simp)) (by simp)
  | x :: l,y :: m,hl,hm,h=>by
    obtain ⟨l1,l2⟩:=List.pairwise_cons.1 hl
    obtain ⟨m1,m2⟩:=List.pairwise_cons.1 hm
    have e:x=y:=by
      apply Classical.byContradiction
      intro hne
      have h1:=(h x).1 (by simp)
      have h2:=(h y).2 (by simp)
      rcases List.mem_cons.1 h1 with h1 | h1
      · exact hne h1
      · rcases List.mem_cons.1 h2 with h2 | h2
        · exact hne h2.symm
        · exact asy _ _ (m1 x h1) (l1 y h2)
    subst e
    congr 1
    refine uniq_list ir asy l2 m2 fun z => ?_
    constructor
    · intro hz
      rcases List.mem_cons.1 ((h z).1 (List.mem_cons_of_mem _ hz)) with h1 | h1
      · subst h1;exact absurd (l1 _ hz) (ir _)
      · exact h1
    · intro hz
      rcases List.mem_cons.1 ((h z).2 (List.mem_cons_of_mem _ hz)) with h1 | h1
      · subst h1;exact absurd (m1 _ hz) (ir _)
      · exact h1
def idL (n:Nat):List Int:=(List.range n).map Int.ofNat
theorem idL_len {n:Nat}:(idL n).length=n:=by simp [idL]
theorem idL_succ {n:Nat}:idL (n+1)=idL n++[(n:Int)]:=by simp [idL,List.range_succ]
theorem idL_mem {n:Nat}{x:Int}:x∈idL n↔∃i:Nat,x=i∧i<n:=by
  simp only [idL,List.mem_map,List.mem_range]
  constructor
  · rintro ⟨i,h,rfl⟩;exact ⟨i,rfl,h⟩
  · rintro ⟨i,rfl,h⟩;exact ⟨i,h,rfl⟩
theorem ord_eq (h:valE c=0){l:List Int}(hp:l.Perm (idL c.length))(hs:SortR (cfO c) 0 l.length l):l=ordN c 181:=by
  have nd:l.Nodup:=by
    rw [hp.nodup_iff,idL]
    refine List.pairwise_map.2 (List.Pairwise.imp (fun {a b} hab e => ?_) (List.nodup_range (n:=c.length)))
    exact hab (Int.ofNat.inj e)
  have hmem:∀x,x∈l→∃i:Nat,x=i∧i<c.length:=fun x hx=>idL_mem.1 (hp.mem_iff.1 hx)
  refine uniq_list (R:=ltO c) (fun x hx=>by unfold ltO at hx;omega) (fun x y h1 h2=>by unfold ltO at h1 h2;omega) ?_ (ordN_sort h) fun x => ?_
  · rw [List.pairwise_iff_getElem]
    intro i j hi hj hij
    have h1:=cfO_le.1 (hs i j (Nat.zero_le _) hij hj)
    rw [getD_of hi,getD_of hj] at h1
    obtain ⟨a,ea,ha⟩:=hmem l[i] (List.getElem_mem hi)
    obtain ⟨b,eb,hb⟩:=hmem l[j] (List.getElem_mem hj)
    have hne:=(List.pairwise_iff_getElem.1 nd) i j hi hj hij
    rw [ea,eb] at h1 hne ⊢
    simp only [ltO,kAo,kP,Int.toNat_natCast] at h1 ⊢
    have hab:¬a=b:=fun e=>hne (by rw [e])
    by_cases hx:ageE (c.getD a default)=ageE (c.getD b default)∧(c.getD a default).p=(c.getD b default).p
    · exact absurd (age_uniq h ha hb hx.2 hx.1) hab
    · omega
  · rw [hp.mem_iff,idL_mem,ordN_mem]
    constructor
    · rintro ⟨i,rfl,hi⟩
      have r:=age_rng h hi
      have q:=val_pl h hi
      exact ⟨i,rfl,hi,by omega,by omega⟩
    · rintro ⟨i,rfl,hi,_⟩;exact ⟨i,rfl,hi⟩
def ordR (c:List En):List Int:=if valE c=0 then ordN c 181 else []
end
section
variable {lim:Nat}{H:Hp}{K:V→Hp→Prop}{v w:V}{c:List En}{e f:En}{x y u q:Int}
theorem LstV.keepB {α:Type}{k:Nat}{c:Cod α k}{H H':Hp}{v:V}{l:List α}(h:LstV c H v l)(hk:∀b o n z,v=.sl b o n z→H'[b]? = H[b]?):LstV c H' v l:=by
  cases h with
  | nil=>exact .nil
  | empty=>exact .empty
  | sl h1 h2 h3=>exact .sl (by rw [hk _ _ _ _ rfl];exact h1) h2 h3
theorem LstV.below {α:Type}{k:Nat}{c:Cod α k}{H:Hp}{v:V}{l:List α}(h:LstV c H v l):∀b o n z,v=.sl b o n z→b<H.length:=by
  rintro b o n z rfl
  cases h with
  | sl h1 _ _=>exact (List.getElem?_eq_some_iff.1 h1).1
theorem cmp_isNaNo (hK:K (.bool false) H):VCall tbl lim 62 [.int .i64 x] H K:=by
  refine VCall_fn tbl_at62 rfl ?_
  simp [vf62]
  exact hK
theorem cmp_Compareo (hK:K (.int .i64 (cmpIo x y)) H):VCall tbl lim 41 [.int .i64 x,.int .i64 y] H K:=by
  refine VCall_fn tbl_at41 rfl ?_
  simp [vf41]
  refine cmp_isNaNo ?_
  simp
  refine cmp_isNaNo ?_
  simp
  refine cond_dec (fun h => ?_) fun h => ?_
  · simp;simpa [cmpIo,h] using hK
  · simp
    refine cond_dec (fun h2 => ?_) fun h2 => ?_
    · simp;simpa [cmpIo,h,h2] using hK
    · simp;simpa [cmpIo,h,h2] using hK
theorem cmp_Oro (hs:SlV H v [u,q])(hK:K (.int .i64 (if u≠0 then u else q)) H):VCall tbl lim 40 [v] H K:=by
  refine VCall_fn tbl_at40 rfl ?_
  have a0:=hs.addr (i:=0) (by simp)
  have a1:=hs.addr (i:=1) (by simp)
  have g0:=hs.load (L:=[]) (i:=0) (by simp)
  have g1:=hs.load (L:=[]) (i:=1) (by simp)
  simp [List.getD_eq_getElem?_getD] at a0 a1 g0 g1
  by_cases h:u=0
  · subst h
    simp only [ne_eq,not_true_eq_false,if_false] at hK
    by_cases h2:q=0
    · subst h2
      simp [vf40,hs.len]
      refine wLoop_round ?_
      simp [a0,g0,wrap_i64]
      refine wLoop_round ?_
      simp [a1,g1,wrap_i64]
      refine wLoop_round ?_
      simp
      exact hK
    · simp [vf40,hs.len]
      refine wLoop_round ?_
      simp [a0,g0,wrap_i64]
      refine wLoop_round ?_
      simp [a1,g1,wrap_i64,h2]
      exact hK
  · rw [if_pos h] at hK
    simp [vf40,hs.len]
    refine wLoop_round ?_
    simp [a0,g0,wrap_i64,h]
    exact hK
theorem card_age (h:(0≤e.a∧e.a≤60)∧(0≤e.b∧e.b≤60)∧(0≤e.c∧e.c≤60))(hK:K (.int .i64 (ageE e)) H):VCall tbl lim 42 [.agg e.cells] H K:=by
  refine VCall_fn tbl_at42 rfl ?_
  simp (disch:=omega) [vf42,En.cells,wrap_i64]
  exact hK
theorem comp_rng (h:valE c=0){i:Nat}(hi:i<c.length):(0≤(c.getD i default).a∧(c.getD i default).a≤60)∧(0≤(c.getD i default).b∧(c.getD i default).b≤60)∧(0≤(c.getD i default).c∧(c.getD i default).c≤60):=by
  have s:=(valE_ok h hi).2.2
  simp only [seenR,Bool.and_eq_true] at s
  have r:=s.1.2
  simp only [rangB,Bool.and_eq_true,decide_eq_true_eq] at r
  have l:=valE_small h
  have c0:=cntE_le (c:=c) (q:=0) (n:=c.length)
  have c1:=cntE_le (c:=c) (q:=1) (n:=c.length)
  have c2:=cntE_le (c:=c) (q:=2) (n:=c.length)
  omega
theorem ord_cmp {b B:Nat}(hB:H[B]? = some (.row [v] true))(hbB:B≠b)(hvb:∀b0 o k z,v=.sl b0 o k z→b0≠b)(hv:LstV enC H v c)(hval:valE c=0){l:List Int}(hl:∀x∈l,0≤x∧x<c.length) :
    CmpQ b 39 [] [.ptr B 0] H l (cfO c):=by
  intro H' lim x y K hx hy hlen hsame hK
  have hBl:=(List.getElem?_eq_some_iff.1 hB).1
  have hv':LstV enC H' v c:=hv.keepB fun b0 o k z e=>hsame b0 (hv.below b0 o k z e) (hvb b0 o k z e)
  have hB':H'[B]? = some (.row [v] true):=by rw [hsame B hBl hbB];exact hB
  have h1:=hl x hx
  have h2:=hl y hy
  have rd1:rd none [v] 0=some v:=Eq.trans rfl rfl
  have fj:∀i,i<c.length→∀j,vfaddr j (ept 6 v i)=some (eptf 6 v i j):=fun i hi j=>hv'.faddr hi
  have ld:∀L,vload none L H' (.ptr B 0)=some v:=fun L=>by rw [vload_ptr hB'];rfl
  show VCall tbl lim 39 [.int .i64 x,.int .i64 y,.ptr B 0] H' K
  refine VCall_fn tbl_at39 rfl ?_
  have c1:=comp_rng hval (i:=x.toNat) (by omega)
  have c2:=comp_rng hval (i:=y.toNat) (by omega)
  simp (disch:=omega) [vf39,ld,hv'.addr,en_load hv',lpId_eptf,-vload_ptrO]
  refine card_age (e:=c.getD x.toNat default) c1 ?_
  simp (disch:=omega) [ld,hv'.addr,en_load hv',lpId_eptf,-vload_ptrO]
  refine card_age (e:=c.getD y.toNat default) c2 ?_
  simp
  refine cmp_Compareo ?_
  simp (disch:=omega) [ld,hv'.addr,fj,en_get hv',lpId_eptf,-vload_ptrO]
  refine cmp_Compareo ?_
  simp [vbslice_some]
  have hs:SlV (H'++[.row [.int .i64 (cmpIo (ageE (c.getD x.toNat default)) (ageE (c.getD y.toNat default))),.int .i64 (cmpIo (c.getD x.toNat default).p (c.getD y.toNat default).p)] true]) (.sl H'.length 0 2 1) [cmpIo (ageE (c.getD x.toNat default)) (ageE (c.getD y.toNat default)),cmpIo (c.getD x.toNat default).p (c.getD y.toNat default).p]:=SlV.lit (l:=[_,_]) (by rw [List.getElem?_concat_length];rfl) rfl
  refine cmp_Oro hs ?_
  have hK:=hK _ (HX.push (x:=.row [.int .i64 (cmpIo (ageE (c.getD x.toNat default)) (ageE (c.getD y.toNat default))),.int .i64 (cmpIo (c.getD x.toNat default).p (c.getD y.toNat default).p)] true))
  unfold cfO kAo kP at hK
  simp
  simpa using hK
end
end Go.Proofs.YtiilicnmcpjmkaaGreatDoor.Vm
namespace Go.Proofs.YtiilicnmcpjmkaaGreatDoor.Vm
open Go
set_option maxRecDepth 100000
set_option maxHeartbeats 1000000
set_option linter.unusedSimpArgs false
set_option linter.unusedVariables false
attribute [-simp] List.getD_eq_getElem?_getD
section
variable {lim:Nat}{H:Hp}{K:V→Hp→Prop}{v w:V}{c:List En}{e f:En}{x y u q:Int}
theorem OwnV.ge {n:Nat}{H:Hp}{v:V}{l:List Int}(h:OwnV n H v l):∀b o k z,v=.sl b o k z→n≤b:=by
  cases h with
  | nil=>intro b o k z e;cases e
  | row h1 h2=>intro b o k z e;cases e;exact h1
theorem sort_own {n g:Nat}{u:V}{l:List Int}{cf:Int→Int→Int}{fs cs:List V}(hu:OwnV n H u l)(hlim:lim≤n)(hn:n≤H.length)(hst:allStor fs=true∧allStor cs=true∧g≠3999999)(hc:∀b o z y,u=.sl b o z y→CmpQ b g fs cs H l cf)(ho:Ordr cf)(hl:l.length<256)
    (hK:∀l' H',l'.Perm l→SortR cf 0 l'.length l'→OwnV n H' u l'→H.length≤H'.length→(∀b',b'<H.length→(∀o z y,u≠.sl b' o z y)→H'[b']? = H[b']?)→K (.tup []) H'):VCall tbl lim 38 [u,.func (.func g) fs cs] H K:=by
  cases hu with
  | nil=>exact sq_sort0 (by omega) hst (hK [] H (.refl _) (fun p q _ _ h=>absurd h (by simp)) .nil (Nat.le_refl _) (fun _ _ _=>rfl))
  | row h1 h3 =>
    rename_i b
    refine sq_sort h3 (by omega) hst (hc b 0 l.length 1 rfl) ho hl fun H' l' hs hso => ?_
    have hn:=hs.n
    refine hK l' H' hs.perm (by rw [hn];exact hso) ?_ hs.len fun b' hb' hne=>hs.oth b' hb' fun e=>hne 0 l.length 1 (by rw [e])
    rw [←hn]
    exact .row h1 hs.row
theorem card_Order (hc:LstV enC H v c) (hsh:shortC c) (hlim:lim≤H.length) (hK:∀H' w,HX H H'→OwnV H.length H' w (ordR c)→K (.tup [w,.int .i64 (valE c)]) H'):VCall tbl lim 20 [v] H K:=by
  refine VCall_fn tbl_at20 rfl ?_
  have hB0:(H++[Blk.row [v] true])[H.length]? = some (.row [v] true):=List.getElem?_concat_length
  have rd1:rd none [v] 0=some v:=Eq.trans rfl rfl
  simp [vf20,hc.stor,hc.one,hB0,rd1]
  generalize hHB:H++[Blk.row [v] true]=HB at *
  have xB:HX H HB:=by rw [←hHB];exact HX.push
  have lB:HB.length=H.length+1:=by rw [←hHB];simp
  have hcB:=hc.mono xB
  refine card_Validate hcB hsh fun H1 x1 => ?_
  replace x1:HX HB H1:=x1
  have l1:=x1.len
  by_cases hval:valE c=0
  case neg =>
    have:=hK H1 .snil (xB.trans x1) (by simp only [ordR,hval,if_false];exact .nil)
    simp [hval];exact this
  have hB1:=x1.get hB0
  have ld1:∀L,vload none L H1 (.ptr H.length 0)=some v:=fun L=>by rw [vload_ptr hB1];rfl
  have hc1:=hcB.mono x1
  have hsm:=valE_small hval
  simp [hval,ld1,hc1.len,-vload_ptrO]
  refine wLoop_up c.length (fun i fr L H'=>∃u5,(fr 1=.ptr H.length 0∧fr 13=.int .i64 c.length∧fr 14=.int .i64 i∧fr 5=u5)∧HX H1 H'∧OwnV H1.length H' u5 (idL i)) ⟨.snil,by simp,HX.refl,.nil⟩ ?_
  rintro i hi fr L H2 ⟨u5,⟨f1,f13,f14,f5⟩,x2,o5⟩
  have l2:=x2.len
  simp [f1,f13,f14,f5]
  refine cond_dec (fun ht => ?_) fun hfl => ?_
  · have ht:i<c.length:=by omega
    have a5:=o5.append (lim:=lim) (x:=(i:Int)) ⟨by omega,by rw [idL_len];omega⟩
    have p5:=o5.ap l2 (x:=(i:Int)) (new:=[.int .i64 (i:Int)])
    have xx5:=o5.apX x2 (Nat.le_refl _) (new:=[.int .i64 (i:Int)]) (all:=ints (idL i++[(i:Int)]))
    simp (disch:=omega) [f1,f13,f14,f5,wrap_i64,vbslice_some,a5]
    refine ⟨by omega,xx5,?_⟩
    rw [idL_succ]
    simpa using p5
  · have:i=c.length:=by omega
    subst this
    have hst5:=o5.sl.stor
    simp [f1,f5,hst5]
    have hB2:=x2.get hB1
    have hc2:=hc1.mono x2
    have hge:∀b o z y,u5=.sl b o z y→H1.length≤b:=o5.ge
    refine sort_own (g:=39) (fs:=[]) (cs:=[.ptr H.length 0]) (cf:=cfO c) o5 (by omega) l2 ⟨rfl,rfl,by decide⟩ (fun b o z y e => ?_) cfO_ordr (by rw [idL_len];omega) fun l' H3 hp hs o3 hl3 hoth => ?_
    · have hb:=hge b o z y e
      refine ord_cmp hB2 (by omega) (fun b0 o k z e0 => ?_) hc2 hval fun x hx => ?_
      · have:=hc.below b0 o k z e0
        omega
      · obtain ⟨i,rfl,hi⟩:=idL_mem.1 hx
        omega
    · have e:=ord_eq hval hp hs
      simp [f5,o3.sl.stor]
      have hx3:HX H H3:=HX.of (by have:=(xB.trans (x1.trans x2)).len;omega) fun b hb=>by
        rw [hoth b (by have:=(xB.trans (x1.trans x2)).len;omega) (fun o z y e=>by have:=hge b o z y e;omega)]
        exact (xB.trans (x1.trans x2)).same hb
      have:=hK H3 u5 hx3 (by
        have e2:ordR c=l':=by simp only [ordR,hval,if_true];exact e.symm
        rw [e2];exact o3.le (by omega))
      rw [hval] at this
      exact this
end
end Go.Proofs.YtiilicnmcpjmkaaGreatDoor.Vm
namespace Go.Proofs.YtiilicnmcpjmkaaGreatDoor.Vm
open Go
set_option maxRecDepth 100000
set_option linter.unusedSimpArgs false
set_option linter.unusedVariables false
attribute [-simp] List.getD_eq_getElem?_getD
def enEq (e f:En):Bool:=decide (e.p=f.p)&&(decide (e.s=f.s)&&(decide (e.a=f.a)&&(decide (e.b=f.b)&&(decide (e.c=f.c)&&(e.t==f.t)))))
theorem ba_refl:∀s:ByteArray,(s==s)=true
  | ⟨d⟩=>by show (d==d)=true;simp
theorem enEq_refl {e:En}:enEq e e=true:=by simp [enEq,ba_refl]
theorem veqA_6 {a b c d e x y z u w:Int}{s t:ByteArray}{neg:Bool}:veqA neg [.int .i64,.int .i64,.int .i64,.int .i64,.int .i64,.str] (.agg [.int .i64 a,.int .i64 b,.int .i64 c,.int .i64 d,.int .i64 e,.str s]) (.agg [.int .i64 x,.int .i64 y,.int .i64 z,.int .i64 u,.int .i64 w,.str t]) =
    some (.bool (if neg then !enEq ⟨a,b,c,d,e,s⟩ ⟨x,y,z,u,w,t⟩ else enEq ⟨a,b,c,d,e,s⟩ ⟨x,y,z,u,w,t⟩)):=by
  cases neg<;>simp [veqA,eqCells,eqCell,enEq,BEq.beq]
theorem enEq_num {e f:En}(h:enEq e f=true):e.p=f.p∧e.s=f.s:=by
  simp only [enEq,Bool.and_eq_true,decide_eq_true_eq] at h;exact ⟨h.1,h.2.1⟩
def kn (w:En)(q:Int):Int:=if q=w.p then w.s else w.at q.toNat
def knownL (c:List En)(x:Int):List En:=if valE c=0∧inR c x=true then filE (upto (kn (c.getD x.toNat default)) c) c c.length else []
def knownE (c:List En)(x:Int):Int:=if valE c≠0 then valE c else if inR c x then 0 else 5
section
variable {lim:Nat}{H:Hp}{K:V→Hp→Prop}{v w:V}{c l:List En}{e f:En}{s:ByteArray}{n x y:Int}
theorem ref_Same (hv:LstV enC H v l)(hw:LstV enC H w l)(hl:l.length≤1000)(hK:K (.bool true) H):VCall tbl lim 12 [v,w] H K:=by
  refine VCall_fn tbl_at12 rfl ?_
  simp [vf12,hv.len,hw.len]
  refine wLoop_up l.length (fun i fr L H'=>(fr 0=v∧fr 1=w∧fr 5=.int .i64 i)∧H'=H) ⟨by simp,rfl⟩ ?_
  rintro i hi fr L H' ⟨⟨f0,f1,f5⟩,e0⟩
  have e0:=e0.symm
  subst e0
  simp [f0,f1,f5,hv.len]
  refine cond_dec (fun ht => ?_) fun hfl => ?_
  · have ht:i<l.length:=by omega
    simp (disch:=omega) [f0,f1,f5,hv.at ht,hw.at ht,en_load hv,en_load hw,veqA_6,enEq_refl,wrap_i64]
    omega
  simp
  exact hK
end
end Go.Proofs.YtiilicnmcpjmkaaGreatDoor.Vm
namespace Go.Proofs.YtiilicnmcpjmkaaGreatDoor.Vm
open Go
set_option maxRecDepth 100000
set_option linter.unusedSimpArgs false
set_option linter.unusedVariables false
attribute [-simp] List.getD_eq_getElem?_getD
section
variable {α:Type}{k n:Nat}{c:Cod α k}{H:Hp}{v:V}{l:List α}
theorem OwnT.keepB {H':Hp}(h:OwnT n c H v l)(hk:∀b o m z,v=.sl b o m z→H'[b]? = H[b]?):OwnT n c H' v l:=by
  cases h with
  | nil=>exact .nil
  | row h1 h3=>exact .row h1 (by rw [hk _ _ _ _ rfl];exact h3)
theorem OwnT.below (h:OwnT n c H v l):∀b o n z,v=.sl b o n z→b<H.length:=by
  rintro b o n z rfl
  cases h with
  | row h1 h3=>exact (List.getElem?_eq_some_iff.1 h3).1
theorem OwnT.appendF (h:OwnT n c H v l){lim bytes:Nat}{x:α}{cs:List V}(hcs:c.cells x=cs)(hn:lim≤n∧n≤H.length)(hb:bytes≤1000)(hl:l.length<1000000) :
    ∃v' H',vappend lim k bytes (H++[.row cs true]) v (.sl H.length 0 1 k)=some (v',H')∧OwnT n c H' v' (l++[x])∧(∀H0,HX H0 H→H0.length≤n→HX H0 H')∧H'.length=H.length+2∧(∀b',b'<H.length→(∀o z y,v≠.sl b' o z y)→H'[b']? = H[b']?)∧∀b o z y,v'=.sl b o z y→H.length≤b:=by
  have hh:=h
  subst hcs
  obtain ⟨v',H',a1,a2,a3,a4,a5,a6⟩:=h.append (lim:=lim) (bytes:=bytes) (x:=x) rfl hn hb hl
  refine ⟨v',H',a1,a2,a3,a5,a6,?_⟩
  have hy:LstV c (H++[.row (c.cells x) true]) (.sl H.length 0 1 k) [x]:=by
    have:=LstV.sl (c:=c) (l:=[x]) (off:=0) (H:=H++[.row (c.cells x) true]) (b:=H.length) (own:=true) (cs:=c.cells x) List.getElem?_concat_length (by simp [c.len]) (by simp [Cod.all_one];rw [List.take_of_length_le (by rw [c.len];omega)])
    simpa using this
  have hb1:(l.length+1)*bytes≤1000000*1000:=Nat.mul_le_mul (by omega) hb
  have hb2:1*bytes≤1000000*1000:=Nat.mul_le_mul (by omega) hb
  rintro b o z y rfl
  cases hh with
  | nil =>
    simp [vappend,hy.cells,hy.len,show bytes≤140737488355328 by omega] at a1
    omega
  | row h1 h2 =>
    rename_i b'
    have hbl:=(List.getElem?_eq_some_iff.1 h2).1
    have h2':(H++[Blk.row (c.cells x) true])[b']? = some (.row (c.all l) true):=by rw [List.getElem?_append_left hbl];exact h2
    simp [vappend,hy.cells,hy.len,h2',Cod.all_len,show lim≤b' by omega,show (l.length+1)*bytes≤140737488355328 by omega,show l.length+1<4611686018427387904 by omega] at a1
    omega
def Apart (u v:V):Prop:=∀b o z y b' o' z' y',u=.sl b o z y→v=.sl b' o' z' y'→b≠b'
end
def kq (x y z:Int)(q:Int):Int:=tri x y z q.toNat
def missL (c:List En)(x y z:Int):List En:=if valE c=0 then filE (fun i => !upto (kq x y z) c i) c c.length else []
def rgB (c:List En)(x y z:Int)(q:Nat):Bool:=decide (0≤tri x y z q∧tri x y z q≤triC c c.length q)
def inK (x y z:Int)(e:En)(q:Nat):Bool:=decide (e.at q≤tri x y z q)
def okK (x y z:Int)(F:List En)(i:Nat):Bool:=allN (inK x y z (F.getD i default)) 3
def cutL (c:List En)(x y z:Int):List En:=filE (upto (kq x y z) c) c c.length
def atE (c:List En)(x y z:Int):Int :=
  if valE c≠0 then valE c else if allN (rgB c x y z) 3=false then 1 else if allN (okK x y z (cutL c x y z)) (cutL c x y z).length=false then 11 else 0
def atLc (c:List En)(x y z:Int):List En:=if atE c x y z=0 then cutL c x y z else []
section
variable {lim:Nat}{H:Hp}{K:V→Hp→Prop}{v w:V}{c l:List En}{e f:En}{s:ByteArray}{n x y z:Int}
end
end Go.Proofs.YtiilicnmcpjmkaaGreatDoor.Vm
namespace Go.Proofs.YtiilicnmcpjmkaaGreatDoor.Vm
open Go
set_option maxRecDepth 100000
set_option linter.unusedSimpArgs false
set_option linter.unusedVariables false
attribute [-simp] List.getD_eq_getElem?_getD
section
variable {lim:Nat}{H:Hp}{K:V→Hp→Prop}{v w:V}{c l:List En}{e f:En}{s:ByteArray}{n x y z:Int}
end
end Go.Proofs.YtiilicnmcpjmkaaGreatDoor.Vm
namespace Go.Proofs.YtiilicnmcpjmkaaGreatDoor.Vm
open Go
set_option maxRecDepth 100000
set_option linter.unusedSimpArgs false
set_option linter.unusedVariables false
attribute [-simp] List.getD_eq_getElem?_getD
section
variable {lim:Nat}{H:Hp}{K:V→Hp→Prop}{v w:V}{c l:List En}{e f:En}{s:ByteArray}{n x y z:Int}
theorem card_find (hc:LstV enC H v c) (hl:c.length≤1000)
    (hyes:∀j,j<c.length→(c.getD j default).p=x→(c.getD j default).s=y→(∀i,i<j→¬((c.getD i default).p=x∧(c.getD i default).s=y))→K (.tup [.agg (c.getD j default).cells,.bool true]) H)
    (hno:(∀i,i<c.length→¬((c.getD i default).p=x∧(c.getD i default).s=y))→K (.tup [.agg En.zero.cells,.bool false]) H):VCall tbl lim 56 [v,.int .i64 x,.int .i64 y] H K:=by
  refine VCall_fn tbl_at56 rfl ?_
  simp [vf56,hc.len]
  refine wLoop_up c.length (fun i fr L H'=>(fr 1=.int .i64 x∧fr 2=.int .i64 y∧fr 6=.lp 0 0∧fr 10=v∧fr 11=.int .i64 c.length∧fr 12=.int .i64 i)∧(∃X,L=En.zero.cells :: X)∧H'=H∧∀j,j<i→¬((c.getD j default).p=x∧(c.getD j default).s=y)) ⟨by simp [hc.len],⟨[],rfl⟩,rfl,fun j hj=>by omega⟩ ?_
  rintro i hi fr L H' ⟨⟨f1,f2,f6,f10,f11,f12⟩,⟨X,rfl⟩,e0,hz⟩
  have e0:=e0.symm
  subst e0
  simp [f1,f2,f6,f10,f11,f12]
  refine cond_dec (fun ht => ?_) fun hfl => ?_
  · have ht:i<c.length:=by omega
    by_cases h1:(c.getD i default).p=x
    · by_cases h2:(c.getD i default).s=y
      · simp (disch:=omega) [f1,f2,f6,f10,f11,f12,hc.at ht,en_load hc,lastO,lastS,eq_true h1,eq_true h2,En.zero,En.cells]
        exact hyes i ht h1 h2 hz
      · simp (disch:=omega) [f1,f2,f6,f10,f11,f12,hc.at ht,en_load hc,lastO,lastS,eq_true h1,eq_false h2,wrap_i64]
        refine ⟨by omega,fun j hj => ?_⟩
        by_cases e:j=i
        · subst e;exact fun _ h=>h2 h
        · exact fun h h'=>hz j (by omega) ⟨h,h'⟩
    · simp (disch:=omega) [f1,f2,f6,f10,f11,f12,hc.at ht,en_load hc,lastO,lastS,eq_false h1,wrap_i64]
      refine ⟨by omega,fun j hj => ?_⟩
      by_cases e:j=i
      · subst e;exact fun h _=>h1 h
      · exact fun h h'=>hz j (by omega) ⟨h,h'⟩
  have:i=c.length:=by omega
  subst this
  simp [f6,En.zero,En.cells]
  exact hno hz
end
end Go.Proofs.YtiilicnmcpjmkaaGreatDoor.Vm
namespace Go.Proofs.YtiilicnmcpjmkaaGreatDoor.Vm
open Go
set_option maxRecDepth 100000
set_option linter.unusedSimpArgs false
set_option linter.unusedVariables false
attribute [-simp] List.getD_eq_getElem?_getD
structure RowE (b:Nat)(H:Hp)(l:List En)(H':Hp):Prop where
  row:H'[b]? = some (.row (enC.all l) true)
  len:H.length≤H'.length
  oth:∀b',b'<H.length→b'≠b→H'[b']? = H[b']?
theorem RowE.refl {b:Nat}{H:Hp}{l:List En}(h:H[b]? = some (.row (enC.all l) true)):RowE b H l H:=⟨h,Nat.le_refl _,fun _ _ _=>rfl⟩
theorem RowE.trans {b:Nat}{H H1 H2:Hp}{l l':List En}(h:RowE b H l H1)(k:RowE b H1 l' H2):RowE b H l' H2 :=
  ⟨k.row,Nat.le_trans h.len k.len,fun b' h1 h2=>(k.oth b' (Nat.lt_of_lt_of_le h1 h.len) h2).trans (h.oth b' h1 h2)⟩
theorem RowE.lt {b:Nat}{H H1:Hp}{l:List En}(h:RowE b H l H1):b<H1.length:=(List.getElem?_eq_some_iff.1 h.row).1
theorem RowE.grow {b:Nat}{H H1 H2:Hp}{l:List En}(h:RowE b H l H1)(x:HX H1 H2):RowE b H l H2 :=
  ⟨x.get h.row,Nat.le_trans h.len x.len,fun b' h1 h2=>(x.same (Nat.lt_of_lt_of_le h1 h.len)).trans (h.oth b' h1 h2)⟩
theorem RowE.set {b:Nat}{H H1:Hp}{l l':List En}(h:RowE b H l H1):RowE b H l' (H1.set b (.row (enC.all l') true)) :=
  ⟨setGet h.lt,by simpa using h.len,fun b' h1 h2=>by rw [List.getElem?_set_ne (fun e=>h2 e.symm)];exact h.oth b' h1 h2⟩
theorem row_ld {H:Hp}{b:Nat}{l:List En}(h:H[b]? = some (.row (enC.all l) true)){i:Nat}(hi:i<l.length){L:Lo}:vload (some 6) L H (.ptr b (i*6))=some (.agg [.int .i64 (l.getD i default).p,.int .i64 (l.getD i default).s,.int .i64 (l.getD i default).a,.int .i64 (l.getD i default).b,.int .i64 (l.getD i default).c,.str (l.getD i default).t]):=by
  have o:OwnT 0 enC H (.sl b 0 l.length 6) l:=.row (Nat.zero_le _) h
  have:=en_load o.lst hi (L:=L)
  rw [show ept 6 (.sl b 0 l.length 6) i=.ptr b (0+i*6) from rfl,Nat.zero_add] at this
  exact this
theorem row_st {lim:Nat}{H:Hp}{b:Nat}{l:List En}(h:H[b]? = some (.row (enC.all l) true))(hlim:lim≤b){i:Nat}(hi:i<l.length){L:Lo}(e:En):vstore lim L H (.ptr b (i*6)) (.agg [.int .i64 e.p,.int .i64 e.s,.int .i64 e.a,.int .i64 e.b,.int .i64 e.c,.str e.t]) 6=some (L,H.set b (.row (enC.all (l.set i e)) true)):=by
  have o:OwnT b enC H (.sl b 0 l.length 6) l:=.row (Nat.le_refl _) h
  have:=o.store (lim:=lim) (i:=i) (j:=0) (x:=.agg [.int .i64 e.p,.int .i64 e.s,.int .i64 e.a,.int .i64 e.b,.int .i64 e.c,.str e.t]) (y:=e) (L:=L) (sz:=6) hlim hi rfl rfl (by omega) (by
    show e.cells=splice (l.getD i default).cells 0 e.cells
    simp [En.cells,splice])
  rw [show eptf 6 (.sl b 0 l.length 6) i 0=.ptr b (0+i*6+0) from rfl,Nat.zero_add,Nat.add_zero] at this
  exact this
def CmpE (g:FuncId)(cf:En→En→Int):Prop :=
  g≠3999999∧∀(H:Hp) (lim:Nat) (x y:En) (K:V→Hp→Prop),(∀H',HX H H'→K (.int .i64 (cf x y)) H')→VCall tbl lim g [.agg x.cells,.agg y.cells] H K
section
variable {lim:Nat}{H:Hp}{K:V→Hp→Prop}{b:Nat}{g:FuncId}{l:List En}{cf:En→En→Int}
theorem isort_en (hb:H[b]? = some (.row (enC.all l) true)) (hlim:lim≤b) (hc:CmpE g cf) (ho:Ordr cf) {a e:Nat} (hae:a≤e∧e≤l.length) (hl:l.length≤100000)
    (hK:∀H' l',RowE b H l' H'→PermR a e l l'→SortR cf a e l'→K (.tup []) H'):VCall tbl lim 96 [.sl b 0 l.length 6,.int .i64 a,.int .i64 e,.func (.func g) [] []] H K:=by
  refine VCall_fn tbl_at96 rfl ?_
  simp (disch:=omega) [vf96,wrap_i64]
  refine wLoop_up (e-(a+1)) (fun i fr L H'=>∃l',(fr 0=.sl b 0 l.length 6∧fr 1=.int .i64 a∧fr 2=.int .i64 e∧fr 3=.func (.func g) [] []∧fr 8=.int .i64 ((a+1+i:Nat):Int))∧L=[]∧RowE b H l' H'∧PermR a e l l'∧SortR cf a (min e (a+1+i)) l') ⟨l,by simp,rfl,RowE.refl hb,PermR.refl,fun p q h1 h2 h3=>by omega⟩ ?_
  rintro i hi fr L H' ⟨l',⟨f0,f1,f2,f3,f8⟩,rfl,hr,hp,hs⟩
  simp [f0,f1,f2,f3,f8]
  refine cond_dec (fun ht => ?_) fun hfl => ?_
  · have ht:i<e-(a+1):=by omega
    rw [Nat.min_eq_right (by omega)] at hs
    simp [f8]
    refine wLoop_m (n:=i+1) (fun m fr L H'=>∃l',(fr 0=.sl b 0 l.length 6∧fr 1=.int .i64 a∧fr 2=.int .i64 e∧fr 3=.func (.func g) [] []∧fr 8=.int .i64 ((a+1+i:Nat):Int)∧fr 9=.int .i64 ((a+m:Nat):Int))∧L=[]∧RowE b H l' H'∧PermR a e l l'∧m≤i+1∧InsR cf a (a+1+i) (a+m) l') ⟨l',by simp [f0,f1,f2,f3,f8];omega,rfl,hr,hp,Nat.le_refl _,by rw [show a+(i+1)=a+1+i by omega];exact InsR.start hs⟩ ?_
    clear f0 f1 f2 f3 f8 hr hp hs l'
    rintro m fr L H' ⟨l',⟨f0,f1,f2,f3,f8,f9⟩,rfl,hr,hp,hm,hI⟩
    have hlen:=hp.len
    by_cases hm0:m=0
    · subst hm0
      have hs:=hI.done ho (by omega) (by omega) (Or.inl rfl)
      simp (disch:=omega) [f0,f1,f2,f3,f8,f9,wrap_i64]
      refine ⟨by omega,by omega,l',hr,hp,?_⟩
      rw [show a+1+(i+1)=a+1+i+1 by omega];exact hs
    · have e1:((a:Int)+(m:Int)).toNat=a+m:=by omega
      have e2:((a:Int)+(m:Int)-1).toNat=a+m-1:=by omega
      have g1:=row_ld hr.row (i:=a+m) (by omega) (L:=[])
      have g2:=row_ld hr.row (i:=a+m-1) (by omega) (L:=[])
      have hgt:((a:Int)<(a:Int)+(m:Int))=True:=eq_true (by omega)
      simp (disch:=omega) [f0,f1,f2,f3,f8,f9,hgt,wrap_i64,e1,e2,g1,g2,hc.1,-vload_ptrO]
      refine hc.2 _ _ (l'.getD (a+m) default) (l'.getD (a+m-1) default) _ fun H2 x2 => ?_
      have hr2:=hr.grow x2
      have g1:=row_ld hr2.row (i:=a+m) (by omega) (L:=[])
      have g2:=row_ld hr2.row (i:=a+m-1) (by omega) (L:=[])
      simp
      refine cond_dec (fun hlt => ?_) fun hlt => ?_
      · have w1:=row_st hr2.row hlim (i:=a+m) (by omega) (L:=[]) (l'.getD (a+m-1) default)
        have hr3:=hr2.set (l':=l'.set (a+m) (l'.getD (a+m-1) default))
        have w2:=row_st hr3.row hlim (i:=a+m-1) (by simp;omega) (L:=[]) (l'.getD (a+m) default)
        have hr4:=hr3.set (l':=swp l' (a+m) (a+m-1))
        have hsw:=InsR.swap ho hI (by omega) (by omega) (by omega) hlt
        have hsw:InsR cf a (a+1+i) (a+(m-1)) (swp l' (a+m) (a+m-1)):=by
          have e3:a+(m-1)=a+m-1:=by omega
          rw [e3];exact hsw
        have hps:=hp.trans (swp_perm (l:=l') (i:=a+m) (j:=a+m-1) (a:=a) (b:=e) ⟨by omega,by omega⟩ ⟨by omega,by omega⟩ (by omega))
        simp (disch:=omega) [f0,f1,f2,f3,f8,f9,wrap_i64,e1,e2,g1,g2,w1,w2,-vstore,-vload_ptrO]
        first | exact ⟨m-1,by omega,by omega,_,hr2.set (l':=swp l' (a+m) (a+m-1)),hps,by omega,hsw⟩ | exact ⟨m-1,by omega,by omega,_,hr4,hps,by omega,hsw⟩
      · have hs:=hI.done ho (by omega) (by omega) (Or.inr hlt)
        simp (disch:=omega) [f0,f1,f2,f3,f8,f9,wrap_i64]
        refine ⟨by omega,by omega,l',hr2,hp,?_⟩
        rw [show a+1+(i+1)=a+1+i+1 by omega];exact hs
  · have:e≤a+1+i:=by omega
    rw [Nat.min_eq_left this] at hs
    simp
    exact hK _ _ hr hp hs
theorem swapRange_en (hb:H[b]? = some (.row (enC.all l) true))(hlim:lim≤b){x y n:Nat}{f:V}(hxy:x+n≤y)(hy:y+n≤l.length)(hl:l.length≤100000)
    (hK:∀H',RowE b H (swr l x y n) H'→K (.tup []) H'):VCall tbl lim 126 [.sl b 0 l.length 6,.int .i64 x,.int .i64 y,.int .i64 n,f] H K:=by
  refine VCall_fn tbl_at126 rfl ?_
  simp (disch:=omega) [vf126,wrap_i64]
  refine wLoop_up n (fun i fr L H'=>(fr 0=.sl b 0 l.length 6∧fr 1=.int .i64 x∧fr 2=.int .i64 y∧fr 3=.int .i64 n∧fr 10=.int .i64 i)∧L=[]∧RowE b H (swr l x y i) H') ⟨by simp,rfl,RowE.refl hb⟩ ?_
  rintro i hi fr L H' ⟨⟨f0,f1,f2,f3,f10⟩,rfl,hr⟩
  simp [f0,f1,f2,f3,f10]
  refine cond_dec (fun ht => ?_) fun hfl => ?_
  · have ht:i<n:=by omega
    have hlen:(swr l x y i).length=l.length:=swr_len
    have e1:((x:Int)+(i:Int)).toNat=x+i:=by omega
    have e2:((y:Int)+(i:Int)).toNat=y+i:=by omega
    have g1:=row_ld hr.row (i:=x+i) (by omega) (L:=[])
    have g2:=row_ld hr.row (i:=y+i) (by omega) (L:=[])
    have w1:=row_st hr.row hlim (i:=x+i) (by omega) (L:=[]) ((swr l x y i).getD (y+i) default)
    have hr3:=hr.set (l':=(swr l x y i).set (x+i) ((swr l x y i).getD (y+i) default))
    have w2:=row_st hr3.row hlim (i:=y+i) (by simp;omega) (L:=[]) ((swr l x y i).getD (x+i) default)
    have hr4:=hr3.set (l':=swp (swr l x y i) (x+i) (y+i))
    simp (disch:=omega) [f0,f1,f2,f3,f10,wrap_i64,e1,e2,g1,g2,w1,w2,-vstore,-vload_ptrO]
    first | exact ⟨by omega,hr.set (l':=swp (swr l x y i) (x+i) (y+i))⟩ | exact ⟨by omega,hr4⟩
  have:i=n:=by omega
  subst this
  simp
  exact hK _ hr
theorem rotate_en (hb:H[b]? = some (.row (enC.all l) true))(hlim:lim≤b){x m y:Nat}{f:V}(hf:stor f=true)(hxm:x<m)(hmy:m<y)(hy:y≤l.length)(hl:l.length≤100000)
    (hK:∀H' l',RowE b H l' H'→PermR x y l l'→RotR x m y l l'→K (.tup []) H'):VCall tbl lim 117 [.sl b 0 l.length 6,.int .i64 x,.int .i64 m,.int .i64 y,f] H K:=by
  refine VCall_fn tbl_at117 rfl ?_
  simp (disch:=omega) [vf117,wrap_i64]
  refine wLoop_m (n:=y-x) (fun k fr L H'=>∃l' i j,(fr 0=.sl b 0 l.length 6∧fr 2=.int .i64 m∧fr 4=f∧fr 10=.int .i64 (i:Nat)∧fr 11=.int .i64 (j:Nat))∧L=[]∧RowE b H l' H'∧PermR x y l l'∧RotI x m y i j l l'∧(0<i∧0<j∧x≤m-i∧i≤m∧m+j≤y)∧k=i+j) ⟨l,m-x,y-m,by simp;omega,rfl,RowE.refl hb,PermR.refl,RotI.start ⟨by omega,by omega⟩,by omega,by omega⟩ ?_
  rintro k fr L H' ⟨l',i,j,⟨f0,f2,f4,f10,f11⟩,rfl,hr,hp,hI,hij,hk⟩
  have hlen:=hp.len
  simp [f0,f2,f4,f10,f11]
  by_cases e:i=j
  · subst e
    simp (disch:=omega) [f0,f2,f4,f10,f11,wrap_i64,hf]
    have e1:(m:Int)-(i:Int)=((m-i:Nat):Int):=by omega
    rw [e1,←hlen]
    refine swapRange_en hr.row hlim (x:=m-i) (y:=m) (n:=i) (by omega) (by omega) (by omega) fun H2 hr2 => ?_
    simp
    exact hK _ _ (hr.trans hr2) (hp.trans (swr_perm (by omega) (by omega) (by omega) (by omega) (by omega))) (hI.done (by omega) (by omega))
  · have e':¬(i:Int)=(j:Int):=by omega
    by_cases h:j<i
    · simp (disch:=omega) [f0,f2,f4,f10,f11,wrap_i64,hf,eq_false e',h,show (j:Int)<i by omega]
      have e1:(m:Int)-(i:Int)=((m-i:Nat):Int):=by omega
      rw [e1,←hlen]
      refine swapRange_en hr.row hlim (x:=m-i) (y:=m) (n:=j) (by omega) (by omega) (by omega) fun H2 hr2 => ?_
      simp (disch:=omega) [f0,f2,f4,f10,f11,wrap_i64]
      refine ⟨_,?_,swr l' (m-i) m j,i-j,j,(by omega),hr.trans hr2,hp.trans (swr_perm (by omega) (by omega) (by omega) (by omega) (by omega)),hI.more (by omega) h (by omega),by omega,rfl⟩
      omega
    · simp (disch:=omega) [f0,f2,f4,f10,f11,wrap_i64,hf,eq_false e',h,show ¬(j:Int)<i by omega]
      have e1:(m:Int)-(i:Int)=((m-i:Nat):Int):=by omega
      have e2:(m:Int)+(j:Int)-(i:Int)=((m+j-i:Nat):Int):=by omega
      rw [e1,e2,←hlen]
      refine swapRange_en hr.row hlim (x:=m-i) (y:=m+j-i) (n:=i) (by omega) (by omega) (by omega) fun H2 hr2 => ?_
      simp (disch:=omega) [f0,f2,f4,f10,f11,wrap_i64]
      refine ⟨_,?_,swr l' (m-i) (m+j-i) i,i,j-i,(by omega),hr.trans hr2,hp.trans (swr_perm (by omega) (by omega) (by omega) (by omega) (by omega)),hI.less (by omega) (by omega) (by omega),by omega,rfl⟩
      omega
end
end Go.Proofs.YtiilicnmcpjmkaaGreatDoor.Vm
namespace Go.Proofs.YtiilicnmcpjmkaaGreatDoor.Vm
open Go
set_option maxRecDepth 100000
set_option linter.unusedSimpArgs false
set_option linter.unusedVariables false
attribute [-simp] List.getD_eq_getElem?_getD
theorem wrap_u64E {n:Int}(h1:0≤n)(h2:n≤18446744073709551615):IntKind.wrap .u64 n=n:=by
  simp [IntKind.wrap,IntKind.bits,IntKind.signed];omega
theorem vbin_shr1 {a:Int}{k':IntKind}(h:0≤a):vbin .shr (.int .u64 a) (.int k' 1)=some (.int .u64 (a / 2)):=by
  simp only [vbin,isShift,vshift,if_true]
  rw [if_neg (by omega)]
  have:(2:Int) ^ (min (1:Int).toNat (IntKind.u64.bits))=2:=by decide
  rw [this,Int.fdiv_eq_ediv_of_nonneg _ (by omega)]
theorem wLoop_postE {T:Tbl}{lim:Nat}{body:VCode}{Q:VExit→St→Prop}{s:St}(id:Nat)(P:Fr→Lo→Hp→Prop)(h:wCode T lim (.loop body) (fun e s=>e=.exit id∧P s.fr s.L s.H) s)(hQ:∀fr L H,P fr L H→Q (.exit id) ⟨fr,L,H⟩):wCode T lim (.loop body) Q s:=by
  obtain ⟨n,e,s',h1,he,h2⟩:=h
  subst he
  exact ⟨n,_,s',h1,hQ _ _ _ h2⟩
section
variable {lim:Nat}{H:Hp}{K:V→Hp→Prop}{b:Nat}{g:FuncId}{l:List En}{cf:En→En→Int}
theorem front_en (hb:H[b]? = some (.row (enC.all l) true)) (hlim:lim≤b) (hc:CmpE g cf) (ho:Ordr cf) {x y:Nat} (hxy:x+1<y) (hy:y≤l.length) (hl:l.length≤100000) (h2:SortR cf (x+1) y l)
    (hK:∀H' l',RowE b H l' H'→PermR x y l l'→SortR cf x y l'→K (.tup []) H'):VCall tbl lim 97 [.sl b 0 l.length 6,.int .i64 x,.int .i64 ((x+1:Nat):Int),.int .i64 y,.func (.func g) [] []] H K:=by
  refine VCall_fn tbl_at97 rfl ?_
  have e1:((x:Int)+1-(x:Int))=1:=by omega
  simp (disch:=omega) [vf97,wrap_i64,e1]
  refine wLoop_postE 0 (fun fr L H'=>∃i:Nat,(fr 0=.sl b 0 l.length 6∧fr 1=.int .i64 x∧fr 10=.int .i64 i)∧L=[]∧RowE b H l H'∧(x+1≤i∧i≤y)∧(x+1<i→cf (l.getD (i-1) default) (l.getD x default)<0)∧(i<y→leC cf (l.getD x default) (l.getD i default))) ?_ ?_
  · refine wLoop_m (n:=y-(x+1)) (fun k fr L H'=>∃i j:Nat,(fr 0=.sl b 0 l.length 6∧fr 1=.int .i64 x∧fr 4=.func (.func g) [] []∧fr 10=.int .i64 i∧fr 11=.int .i64 j)∧L=[]∧RowE b H l H'∧(x+1≤i∧i≤j∧j≤y)∧(x+1<i→cf (l.getD (i-1) default) (l.getD x default)<0)∧(j<y→leC cf (l.getD x default) (l.getD j default))∧k=j-i) ⟨x+1,y,by simp,rfl,RowE.refl hb,by omega,fun h=>by omega,fun h=>by omega,rfl⟩ ?_
    rintro k fr L H' ⟨i,j,⟨f0,f1,f4,f10,f11⟩,rfl,hr,hij,hlo,hhi,hk⟩
    simp [f0,f1,f4,f10,f11]
    by_cases h:i<j
    · have e2:((i:Int)+(j:Int)) / 2=(((i+j) / 2:Nat):Int):=by omega
      generalize hm:(i+j) / 2=m at e2
      have g1:=row_ld hr.row (i:=m) (by omega) (L:=[])
      have g2:=row_ld hr.row (i:=x) (by omega) (L:=[])
      simp (disch:=omega) [f0,f1,f4,f10,f11,h,show (i:Int)<j by omega,wrap_i64,wrap_u64E,vbin_shr1,e2,g1,g2,hc.1,-vload_ptrO]
      refine hc.2 _ _ (l.getD m default) (l.getD x default) _ fun H2 x2 => ?_
      have hr2:=hr.grow x2
      simp
      refine cond_dec (fun hlt => ?_) fun hlt => ?_
      · simp (disch:=omega) [f0,f1,f4,f10,f11,wrap_i64]
        exact ⟨j-(m+1),by omega,m+1,j,by omega,hr2,by omega,fun _=>hlt,hhi,rfl⟩
      · simp (disch:=omega) [f0,f1,f4,f10,f11,wrap_i64]
        exact ⟨m-i,by omega,i,m,by omega,hr2,by omega,hlo,fun _=>hlt,rfl⟩
    · have:i=j:=by omega
      subst this
      simp [f0,f1,f4,f10,f11]
      exact ⟨i,by omega,hr,by omega,hlo,hhi⟩
  · rintro fr L H' ⟨i,⟨f0,f1,f10⟩,rfl,hr,hi,hlo,hhi⟩
    simp (disch:=omega) [f0,f1,f10,wrap_i64]
    refine wLoop_up (i-(x+1)) (fun t fr L H'=>(fr 0=.sl b 0 l.length 6∧fr 10=.int .i64 i∧fr 13=.int .i64 ((x+t:Nat):Int))∧L=[]∧RowE b H (shU l x t) H') ⟨by simp [f0,f10],rfl,hr⟩ ?_
    clear f0 f1 f10
    rintro t ht0 fr L H' ⟨⟨f0,f10,f13⟩,rfl,hr⟩
    have hlen:(shU l x t).length=l.length:=shU_len
    simp (disch:=omega) [f0,f10,f13,wrap_i64]
    refine cond_dec (fun ht => ?_) fun hfl => ?_
    · have ht:t<i-(x+1):=by omega
      have e1:((x:Int)+(t:Int)).toNat=x+t:=by omega
      have e2:((x:Int)+(t:Int)+1).toNat=x+t+1:=by omega
      have g1:=row_ld hr.row (i:=x+t) (by omega) (L:=[])
      have g2:=row_ld hr.row (i:=x+t+1) (by omega) (L:=[])
      have w1:=row_st hr.row hlim (i:=x+t) (by omega) (L:=[]) ((shU l x t).getD (x+t+1) default)
      have hr3:=hr.set (l':=(shU l x t).set (x+t) ((shU l x t).getD (x+t+1) default))
      have w2:=row_st hr3.row hlim (i:=x+t+1) (by simp;omega) (L:=[]) ((shU l x t).getD (x+t) default)
      have hr4:=hr3.set (l':=shU l x (t+1))
      simp (disch:=omega) [f0,f10,f13,wrap_i64,e1,e2,g1,g2,w1,w2,-vstore,-vload_ptrO]
      first | exact ⟨by omega,by omega,hr.set (l':=shU l x (t+1))⟩ | exact ⟨by omega,by omega,hr4⟩
    have:t=i-(x+1):=by omega
    subst this
    simp
    exact hK _ _ hr (shU_perm (Nat.le_refl _) (by omega) hy) (sort_front ho h2 hi hlo hhi (shU_rot (by omega) (by omega)))
theorem back_en (hb:H[b]? = some (.row (enC.all l) true)) (hlim:lim≤b) (hc:CmpE g cf) (ho:Ordr cf) {x m:Nat} (hxm:x+1<m) (hy:m+1≤l.length) (hl:l.length≤100000) (h1:SortR cf x m l)
    (hK:∀H' l',RowE b H l' H'→PermR x (m+1) l l'→SortR cf x (m+1) l'→K (.tup []) H'):VCall tbl lim 97 [.sl b 0 l.length 6,.int .i64 x,.int .i64 m,.int .i64 ((m+1:Nat):Int),.func (.func g) [] []] H K:=by
  refine VCall_fn tbl_at97 rfl ?_
  have e1:¬(m:Int)-(x:Int)=1:=by omega
  have e1':(m:Int)+1-(m:Int)=1:=by omega
  simp (disch:=omega) [vf97,wrap_i64,eq_false e1,e1']
  refine wLoop_postE 4 (fun fr L H'=>∃i:Nat,(fr 0=.sl b 0 l.length 6∧fr 2=.int .i64 m∧fr 14=.int .i64 i)∧L=[]∧RowE b H l H'∧(x≤i∧i≤m)∧(x<i→leC cf (l.getD (i-1) default) (l.getD m default))∧(i<m→cf (l.getD m default) (l.getD i default)<0)) ?_ ?_
  · refine wLoop_m (n:=m-x) (fun k fr L H'=>∃i j:Nat,(fr 0=.sl b 0 l.length 6∧fr 2=.int .i64 m∧fr 4=.func (.func g) [] []∧fr 14=.int .i64 i∧fr 15=.int .i64 j)∧L=[]∧RowE b H l H'∧(x≤i∧i≤j∧j≤m)∧(x<i→leC cf (l.getD (i-1) default) (l.getD m default))∧(j<m→cf (l.getD m default) (l.getD j default)<0)∧k=j-i) ⟨x,m,by simp,rfl,RowE.refl hb,by omega,fun h=>by omega,fun h=>by omega,rfl⟩ ?_
    rintro k fr L H' ⟨i,j,⟨f0,f2,f4,f14,f15⟩,rfl,hr,hij,hlo,hhi,hk⟩
    simp [f0,f2,f4,f14,f15]
    by_cases h:i<j
    · have e2:((i:Int)+(j:Int)) / 2=(((i+j) / 2:Nat):Int):=by omega
      generalize hm:(i+j) / 2=q at e2
      have g1:=row_ld hr.row (i:=m) (by omega) (L:=[])
      have g2:=row_ld hr.row (i:=q) (by omega) (L:=[])
      simp (disch:=omega) [f0,f2,f4,f14,f15,h,show (i:Int)<j by omega,wrap_i64,wrap_u64E,vbin_shr1,e2,g1,g2,hc.1,-vload_ptrO]
      refine hc.2 _ _ (l.getD m default) (l.getD q default) _ fun H2 x2 => ?_
      have hr2:=hr.grow x2
      simp
      by_cases hlt:cf (l.getD m default) (l.getD q default)<0
      · simp (disch:=omega) [f0,f2,f4,f14,f15,wrap_i64,hlt]
        exact ⟨q-i,by omega,i,q,by omega,hr2,by omega,hlo,fun _=>hlt,rfl⟩
      · simp (disch:=omega) [f0,f2,f4,f14,f15,wrap_i64,hlt]
        exact ⟨j-(q+1),by omega,q+1,j,by omega,hr2,by omega,fun _=>hlt,hhi,rfl⟩
    · have:i=j:=by omega
      subst this
      simp [f0,f2,f4,f14,f15]
      exact ⟨i,by omega,hr,by omega,hlo,hhi⟩
  · rintro fr L H' ⟨i,⟨f0,f2,f14⟩,rfl,hr,hi,hlo,hhi⟩
    simp (disch:=omega) [f0,f2,f14,wrap_i64]
    refine wLoop_up (m-i) (fun t fr L H'=>(fr 0=.sl b 0 l.length 6∧fr 14=.int .i64 i∧fr 17=.int .i64 ((m-t:Nat):Int))∧L=[]∧RowE b H (shD l m t) H') ⟨by simp [f0,f14],rfl,hr⟩ ?_
    clear f0 f2 f14
    rintro t ht0 fr L H' ⟨⟨f0,f14,f17⟩,rfl,hr⟩
    have hlen:(shD l m t).length=l.length:=shD_len
    simp (disch:=omega) [f0,f14,f17,wrap_i64]
    refine cond_dec (fun ht => ?_) fun hfl => ?_
    · have g1:=row_ld hr.row (i:=m-t) (by omega) (L:=[])
      have g2:=row_ld hr.row (i:=m-t-1) (by omega) (L:=[])
      have w1:=row_st hr.row hlim (i:=m-t) (by omega) (L:=[]) ((shD l m t).getD (m-t-1) default)
      have hr3:=hr.set (l':=(shD l m t).set (m-t) ((shD l m t).getD (m-t-1) default))
      have w2:=row_st hr3.row hlim (i:=m-t-1) (by simp;omega) (L:=[]) ((shD l m t).getD (m-t) default)
      have hr4:=hr3.set (l':=shD l m (t+1))
      have hr5:=hr.set (l':=shD l m (t+1))
      have hs:shD l m (t+1)=((shD l m t).set (m-t) ((shD l m t).getD (m-t-1) default)).set (m-t-1) ((shD l m t).getD (m-t) default):=rfl
      rw [hs] at hr4 hr5
      generalize hq:m-t=q at *
      have hq1:1≤q:=by omega
      have e3:((q:Int)-1).toNat=q-1:=by omega
      simp (disch:=omega) [f0,f14,f17,wrap_i64,e3,g1,g2,w1,w2,-vstore,-vload_ptrO]
      rw [hs]
      first | exact ⟨by omega,by omega,hr5⟩ | exact ⟨by omega,by omega,hr4⟩
    have:t=m-i:=by omega
    subst this
    simp
    exact hK _ _ hr (shD_perm (by omega) hy (by omega)) (sort_back ho h1 hi hlo hhi (shD_rot (by omega) (by omega)))
end
end Go.Proofs.YtiilicnmcpjmkaaGreatDoor.Vm
namespace Go.Proofs.YtiilicnmcpjmkaaGreatDoor.Vm
open Go
set_option maxRecDepth 100000
set_option linter.unusedSimpArgs false
set_option linter.unusedVariables false
attribute [-simp] List.getD_eq_getElem?_getD
section
variable {b:Nat}{g:FuncId}{cf:En→En→Int}
theorem symMerge_en (hc:CmpE g cf) (ho:Ordr cf):∀(N:Nat) {lim:Nat} {H:Hp} {K:V→Hp→Prop} {l:List En} {x m y:Nat},y-x≤N→H[b]? = some (.row (enC.all l) true)→lim≤b→x<m∧m<y→y≤l.length→l.length≤100000→SortR cf x m l→SortR cf m y l →
    (∀H' l',RowE b H l' H'→PermR x y l l'→SortR cf x y l'→K (.tup []) H')→VCall tbl lim 97 [.sl b 0 l.length 6,.int .i64 x,.int .i64 m,.int .i64 y,.func (.func g) [] []] H K:=by
  intro N
  induction N with
  | zero=>intro lim H K l x m y hN hb hlim hxy;omega
  | succ N ih =>
    intro lim H K l x m y hN hb hlim hxy hy hl h1 h2 hK
    by_cases hm1:x+1=m
    · subst hm1
      exact front_en hb hlim hc ho hxy.2 hy hl h2 hK
    by_cases hm2:m+1=y
    · subst hm2
      exact back_en hb hlim hc ho (by omega) hy hl h1 hK
    refine VCall_fn tbl_at97 rfl ?_
    have hd:2*((x+y) / 2)≤x+y∧x+y≤2*((x+y) / 2)+1:=by omega
    have e0:((x:Int)+(y:Int)) / 2=(((x+y) / 2:Nat):Int):=by omega
    have hbox:=fun s=>SymS.box (cf:=cf) (l:=l) (s:=s) hxy
    have hturn:=fun s l'=>sym_turn (l:=l) (l':=l') (s:=s) ho hxy h1 h2
    generalize (x+y) / 2=mid at hd e0 hbox hturn
    have e1:¬(m:Int)-(x:Int)=1:=by omega
    have e2:¬(y:Int)-(m:Int)=1:=by omega
    simp (disch:=omega) [vf97,wrap_i64,wrap_u64E,vbin_shr1,eq_false e1,eq_false e2,e0]
    refine cond_dec (fun hmid => ?_) fun hmid => ?_
    simp (disch:=omega) [wrap_i64]
    rotate_left
    simp (disch:=omega) [wrap_i64]
    all_goals
      refine wLoop_postE 8 (fun fr L H'=>∃s:Nat,(fr 0=.sl b 0 l.length 6∧fr 1=.int .i64 x∧fr 2=.int .i64 m∧fr 3=.int .i64 y∧fr 4=.func (.func g) [] []∧fr 18=.int .i64 mid∧fr 19=.int .i64 ((mid+m:Nat):Int)∧fr 20=.int .i64 s)∧L=[]∧RowE b H l H'∧SymS cf l (mid+m) (if mid<m then mid+m-y else x) (if mid<m then mid else m) s) ?_ ?_
      focus
        have hlh:(if mid<m then mid+m-y else x)≤(if mid<m then mid else m)∧(if mid<m then mid else m)≤m∧mid+m≤y+(if mid<m then mid+m-y else x)∧(if mid<m then mid else m)≤mid:=by split<;>omega
        refine wLoop_m (n:=m) (fun k fr L H'=>∃i j:Nat,(fr 0=.sl b 0 l.length 6∧fr 1=.int .i64 x∧fr 2=.int .i64 m∧fr 3=.int .i64 y∧fr 4=.func (.func g) [] []∧fr 18=.int .i64 mid∧fr 19=.int .i64 ((mid+m:Nat):Int)∧fr 20=.int .i64 i∧fr 21=.int .i64 j∧fr 22=.int .i64 ((mid+m-1:Nat):Int))∧L=[]∧RowE b H l H'∧((if mid<m then mid+m-y else x)≤i∧i≤j∧j≤(if mid<m then mid else m))∧((if mid<m then mid+m-y else x)<i→leC cf (l.getD (i-1) default) (l.getD (mid+m-i) default))∧(j<(if mid<m then mid else m)→cf (l.getD (mid+m-1-j) default) (l.getD j default)<0)∧j-i≤k) ⟨(if mid<m then mid+m-y else x),(if mid<m then mid else m),by simp [hmid];omega,rfl,RowE.refl hb,⟨Nat.le_refl _,hlh.1,Nat.le_refl _⟩,fun h=>absurd h (Nat.lt_irrefl _),fun h=>absurd h (Nat.lt_irrefl _),by omega⟩ ?_
        generalize (if mid<m then mid+m-y else x)=lo at hlh ⊢
        generalize (if mid<m then mid else m)=hi at hlh ⊢
        rintro k fr L H' ⟨i,j,⟨f0,f1,f2,f3,f4,f18,f19,f20,f21,f22⟩,rfl,hr,hij,hlo,hhi,hk⟩
        simp [f0,f1,f2,f3,f4,f18,f19,f20,f21,f22]
        by_cases h:i<j
        · have e2:((i:Int)+(j:Int)) / 2=(((i+j) / 2:Nat):Int):=by omega
          generalize hm:(i+j) / 2=q at e2
          have hq:i≤q∧q<j:=by omega
          have e3:((mid+m-1:Nat):Int)-(q:Int)=((mid+m-1-q:Nat):Int):=by omega
          have g1:=row_ld hr.row (i:=mid+m-1-q) (by omega) (L:=[])
          have g2:=row_ld hr.row (i:=q) (by omega) (L:=[])
          simp (disch:=omega) [f0,f1,f2,f3,f4,f18,f19,f20,f21,f22,h,show (i:Int)<j by omega,wrap_i64,wrap_u64E,vbin_shr1,e2,e3,g1,g2,hc.1,-vload_ptrO]
          refine hc.2 _ _ (l.getD (mid+m-1-q) default) (l.getD q default) _ fun H2 x2 => ?_
          have hr2:=hr.grow x2
          simp
          by_cases hlt:cf (l.getD (mid+m-1-q) default) (l.getD q default)<0
          · simp (disch:=omega) [f0,f1,f2,f3,f4,f18,f19,f20,f21,f22,wrap_i64,hlt]
            exact ⟨q-i,by omega,i,q,by omega,hr2,by omega,hlo,fun _=>hlt,by omega⟩
          · simp (disch:=omega) [f0,f1,f2,f3,f4,f18,f19,f20,f21,f22,wrap_i64,hlt]
            refine ⟨j-(q+1),by omega,q+1,j,by omega,hr2,by omega,fun _ => ?_,hhi,by omega⟩
            rw [show mid+m-(q+1)=mid+m-1-q by omega];exact hlt
        · have:i=j:=by omega
          subst this
          simp [f0,f1,f2,f3,f4,f18,f19,f20,f21,f22]
          exact ⟨i,by omega,hr,⟨by omega,hlo,hhi⟩⟩
      rintro fr L H' ⟨s,⟨f0,f1,f2,f3,f4,f18,f19,f20⟩,rfl,hr,hS⟩
      have B:=hbox s hS
      have T:=hturn s
      clear hbox hturn
      obtain ⟨E,hE⟩:∃E,E=mid+m-s:=⟨_,rfl⟩
      have e4:(mid:Int)+(m:Int)-(s:Int)=(E:Int):=by omega
      rw [←hE] at B T
      simp (disch:=omega) [f0,f1,f2,f3,f4,f18,f19,f20,wrap_i64,e4]
      refine cond_bool (fun hrot => ?_) (fun hrot => ?_)
      simp only [Bool.and_eq_true,decide_eq_true_eq] at hrot
      simp (disch:=omega) [f0,f1,f2,f3,f4,f18,f19,f20,wrap_i64]
      refine rotate_en hr.row hlim (x:=s) (m:=m) (y:=E) rfl (by omega) (by omega) (by omega) hl fun H1 l1 hr1 hp1 hR => ?_
      replace hr1:=hr.trans hr1
      replace hp1:=hp1.wide (x:=x) (y:=y) (by omega) (by omega)
      simp (disch:=omega) [f0,f1,f2,f3,f4,f18,f19,f20,wrap_i64]
      rotate_left
      simp only [Bool.and_eq_false_iff,decide_eq_false_iff_not] at hrot
      simp (disch:=omega) [f0,f1,f2,f3,f4,f18,f19,f20,wrap_i64]
      obtain ⟨l1,hr1,hp1,hR⟩:∃l1,RowE b H l1 H'∧PermR x y l l1∧RotR s m E l l1:=⟨l,hr,PermR.refl,RotR.same (by omega)⟩
      all_goals
        obtain ⟨-,s1,s2,s3,s4,cross⟩:=T l1 hS hR
        clear T hR
        have hlen1:=hp1.len
        refine cond_bool (fun hc1 => ?_) (fun hc1 => ?_)
        simp only [Bool.and_eq_true,decide_eq_true_eq] at hc1
        simp (disch:=omega) [f0,f1,f2,f3,f4,f18,f19,f20,wrap_i64]
        rw [←hlen1]
        refine ih (x:=x) (m:=s) (y:=mid) (by omega) hr1.row hlim (by omega) (by omega) (by omega) s1 s2 fun H2 l2 hr2 hp2 hs2 => ?_
        replace hr2:=hr1.trans hr2
        simp (disch:=omega) [f0,f1,f2,f3,f4,f18,f19,f20,wrap_i64]
        rotate_left
        simp only [Bool.and_eq_false_iff,decide_eq_false_iff_not] at hc1
        simp (disch:=omega) [f0,f1,f2,f3,f4,f18,f19,f20,wrap_i64]
        obtain ⟨l2,hr2,hp2,hs2⟩:∃l2,RowE b H l2 _∧PermR x mid l1 l2∧SortR cf x mid l2:=⟨l1,hr1,PermR.refl,by
          by_cases h:x<s
          · rw [show mid=s by omega];exact s1
          · rw [show x=s by omega];exact s2⟩
        all_goals
          have hlen2:=hp2.len
          have k2:∀k,mid≤k∧k<y→l2.getD k default=l1.getD k default:=fun k hk=>hp2.out k (by omega)
          have t3:SortR cf mid E l2:=s3.keep fun k hk=>k2 k (by omega)
          have t4:SortR cf E y l2:=s4.keep fun k hk=>k2 k (by omega)
          have fin:∀H3 l3,RowE b H l3 H3→PermR mid y l2 l3→SortR cf mid y l3→K (.tup []) H3:=fun H3 l3 hr3 hp3 hs3=>by
            refine hK _ _ hr3 (hp1.trans ((hp2.wide (Nat.le_refl _) (by omega)).trans (hp3.wide (by omega) (Nat.le_refl _)))) (SortR.join (l:=l1) (l':=l3) (m:=mid) (by omega) (by omega) cross (fun k hk => ?_) (fun k hk => ?_) (hs2.keep fun k hk=>hp3.out k (by omega)) hs3)
            · obtain ⟨k',h1',h2'⟩:=hp2.mem (by omega) hk
              exact ⟨k',h1',by rw [hp3.out k (by omega),h2']⟩
            · obtain ⟨k',h1',h2'⟩:=hp3.mem (by omega) hk
              exact ⟨k',h1',by rw [h2',k2 k' h1']⟩
          refine cond_bool (fun hc2 => ?_) (fun hc2 => ?_)
          simp only [Bool.and_eq_true,decide_eq_true_eq] at hc2
          simp (disch:=omega) [f0,f1,f2,f3,f4,f18,f19,f20,wrap_i64]
          rw [←hlen1,←hlen2]
          refine ih (x:=mid) (m:=E) (y:=y) (by omega) hr2.row hlim (by omega) (by omega) (by omega) t3 t4 fun H3 l3 hr3 hp3 hs3 => ?_
          simp
          exact fin _ _ (hr2.trans hr3) hp3 hs3
          simp only [Bool.and_eq_false_iff,decide_eq_false_iff_not] at hc2
          simp
          refine fin _ l2 hr2 PermR.refl ?_
          by_cases h:mid<E
          · rw [show y=E by omega];exact t3
          · rw [show mid=E by omega];exact t4
theorem stable_en {lim:Nat} {H:Hp} {K:V→Hp→Prop} {l:List En} (hb:H[b]? = some (.row (enC.all l) true)) (hlim:lim≤b) (hc:CmpE g cf) (ho:Ordr cf) (hl:l.length≤10000)
    (hK:∀H' l',RowE b H l' H'→PermR 0 l.length l l'→SortR cf 0 l.length l'→K (.tup []) H'):VCall tbl lim 58 [.sl b 0 l.length 6,.func (.func g) [] []] H K:=by
  refine VCall_fn tbl_at58 rfl ?_
  simp [vf58]
  refine VCall_fn tbl_at72 rfl ?_
  simp [vf72]
  refine wLoop_m (n:=l.length) (fun k fr L H'=>∃(a:Nat) (l':List En),(fr 0=.sl b 0 l.length 6∧fr 1=.int .i64 l.length∧fr 2=.func (.func g) [] []∧fr 6=.int .i64 20∧fr 7=.int .i64 a∧fr 8=.int .i64 ((a+20:Nat):Int))∧L=[]∧RowE b H l' H'∧PermR 0 l.length l l'∧Pr cf l' 20 0 a∧a≤l.length∧k=l.length-a) ⟨0,l,by simp,rfl,RowE.refl hb,PermR.refl,.nil,by omega,rfl⟩ ?_
  rintro k fr L H1 ⟨a,l1,⟨f0,f1,f2,f6,f7,f8⟩,rfl,hr1,hp1,hpr,ha,hk⟩
  have hlen1:=hp1.len
  simp [f0,f1,f2,f6,f7,f8]
  refine cond_dec (fun ht => ?_) fun hfl => ?_
  · simp (disch:=omega) [f0,f1,f2,f6,f7,f8,wrap_i64]
    rw [←hlen1]
    refine isort_en hr1.row hlim hc ho (a:=a) (e:=a+20) (by omega) (by omega) fun H2 l2 hr2 hp2 hs2 => ?_
    simp (disch:=omega) [f0,f1,f2,f6,f7,f8,wrap_i64]
    exact ⟨l.length-(a+20),by omega,a+20,by omega,l2,hr1.trans hr2,by rw [hlen1];exact hp1.trans (hp2.wide (by omega) (by omega)),.snoc (hpr.keep fun k hk=>hp2.out k (by omega)) hs2,by omega,by omega⟩
  · simp (disch:=omega) [f0,f1,f2,f6,f7,f8,wrap_i64]
    rw [←hlen1]
    refine isort_en hr1.row hlim hc ho (a:=a) (e:=l1.length) (by omega) (by omega) fun H2 l2 hr2 hp2 hs2 => ?_
    have hrn:Rn cf l2 20 l.length 0:=(hpr.keep fun k hk=>hp2.out k (by omega)).glue (.last (by omega) (by rw [←hlen1];exact hs2)) ha
    have hp02:PermR 0 l.length l l2:=hp1.trans (hp2.wide (by omega) (by omega))
    replace hr2:=hr1.trans hr2
    simp
    refine wLoop_m (n:=2*l.length) (fun k fr L H'=>∃(w:Nat) (l':List En),(fr 0=.sl b 0 l.length 6∧fr 1=.int .i64 l.length∧fr 2=.func (.func g) [] []∧fr 6=.int .i64 w)∧L=[]∧RowE b H l' H'∧PermR 0 l.length l l'∧Rn cf l' w l.length 0∧(0<w∧w≤2*l.length+20)∧2*l.length+20≤k+w) ⟨20,l2,by simp [f0,f1,f2,f6,hlen1],rfl,hr2,hp02,hrn,by omega,by omega⟩ ?_
    clear f0 f1 f2 f6 f7 f8 hr1 hp1 hpr hp2 hs2 hr2 hrn hp02 hlen1
    rintro k fr L H3 ⟨w,l3,⟨f0,f1,f2,f6⟩,rfl,hr3,hp3,hrn,hw,hk⟩
    have hlen3:=hp3.len
    simp [f0,f1,f2,f6]
    refine cond_dec (fun ht => ?_) fun hfl => ?_
    · simp (disch:=omega) [f0,f1,f2,f6,wrap_i64]
      refine wLoop_m (n:=l.length) (fun k fr L H'=>∃(a:Nat) (l':List En),(fr 0=.sl b 0 l.length 6∧fr 1=.int .i64 l.length∧fr 2=.func (.func g) [] []∧fr 6=.int .i64 w∧fr 7=.int .i64 a∧fr 8=.int .i64 ((a+2*w:Nat):Int))∧L=[]∧RowE b H l' H'∧PermR 0 l.length l l'∧Pr cf l' (2*w) 0 a∧Rn cf l' w l.length a∧a≤l.length∧l.length≤k+a) ⟨0,l3,by simp [f0,f1,f2,f6],rfl,hr3,hp3,.nil,hrn,by omega,by omega⟩ ?_
      clear f0 f1 f2 f6 hr3 hp3 hrn hlen3
      rintro k4 fr L H4 ⟨a,l4,⟨f0,f1,f2,f6,f7,f8⟩,rfl,hr4,hp4,hpr,hrn,ha,hk4⟩
      have hlen4:=hp4.len
      simp [f0,f1,f2,f6,f7,f8]
      refine cond_dec (fun ht2 => ?_) fun hfl2 => ?_
      · have h2w:a+2*w≤l.length:=by omega
        obtain ⟨s1,s2,r3⟩:=hrn.two hw.1 h2w
        have e1:(a:Int)+(w:Int)=((a+w:Nat):Int):=by omega
        have e2:(a:Int)+2*(w:Int)=((a+2*w:Nat):Int):=by omega
        simp (disch:=omega) [f0,f1,f2,f6,f7,f8,wrap_i64]
        rw [e1,e2,←hlen4]
        refine symMerge_en hc ho _ (x:=a) (m:=a+w) (y:=a+2*w) (Nat.le_refl _) hr4.row hlim (by omega) (by omega) (by omega) s1 s2 fun H5 l5 hr5 hp5 hs5 => ?_
        simp (disch:=omega) [f0,f1,f2,f6,f7,f8,wrap_i64]
        exact ⟨l.length-(a+2*w),by omega,a+2*w,by omega,l5,hr4.trans hr5,by rw [hlen4];exact hp4.trans (hp5.wide (by omega) h2w),.snoc (hpr.keep fun k hk=>hp5.out k (by omega)) hs5,by rw [hlen4];exact r3.keep fun k hk=>hp5.out k (by omega),by omega,by omega⟩
      · have h2w:l.length<a+2*w:=by omega
        have fin:∀H5 l5,RowE b H l5 H5→PermR a l.length l4 l5→SortR cf a l.length l5→RowE b H l5 H5∧PermR 0 l.length l l5∧Rn cf l5 (2*w) l.length 0:=fun H5 l5 hr5 hp5 hs5 =>
          ⟨hr5,hp4.trans (hp5.wide (by omega) (Nat.le_refl _)),(hpr.keep fun k hk=>hp5.out k (by omega)).glue (.last (by omega) hs5) ha⟩
        have e1:(a:Int)+(w:Int)=((a+w:Nat):Int):=by omega
        simp (disch:=omega) [f0,f1,f2,f6,f7,f8,wrap_i64]
        refine cond_dec (fun hm => ?_) fun hm => ?_
        · obtain ⟨s1,s2⟩:=hrn.end2 h2w (by omega)
          simp (disch:=omega) [f0,f1,f2,f6,f7,f8,wrap_i64]
          rw [e1,←hlen4]
          rw [←hlen4] at s2
          refine symMerge_en hc ho _ (x:=a) (m:=a+w) (y:=l4.length) (Nat.le_refl _) hr4.row hlim (by omega) (by omega) (by omega) s1 s2 fun H5 l5 hr5 hp5 hs5 => ?_
          rw [hlen4] at hp5 hs5
          obtain ⟨q1,q2,q3⟩:=fin _ _ (hr4.trans hr5) hp5 hs5
          simp (disch:=omega) [f0,f1,f2,f6,f7,f8,wrap_i64]
          rw [hlen4]
          exact ⟨2*l.length+20-2*w,by omega,w*2,by omega,l5,q1,q2,by rw [Nat.mul_comm];exact q3,by omega,by omega⟩
        · obtain ⟨q1,q2,q3⟩:=fin _ _ hr4 PermR.refl (hrn.end1 (by omega))
          simp (disch:=omega) [f0,f1,f2,f6,f7,f8,wrap_i64]
          exact ⟨2*l.length+20-2*w,by omega,w*2,by omega,l4,q1,q2,by rw [Nat.mul_comm];exact q3,by omega,by omega⟩
    · simp
      exact hK _ _ hr3 hp3 (hrn.end1 (by omega))
end
end Go.Proofs.YtiilicnmcpjmkaaGreatDoor.Vm
namespace Go.Proofs.YtiilicnmcpjmkaaGreatDoor.Vm
open Go
set_option maxRecDepth 100000
set_option linter.unusedSimpArgs false
set_option linter.unusedVariables false
attribute [-simp] List.getD_eq_getElem?_getD
def cmpI (x y:Int):Int:=if x<y then -1 else if y<x then 1 else 0
def cfE (x y:En):Int:=if cmpI x.p y.p≠0 then cmpI x.p y.p else cmpI x.s y.s
theorem cfE_le {x y:En}:leC cfE x y↔x.p<y.p∨(x.p=y.p∧x.s≤y.s):=by
  show ¬cfE y x<0↔_
  unfold cfE cmpI
  by_cases h1:y.p<x.p
  · simp [h1];try omega
  · by_cases h2:x.p<y.p
    · simp [h1,h2]
    · have e:x.p=y.p:=by omega
      by_cases h3:y.s<x.s
      · simp [h1,h2,h3];try omega
      · by_cases h4:x.s<y.s
        · simp [h1,h2,h3,h4];try omega
        · simp [h1,h2,h3,h4];try omega
theorem cfE_ordr:Ordr cfE:=⟨fun x y z h1 h2=>by rw [cfE_le] at *;omega,fun x y=>by rw [cfE_le,cfE_le];omega⟩
section
variable {lim:Nat}{H:Hp}{K:V→Hp→Prop}{v w:V}{c l:List En}{e f:En}{x y u q:Int}
theorem cmp_isNaN (hK:K (.bool false) H):VCall tbl lim 62 [.int .i64 x] H K:=by
  refine VCall_fn tbl_at62 rfl ?_
  simp [vf62]
  exact hK
theorem cmp_Compare (hK:K (.int .i64 (cmpI x y)) H):VCall tbl lim 41 [.int .i64 x,.int .i64 y] H K:=by
  refine VCall_fn tbl_at41 rfl ?_
  simp [vf41]
  refine cmp_isNaN ?_
  simp
  refine cmp_isNaN ?_
  simp
  unfold cmpI at hK
  refine cond_dec (fun h => ?_) fun h => ?_
  · rw [if_pos h] at hK
    simp
    exact hK
  · rw [if_neg h] at hK
    simp
    refine cond_dec (fun h => ?_) fun h => ?_
    · rw [if_pos h] at hK
      simp
      exact hK
    · rw [if_neg h] at hK
      simp
      exact hK
theorem cmp_Or (hs:SlV H v [u,q])(hK:K (.int .i64 (if u≠0 then u else q)) H):VCall tbl lim 40 [v] H K:=by
  refine VCall_fn tbl_at40 rfl ?_
  have a0:=hs.addr (i:=0) (by simp)
  have a1:=hs.addr (i:=1) (by simp)
  have g0:=hs.load (L:=[]) (i:=0) (by simp)
  have g1:=hs.load (L:=[]) (i:=1) (by simp)
  simp [List.getD_eq_getElem?_getD] at a0 a1 g0 g1
  by_cases h:u=0
  · subst h
    simp only [ne_eq,not_true_eq_false,if_false] at hK
    by_cases h2:q=0
    · subst h2
      simp [vf40,hs.len]
      refine wLoop_round ?_
      simp [a0,g0,wrap_i64]
      refine wLoop_round ?_
      simp [a1,g1,wrap_i64]
      refine wLoop_round ?_
      simp
      exact hK
    · simp [vf40,hs.len]
      refine wLoop_round ?_
      simp [a0,g0,wrap_i64]
      refine wLoop_round ?_
      simp [a1,g1,wrap_i64,h2]
      exact hK
  · rw [if_pos h] at hK
    simp [vf40,hs.len]
    refine wLoop_round ?_
    simp [a0,g0,wrap_i64,h]
    exact hK
theorem put_cmp:CmpE 59 cfE:=⟨by decide,fun H lim x y K hK=>by
  refine VCall_fn tbl_at59 rfl ?_
  simp [vf59,En.cells]
  refine cmp_Compare ?_
  simp
  refine cmp_Compare ?_
  simp [vbslice_some]
  have hs:SlV (H++[.row [.int .i64 (cmpI x.p y.p),.int .i64 (cmpI x.s y.s)] true]) (.sl H.length 0 2 1) [cmpI x.p y.p,cmpI x.s y.s]:=SlV.lit (l:=[cmpI x.p y.p,cmpI x.s y.s]) (by rw [List.getElem?_concat_length];rfl) rfl
  refine cmp_Or hs ?_
  have hK:=hK _ (HX.push (x:=.row [.int .i64 (cmpI x.p y.p),.int .i64 (cmpI x.s y.s)] true))
  unfold cfE at hK
  simp
  simpa using hK⟩
theorem clone_ens (hv:LstV enC H v c)(hlim:lim≤H.length)(hl:c.length≤1000)(hK:∀H' v',HX H H'→OwnT H.length enC H' v' c→K v' H'):VCall tbl lim 57 [v] H K:=by
  refine VCall_fn tbl_at57 rfl ?_
  have hv2:=hv.mono (H':=H++[.row [] true]) HX.push
  have key:∃v' H',vappend lim 6 56 (H++[.row [] true]) (.sl H.length 0 0 6) v=some (v',H')∧OwnT H.length enC H' v' c∧HX H H':=by
    refine ⟨.sl (H.length+1) 0 c.length 6,(H++[Blk.row [] true]).set H.length .dead++[.row (enC.all c) true],?_,.row (by omega) ?_,?_⟩
    · simp [vappend,hv2.cells,hv2.len,hlim,Cod.all_len,show c.length*56≤140737488355328 by omega,show c.length<4611686018427387904 by omega]
    · have:H.length+1=((H++[Blk.row [] true]).set H.length .dead).length:=by simp
      rw [this];exact List.getElem?_concat_length
    · refine HX.of (by simp<;>omega) fun i hi => ?_
      rw [List.getElem?_append_left (by simp;omega),List.getElem?_set_ne (by omega),List.getElem?_append_left hi]
  obtain ⟨v',H',a1,a2,a3⟩:=key
  cases hv with
  | nil =>
    simp [vf57]
    exact hK _ _ .refl .nil
  | empty =>
    simp [vf57,a1,a2.lst.stor]
    exact hK _ _ a3 a2
  | sl h1 h2 h3 =>
    simp [vf57,a1,a2.lst.stor]
    exact hK _ _ a3 a2
theorem card_put (hv:LstV enC H v c)(hlim:lim≤H.length)(hl:c.length≤1000)(hK:∀H' v' l',HX H H'→OwnT H.length enC H' v' l'→l'.Perm (c++[e])→SortR cfE 0 l'.length l'→K v' H'):VCall tbl lim 31 [v,.agg e.cells] H K:=by
  refine VCall_fn tbl_at31 rfl ?_
  simp [vf31,hv.stor,En.cells]
  refine clone_ens hv (Nat.le_refl _) hl fun H1 v1 x1 o1 => ?_
  replace x1:HX H H1:=x1
  have l1:=x1.len
  obtain ⟨v2,H2,b1,b2,b3,b4,b5,b6⟩:=o1.append (lim:=lim) (bytes:=56) (x:=e) (cs:=[.int .i64 e.p,.int .i64 e.s,.int .i64 e.a,.int .i64 e.b,.int .i64 e.c,.str e.t]) rfl ⟨hlim,l1⟩ (by omega) (by omega)
  have x2:=b3 H x1 (Nat.le_refl _)
  have hdl:(c++[e]).length=c.length+1:=by simp
  generalize hd:c++[e]=d at b2 hdl hK
  simp [vbslice_some,b1,b2.lst.stor]
  cases b2 with
  | nil=>simp at hdl
  | row h1 h2 =>
    rename_i b
    refine stable_en h2 (by omega) put_cmp cfE_ordr (by omega) fun H3 l3 hr3 hp3 hs3 => ?_
    have hlen:=hp3.len
    simp
    rw [←hlen]
    rw [←hlen] at hs3
    exact hK H3 _ l3 (HX.of (Nat.le_trans x2.len hr3.len) fun b' hb'=>(hr3.oth b' (Nat.lt_of_lt_of_le hb' x2.len) (by omega)).trans (x2.same hb')) (.row (by omega) hr3.row) hp3.perm hs3
end
end Go.Proofs.YtiilicnmcpjmkaaGreatDoor.Vm
namespace Go.Proofs.YtiilicnmcpjmkaaGreatDoor.Vm
open Go
set_option maxRecDepth 100000
set_option linter.unusedSimpArgs false
set_option linter.unusedVariables false
attribute [-simp] List.getD_eq_getElem?_getD
theorem getD_mem {l:List En}{i:Nat}(h:i<l.length):l.getD i default∈l:=by
  rw [getD_of h];exact List.getElem_mem h
theorem mem_getD {l:List En}{x:En}(h:x∈l):∃i,i<l.length∧l.getD i default=x:=by
  obtain ⟨i,hi,e⟩:=List.mem_iff_getElem.1 h
  exact ⟨i,hi,by rw [getD_of hi];exact e⟩
theorem cntE_take_countP {l:List En}{q:Int}:∀{n:Nat},n≤l.length→cntE l q n=(l.take n).countP fun x=>decide (x.p=q)
  | 0,_=>by simp [cntE]
  | n+1,h=>by
    have ih:=cntE_take_countP (l:=l) (q:=q) (n:=n) (by omega)
    rw [cntE,ih,List.take_succ_eq_append_getElem (by omega),List.countP_append,getD_of (by omega)]
    simp [List.countP_cons]
theorem cntE_countP {l:List En}{q:Int}:cntE l q l.length=l.countP fun x=>decide (x.p=q):=by
  rw [cntE_take_countP (Nat.le_refl _),List.take_length]
theorem cntE_perm {l l':List En}{q:Int}(h:l'.Perm l):cntE l' q l'.length=cntE l q l.length:=by
  rw [cntE_countP,cntE_countP];exact h.countP_eq _
def Dist (l:List En):Prop:=l.Pairwise fun x y=>¬(x.p=y.p∧x.s=y.s)
theorem Dist.perm {l l':List En}(h:Dist l)(p:l'.Perm l):Dist l':=(p.pairwise_iff (fun {x y} hxy hyx=>hxy ⟨hyx.1.symm,hyx.2.symm⟩)).2 h
theorem Dist.at {l:List En}(h:Dist l){i j:Nat}(hij:i<j)(hj:j<l.length):¬((l.getD i default).p=(l.getD j default).p∧(l.getD i default).s=(l.getD j default).s):=by
  have:=List.pairwise_iff_getElem.1 h i j (by omega) hj hij
  rw [getD_of (by omega),getD_of hj];exact this
theorem Dist.eq {l:List En}(h:Dist l){x y:En}(hx:x∈l)(hy:y∈l)(hp:x.p=y.p)(hs:x.s=y.s):x=y:=by
  obtain ⟨i,hi,rfl⟩:=mem_getD hx
  obtain ⟨j,hj,rfl⟩:=mem_getD hy
  rcases Nat.lt_trichotomy i j with h1 | h1 | h1
  · exact absurd ⟨hp,hs⟩ (h.at h1 hj)
  · rw [h1]
  · exact absurd ⟨hp.symm,hs.symm⟩ (h.at h1 hi)
theorem val_dist {c:List En}(h:valE c=0):Dist c:=by
  refine List.pairwise_iff_getElem.2 fun i j hi hj hij e => ?_
  have:=val_uniq h hi hj (by rw [getD_of hi,getD_of hj];exact e.1) (by rw [getD_of hi,getD_of hj];exact e.2)
  omega
theorem sort_uniq {l l':List En}(hp:l'.Perm l)(hd:Dist l)(h1:SortR cfE 0 l.length l)(h2:SortR cfE 0 l'.length l'):l'=l:=by
  have pw:∀{q:List En},SortR cfE 0 q.length q→q.Pairwise (leC cfE):=fun {q} h=>List.pairwise_iff_getElem.2 fun i j hi hj hij=>by
    have:=h i j (Nat.zero_le _) hij hj
    rwa [getD_of hi,getD_of hj] at this
  refine hp.eq_of_pairwise (le:=leC cfE) (fun a b ha hb h3 h4 => ?_) (pw h2) (pw h1)
  have ha:=hp.mem_iff.1 ha
  rw [cfE_le] at h3 h4
  exact hd.eq ha hb (by omega) (by omega)
theorem num_of {l:List En} (hs:SortR cfE 0 l.length l) (hd:Dist l) (h4:∀x∈l,1≤x.s∧∀s',1≤s'→s'<x.s→∃y∈l,y.p=x.p∧y.s=s') :
    ∀(n:Nat) {i:Nat},i<l.length→(l.getD i default).s≤n→(l.getD i default).s=cntE l (l.getD i default).p i+1
  | 0,i,hi,hn=>by have:=(h4 _ (getD_mem hi)).1;omega
  | n + 1,i,hi,hn=>by
    have hx:=h4 _ (getD_mem hi)
    have none:∀a,(∀k,a≤k→k<i→(l.getD k default).p≠(l.getD i default).p)→∀m,a≤m→m≤i→cntE l (l.getD i default).p m=cntE l (l.getD i default).p a:=fun a ha m=>by
      induction m with
      | zero=>intro h1 _;rw [show a=0 by omega]
      | succ m ih =>
        intro h1 h2
        by_cases e:a=m+1
        · rw [e]
        · rw [cntE,if_neg (ha m (by omega) (by omega)),Nat.add_zero]
          exact ih (by omega) (by omega)
    by_cases h1:(l.getD i default).s=1
    · have e:=none 0 (fun k _ hk hp=>by
        have hle:=hs k i (Nat.zero_le _) hk hi
        rw [cfE_le] at hle
        have:=(h4 _ (getD_mem (show k<l.length by omega))).1
        exact hd.at hk hi ⟨hp,by omega⟩) i (Nat.zero_le _) (Nat.le_refl _)
      rw [e,h1];rfl
    · obtain ⟨y,hy,yp,ys⟩:=hx.2 ((l.getD i default).s-1) (by omega) (by omega)
      obtain ⟨j,hj,rfl⟩:=mem_getD hy
      have hji:j<i:=by
        rcases Nat.lt_trichotomy j i with h | h | h
        · exact h
        · subst h;omega
        · have hle:=hs i j (Nat.zero_le _) h hj
          rw [cfE_le] at hle;omega
      have ih:=num_of hs hd h4 n hj (by omega)
      have e:=none (j+1) (fun k k1 k2 hp=>by
        have g1:=hs j k (Nat.zero_le _) (by omega) (by omega)
        have g2:=hs k i (Nat.zero_le _) k2 hi
        rw [cfE_le] at g1 g2
        have d1:=hd.at (show j<k by omega) (by omega)
        have d2:=hd.at k2 hi
        have:(l.getD k default).s=(l.getD j default).s∨(l.getD k default).s=(l.getD i default).s:=by omega
        rcases this with h | h
        · exact d1 ⟨by omega,h.symm⟩
        · exact d2 ⟨hp,h⟩) i hji (Nat.le_refl _)
      rw [e,cntE,if_pos yp,←yp]
      omega
theorem val_of {l:List En} (hl:l.length≤60) (hs:SortR cfE 0 l.length l) (hd:Dist l) (h2:∀x∈l,(0≤x.p∧x.p≤2)∧rightB x.t=true)
    (h4:∀x∈l,1≤x.s∧∀s',1≤s'→s'<x.s→∃y∈l,y.p=x.p∧y.s=s') (h5:∀x∈l,selfB x=true∧rangB l x=true∧∀y∈l,(seesB x y&&lessB x y)=false):valE l=0:=by
  have a1:allN (fun i=>okE1 l i&&okE2 l i) l.length=true:=allN_of fun i hi=>by
    have hm:=getD_mem hi
    simp only [Bool.and_eq_true]
    refine ⟨?_,?_⟩
    · simp only [okE1,Bool.and_eq_true,decide_eq_true_eq];exact h2 _ hm
    · simp only [okE2,decide_eq_true_eq]
      refine ⟨num_of hs hd h4 (l.getD i default).s.toNat hi (by omega),?_⟩
      unfold prevP
      split
      · exact (h2 _ hm).1.1
      · have:=hs (i-1) i (Nat.zero_le _) (by omega) hi
        rw [cfE_le] at this;omega
  have a2:allN (fun i=>seenR l (l.getD i default)) l.length=true:=allN_of fun i hi=>by
    obtain ⟨b1,b2,b3⟩:=h5 _ (getD_mem hi)
    simp only [seenR,b1,b2,Bool.true_and]
    refine allN_of fun j hj => ?_
    simp only [trB,b3 _ (getD_mem hj)];rfl
  unfold valE
  rw [if_neg (by omega),a1,if_neg (by simp),a2,if_neg (by simp)]
theorem val_has {c:List En}(h:valE c=0){q:Int}:∀{n:Nat},n≤c.length→∀s':Int,1≤s'→s'≤cntE c q n→∃y∈c,y.p=q∧y.s=s'
  | 0,_,s',h1,h2=>by simp [cntE] at h2;omega
  | n + 1,hn,s',h1,h2=>by
    rw [cntE] at h2
    by_cases e:(c.getD n default).p=q
    · rw [if_pos e] at h2
      by_cases e2:s'=cntE c q n+1
      · exact ⟨_,getD_mem (show n<c.length by omega),e,by rw [val_num h (by omega),e,e2]⟩
      · exact val_has h (n:=n) (by omega) s' h1 (by omega)
    · rw [if_neg e] at h2
      exact val_has h (n:=n) (by omega) s' h1 (by omega)
theorem val_mem {c:List En}(h:valE c=0){x:En}(hx:x∈c):((0≤x.p∧x.p≤2)∧rightB x.t=true)∧(1≤x.s∧x.s≤cntE c x.p c.length)∧selfB x=true∧rangB c x=true∧∀y∈c,(seesB x y&&lessB x y)=false:=by
  obtain ⟨i,hi,rfl⟩:=mem_getD hx
  obtain ⟨a1,a2,a3⟩:=valE_ok h hi
  simp only [okE1,Bool.and_eq_true,decide_eq_true_eq] at a1
  simp only [seenR,Bool.and_eq_true] at a3
  refine ⟨a1,⟨by rw [val_num h hi];omega,val_top h hi⟩,a3.1.1,a3.1.2,fun y hy => ?_⟩
  obtain ⟨j,hj,rfl⟩:=mem_getD hy
  have:=allN_at a3.2 hj
  unfold trB at this
  cases h:(seesB (c.getD i default) (c.getD j default)&&lessB (c.getD i default) (c.getD j default))
  · rfl
  · rw [h] at this;cases this
def nextE (c:List En)(q:Int)(t:ByteArray):En:=⟨q,cntE c q c.length+1,cntE c 0 c.length,cntE c 1 c.length,cntE c 2 c.length,t⟩
theorem rang_iff {c:List En}{e:En}:rangB c e=true↔(0≤e.a∧e.a≤cntE c 0 c.length)∧(0≤e.b∧e.b≤cntE c 1 c.length)∧(0≤e.c∧e.c≤cntE c 2 c.length):=by
  simp only [rangB,Bool.and_eq_true,decide_eq_true_eq,and_assoc]
theorem next_at {c:List En}{q p:Int}{t:ByteArray}(h:0≤p∧p≤2):(nextE c q t).at p.toNat=cntE c p c.length:=triC_eq h
theorem add_dist {c:List En}(h:valE c=0){q:Int}{t:ByteArray}:Dist (c++[nextE c q t]):=by
  refine List.pairwise_append.2 ⟨val_dist h,List.pairwise_singleton _ _,fun x hx y hy => ?_⟩
  rw [List.mem_singleton.1 hy]
  rintro ⟨e1,e2⟩
  have:=(val_mem h hx).2.1.2
  simp only [nextE] at e1 e2
  rw [e1] at this
  omega
theorem val_add {c l:List En} (h:valE c=0) (hl:c.length<60) {q:Int} (hq:0≤q∧q≤2) {t:ByteArray} (ht:rightB t=true) (hp:l.Perm (c++[nextE c q t])) (hs:SortR cfE 0 l.length l):valE l=0:=by
  have hcnt:∀p,cntE l p l.length=cntE c p c.length+if q=p then 1 else 0:=fun p=>by
    rw [cntE_perm hp,cntE_app1];rfl
  have hmem:∀x,x∈l↔x∈c∨x=nextE c q t:=fun x=>by rw [hp.mem_iff];simp
  have hle:∀p,cntE c p c.length≤cntE l p l.length:=fun p=>by rw [hcnt];omega
  refine val_of (by rw [hp.length_eq];simp;omega) hs ((add_dist h).perm hp) (fun x hx => ?_) (fun x hx => ?_) fun x hx => ?_
  · rcases (hmem x).1 hx with hx | rfl
    · exact (val_mem h hx).1
    · exact ⟨hq,ht⟩
  · rcases (hmem x).1 hx with hx | rfl
    · have hv:=(val_mem h hx).2.1
      refine ⟨hv.1,fun s' h1 h2 => ?_⟩
      obtain ⟨y,hy,e1,e2⟩:=val_has h (q:=x.p) (Nat.le_refl _) s' h1 (by omega)
      exact ⟨y,(hmem y).2 (Or.inl hy),e1,e2⟩
    · refine ⟨by simp only [nextE];omega,fun s' h1 h2 => ?_⟩
      simp only [nextE] at h2
      obtain ⟨y,hy,e1,e2⟩:=val_has h (q:=q) (Nat.le_refl _) s' h1 (by omega)
      exact ⟨y,(hmem y).2 (Or.inl hy),e1,e2⟩
  · have l0 := hle 0
    have l1:=hle 1
    have l2:=hle 2
    rcases (hmem x).1 hx with hx | rfl
    · obtain ⟨_,_,v3,v4,v5⟩:=val_mem h hx
      refine ⟨v3,?_,fun y hy => ?_⟩
      · rw [rang_iff] at v4 ⊢;omega
      · rcases (hmem y).1 hy with hy | rfl
        · exact v5 y hy
        · have:seesB x (nextE c q t)=false:=by
            refine decide_eq_false ?_
            show ¬((cntE c q c.length:Int)+1≤x.at q.toNat)
            rw [rang_iff] at v4
            rcases (show q=0∨q=1∨q=2 by omega) with rfl | rfl | rfl<;>simp [En.at,tri]<;>omega
          rw [this];rfl
    · refine ⟨?_,?_,fun y hy => ?_⟩
      · refine decide_eq_true ?_
        show (nextE c q t).at q.toNat=(cntE c q c.length:Int)+1-1
        rw [next_at hq];omega
      · rw [rang_iff];simp only [nextE];omega
      · rcases (hmem y).1 hy with hy | rfl
        · have v4:=(val_mem h hy).2.2.2.1
          rw [rang_iff] at v4
          have:lessB (nextE c q t) y=false:=by
            refine decide_eq_false ?_
            simp only [nextE];omega
          rw [this,Bool.and_false]
        · have:lessB (nextE c q t) (nextE c q t)=false:=decide_eq_false (by omega)
          rw [this,Bool.and_false]
def ofP (c:List En)(q:Int)(n:Nat):List En:=filE (fun i=>decide ((c.getD i default).p=q)) c n
theorem ofP_perm {c:List En}(hpl:∀i,i<c.length→0≤(c.getD i default).p∧(c.getD i default).p≤2):∀{n:Nat},n≤c.length→(ofP c 0 n++(ofP c 1 n++ofP c 2 n)).Perm (c.take n)
  | 0,_=>by simp [ofP,filE]
  | n + 1,h=>by
    have ih:=ofP_perm hpl (n:=n) (by omega)
    have hp:=hpl n (by omega)
    have ht:c.take (n+1)=c.take n++[c.getD n default]:=by
      rw [List.take_succ_eq_append_getElem (by omega),getD_of (by omega)]
    rw [ht]
    have st:∀q:Int,ofP c q (n+1)=if (c.getD n default).p=q then ofP c q n++[c.getD n default] else ofP c q n:=fun q=>by
      simp only [ofP,filE]
      by_cases e:(c.getD n default).p=q<;>simp [e]
    rw [st 0,st 1,st 2]
    have one:∀(x:En) (a b:List En),a.Perm b→(x :: a).Perm (b++[x]):=fun x a b hab=>(List.Perm.cons x hab).trans (List.perm_append_singleton x b).symm
    rcases (show (c.getD n default).p=0∨(c.getD n default).p=1∨(c.getD n default).p=2 by omega) with e | e | e
    · simp only [e,if_true]
      rw [if_neg (by omega),if_neg (by omega),List.append_assoc]
      exact (List.perm_middle).trans (one _ _ _ ih)
    · simp only [e,if_true]
      rw [if_neg (by omega),if_neg (by omega),List.append_assoc,←List.append_assoc]
      exact (List.perm_middle).trans (one _ _ _ (by rw [List.append_assoc];exact ih))
    · simp only [e,if_true]
      rw [if_neg (by omega),if_neg (by omega),←List.append_assoc,←List.append_assoc]
      have:=ih.append_right [c.getD n default]
      rw [←List.append_assoc] at this
      exact this
end Go.Proofs.YtiilicnmcpjmkaaGreatDoor.Vm
namespace Go.Proofs.YtiilicnmcpjmkaaGreatDoor.Vm
open Go
set_option maxRecDepth 100000
set_option linter.unusedSimpArgs false
set_option linter.unusedVariables false
attribute [-simp] List.getD_eq_getElem?_getD
theorem filE_pw {R:En→En→Prop}{g:Nat→Bool}{c:List En}:∀{n:Nat},(∀i j,i<j→j<n→g i=true→g j=true→R (c.getD i default) (c.getD j default))→(filE g c n).Pairwise R
  | 0,_=>List.Pairwise.nil
  | n + 1,h=>by
    have ih:=filE_pw (R:=R) (g:=g) (c:=c) (n:=n) fun i j h1 h2 h3 h4=>h i j h1 (by omega) h3 h4
    simp only [filE]
    by_cases hg:g n=true
    · rw [if_pos hg]
      refine List.pairwise_append.2 ⟨ih,List.pairwise_singleton _ _,fun x hx y hy => ?_⟩
      rw [List.mem_singleton.1 hy]
      obtain ⟨i,hi,rfl⟩:=mem_getD hx
      obtain ⟨j,j1,j2,j3⟩:=filE_mem hi
      rw [j3];exact h j n j1 (by omega) j2 hg
    · rw [if_neg hg];exact ih
theorem ofP_mem {c:List En}{q:Int}{x:En}(h:x∈ofP c q c.length):x∈c∧x.p=q:=by
  obtain ⟨i,hi,rfl⟩:=mem_getD h
  obtain ⟨j,j1,j2,j3⟩:=filE_mem hi
  unfold ofP
  rw [j3]
  exact ⟨getD_mem j1,by simpa using j2⟩
theorem pw_sort {l:List En}(h:l.Pairwise (leC cfE)):SortR cfE 0 l.length l:=fun p q _ h2 h3=>by
  have:=List.pairwise_iff_getElem.1 h p q (by omega) h3 h2
  rw [getD_of (by omega),getD_of h3];exact this
def adL (c:List En)(q:Int)(t:ByteArray):Nat→List En
  | 0=>[]
  | p+1=>adL c q t p++(ofP c p c.length++if (p:Int)=q then [nextE c q t] else [])
theorem adL_mem {c:List En} {q:Int} {t:ByteArray}:∀{n:Nat} {x:En},x∈adL c q t n→x.p<n
  | n + 1,x,h=>by
    simp only [adL,List.mem_append] at h
    rcases h with h | h | h
    · have:=adL_mem h;omega
    · have:=(ofP_mem h).2;omega
    · split at h
      · rename_i e
        rw [List.mem_singleton.1 h];simp only [nextE];omega
      · cases h
theorem adL_sort {c:List En} (h:valE c=0) {q:Int} {t:ByteArray}:∀{n:Nat},(adL c q t n).Pairwise (leC cfE)
  | 0=>List.Pairwise.nil
  | n + 1=>by
    refine List.pairwise_append.2 ⟨adL_sort h,List.pairwise_append.2 ⟨filE_pw fun i j h1 h2 h3 h4 => ?_,?_,fun x hx y hy => ?_⟩,fun x hx y hy => ?_⟩
    · rw [cfE_le]
      simp only [decide_eq_true_eq] at h3 h4
      have:=val_lt h h1 h2 (by rw [h3,h4])
      omega
    · split
      · exact List.pairwise_singleton _ _
      · exact List.Pairwise.nil
    · split at hy
      · rename_i e
        rw [List.mem_singleton.1 hy,cfE_le]
        have hm:=ofP_mem hx
        have hv:=(val_mem h hm.1).2.1.2
        rw [hm.2,e] at hv
        simp only [nextE]
        omega
      · cases hy
    · have h1:=adL_mem hx
      rw [cfE_le]
      rcases List.mem_append.1 hy with hy | hy
      · have:=(ofP_mem hy).2;omega
      · split at hy
        · rw [List.mem_singleton.1 hy];simp only [nextE];omega
        · cases hy
theorem adL_perm {c:List En}(h:valE c=0){q:Int}(hq:0≤q∧q≤2){t:ByteArray}:(adL c q t 3).Perm (c++[nextE c q t]):=by
  have hp:=ofP_perm (c:=c) (fun i hi=>val_pl h hi) (Nat.le_refl _)
  rw [List.take_length] at hp
  refine List.Perm.trans ?_ (hp.append_right _)
  simp only [adL,List.nil_append]
  have e0:((0:Nat):Int)=0:=rfl
  have e1:((1:Nat):Int)=1:=rfl
  have e2:((2:Nat):Int)=2:=rfl
  rw [e0,e1,e2]
  generalize ofP c 0 c.length=A
  generalize ofP c 1 c.length=B
  generalize ofP c 2 c.length=C
  generalize nextE c q t=x
  rcases (show q=0∨q=1∨q=2 by omega) with rfl | rfl | rfl
  · simp only [if_true,if_neg (show ¬(1:Int)=0 by omega),if_neg (show ¬(2:Int)=0 by omega),List.append_nil,List.append_assoc]
    refine List.Perm.append_left A ?_
    exact (List.perm_append_comm (l₁:=[x]) (l₂:=B++C)).trans (by rw [List.append_assoc])
  · simp only [if_true,if_neg (show ¬(0:Int)=1 by omega),if_neg (show ¬(2:Int)=1 by omega),List.append_nil,List.append_assoc]
    refine List.Perm.append_left A (List.Perm.append_left B ?_)
    exact List.perm_append_comm (l₁:=[x]) (l₂:=C)
  · simp only [if_true,if_neg (show ¬(0:Int)=2 by omega),if_neg (show ¬(1:Int)=2 by omega),List.append_nil,List.append_assoc]
    exact List.Perm.refl _
def addE (c:List En)(q:Int)(t:ByteArray):Int:=if valE c≠0 then valE c else if (decide (0≤q∧q≤2)&&rightB t)=false then 1 else if 60≤c.length then 4 else 0
def addL (c:List En)(q:Int)(t:ByteArray):List En:=if addE c q t=0 then adL c q t 3 else []
theorem add_ok {c:List En}{q:Int}{t:ByteArray}(h:addE c q t=0):valE c=0∧(0≤q∧q≤2)∧rightB t=true∧c.length<60:=by
  unfold addE at h
  split at h
  · rename_i h1;exact absurd h h1
  rename_i h1
  split at h
  · cases h
  rename_i h2
  split at h
  · cases h
  rename_i h3
  simp only [Bool.not_eq_false,Bool.and_eq_true,decide_eq_true_eq] at h2
  exact ⟨by simpa using h1,h2.1,h2.2,by omega⟩
theorem add_val {c:List En}{q:Int}{t:ByteArray}(h:addE c q t=0):valE (addL c q t)=0:=by
  obtain ⟨h1,h2,h3,h4⟩:=add_ok h
  unfold addL
  rw [if_pos h]
  exact val_add h1 h4 h2 h3 (adL_perm h1 h2) (pw_sort (adL_sort h1))
theorem add_uniq {c l:List En}{q:Int}{t:ByteArray}(h:addE c q t=0)(hp:l.Perm (c++[nextE c q t]))(hs:SortR cfE 0 l.length l):l=addL c q t:=by
  obtain ⟨h1,h2,h3,h4⟩:=add_ok h
  unfold addL
  rw [if_pos h]
  have hq:=adL_perm h1 h2 (t:=t)
  exact sort_uniq (hp.trans hq.symm) ((add_dist h1).perm hq) (pw_sort (adL_sort h1)) hs
section
variable {α:Type}{k n:Nat}{c:Cod α k}{H:Hp}{v:V}{l:List α}
end
section
variable {lim:Nat}{H:Hp}{K:V→Hp→Prop}{v w:V}{c l:List En}{e f:En}{x y u q:Int}{t:ByteArray}
theorem card_Add (hc:LstV enC H v c) (hsh:shortC c) (ht:t.size≤200) (hlim:lim≤H.length) (hK:∀H' w,HX H H'→OwnT H.length enC H' w (addL c q t)→K (.tup [w,.int .i64 (addE c q t)]) H'):VCall tbl lim 15 [v,.int .i64 q,.str t] H K:=by
  refine VCall_fn tbl_at15 rfl ?_
  simp [vf15,hc.stor]
  refine card_Validate hc hsh fun H1 x1 => ?_
  have hc1:=hc.mono x1
  have l1:=x1.len
  simp
  have hno:∀n:Int,addE c q t=n→n≠0→∀H2,HX H1 H2→K (.tup [.snil,.int .i64 n]) H2:=fun n e hn H2 x2=>by
    have e2:addL c q t=[]:=by unfold addL;rw [e,if_neg hn]
    have:=hK H2 .snil (x1.trans x2) (by rw [e2];exact .nil)
    rwa [e] at this
  by_cases h:valE c=0
  · have hl:=valE_small h
    simp [h]
    refine card_isPlace ?_
    by_cases h2:0≤q∧q≤2
    · simp [h2]
      refine card_isRight (by omega) fun H2 x2 => ?_
      have hc2:=hc1.mono x2
      have l2:=x2.len
      cases h3:rightB t
      · simp
        exact hno 1 (by simp [addE,h,h3]) (by omega) _ x2
      by_cases h4:c.length=60
      · simp [hc2.len,h4]
        exact hno 4 (by simp [addE,h,h2,h3,h4]) (by omega) _ x2
      · have e0:addE c q t=0:=by
          simp only [addE,h,ne_eq,not_true_eq_false,if_false,h2,h3,and_self,decide_true,Bool.and_self,Bool.true_eq_false]
          rw [if_neg (by omega)]
        simp [hc2.len,eq_false (show ¬(c.length:Int)=60 by omega),h4,hc2.stor]
        refine card_clock hc2 hl (fun i hi=>val_pl h hi) ?_
        have r1:=cnt_rd (c:=c) (i:=c.length) h2
        have hle:=@cntE_le c q c.length
        simp (disch:=omega) [cnt_sp,cnt_w,cnt_len,r1,wrap_i64,hc2.stor]
        simp [splice,cntsL,hc2.stor]
        refine card_put (e:=nextE c q t) hc2 (Nat.le_refl _) (by omega) fun H3 w l' x3 o3 hp3 hs3 => ?_
        rw [add_uniq e0 hp3 hs3] at o3
        have o3:=o3.le (n:=H.length) (by omega)
        simp [o3.lst.stor]
        rw [e0] at hK
        exact hK _ _ (x1.trans (x2.trans x3)) o3
    · simp [eq_false h2]
      exact hno 1 (by simp [addE,h,eq_false h2]) (by omega) _ HX.refl
  · simp [eq_false h]
    exact hno _ (by simp [addE,h]) h _ HX.refl
end
end Go.Proofs.YtiilicnmcpjmkaaGreatDoor.Vm
namespace Go.Proofs.YtiilicnmcpjmkaaGreatDoor.Vm
open Go
set_option maxRecDepth 100000
set_option linter.unusedSimpArgs false
set_option linter.unusedVariables false
attribute [-simp] List.getD_eq_getElem?_getD
section
variable {lim:Nat}{H:Hp}{K:V→Hp→Prop}{v w:V}{c l:List En}{e f:En}{x y u q:Int}{t:ByteArray}
end
end Go.Proofs.YtiilicnmcpjmkaaGreatDoor.Vm
namespace Go.Proofs.YtiilicnmcpjmkaaGreatDoor.Vm
open Go
set_option maxRecDepth 100000
set_option linter.unusedSimpArgs false
set_option linter.unusedVariables false
attribute [-simp] List.getD_eq_getElem?_getD
def numB (b:List En)(x:En)(j:Nat):Bool := !(decide ((b.getD j default).p=x.p)&&decide ((b.getD j default).s=x.s))
def hasN (b:List En)(x:En):Bool := !allN (numB b x) b.length
def eqB (b:List En)(x:En)(j:Nat):Bool := !enEq x (b.getD j default)
def hasQ (b:List En)(x:En):Bool := !allN (eqB b x) b.length
def okM (a b:List En)(i:Nat):Bool := !hasN b (a.getD i default)||hasQ b (a.getD i default)
def cmpE (a b:List En):Int:=if valE a≠0 then valE a else if valE b≠0 then valE b else if allN (okM a b) a.length=false then 12 else 0
def bothL (a b:List En)(n:Nat):List En:=filE (fun i=>hasN b (a.getD i default)) a n
def firstL (a b:List En)(n:Nat):List En:=filE (fun i => !hasN b (a.getD i default)) a n
theorem hasN_yes {b:List En}{x:En}{j:Nat}(hj:j<b.length)(hp:(b.getD j default).p=x.p)(hs:(b.getD j default).s=x.s):hasN b x=true:=by
  have:numB b x j=false:=by simp [numB,hp,hs]
  simp [hasN,allN_not hj this]
theorem hasN_no {b:List En}{x:En}(h:∀j,j<b.length→¬((b.getD j default).p=x.p∧(b.getD j default).s=x.s)):hasN b x=false:=by
  have:allN (numB b x) b.length=true:=allN_of fun j hj=>by
    have:=h j hj
    by_cases e:(b.getD j default).p=x.p
    · by_cases e2:(b.getD j default).s=x.s
      · exact absurd ⟨e,e2⟩ this
      · simp [numB,e2]
    · simp [numB,e]
  simp [hasN,this]
theorem hasQ_at {b:List En} (hb:valE b=0) {x:En} {j:Nat} (hj:j<b.length) (hp:(b.getD j default).p=x.p) (hs:(b.getD j default).s=x.s):hasQ b x=enEq x (b.getD j default):=by
  cases h:enEq x (b.getD j default)
  · have:allN (eqB b x) b.length=true:=allN_of fun k hk=>by
      cases h2:enEq x (b.getD k default)
      · simp [eqB,h2]
      · have n:=enEq_num h2
        have:=val_uniq hb hk hj (by rw [hp,n.1]) (by rw [hs,n.2])
        subst this
        rw [h] at h2;cases h2
    simp [hasQ,this]
  · have:eqB b x j=false:=by simp [eqB,h]
    simp [hasQ,allN_not hj this]
section
variable {lim:Nat}{H:Hp}{K:V→Hp→Prop}{v w:V}{a b:List En}{x y z:Int}
theorem card_compareG (hc:LstV enC H v a) (hw:LstV enC H w b) (hsa:shortC a) (hsb:shortC b) (hlim:lim≤H.length)
    (hno:cmpE a b≠0→∀H',HX H H'→K (.tup [.snil,.snil,.snil,.int .i64 (cmpE a b)]) H')
    (hK:cmpE a b=0→∀H' p q r,HX H H'→OwnT H.length enC H' p (bothL a b a.length)→OwnT H.length enC H' q (firstL a b a.length)→OwnT H.length enC H' r (firstL b a b.length)→Apart p q→Apart r q→K (.tup [p,q,r,.int .i64 0]) H'):VCall tbl lim 30 [v,w] H K:=by
  refine VCall_fn tbl_at30 rfl ?_
  simp [vf30,hc.stor,hw.stor]
  refine card_Validate hc hsa fun H1 x1 => ?_
  have hc1:=hc.mono x1
  have hw1:=hw.mono x1
  have l1:=x1.len
  by_cases hva:valE a=0
  case neg =>
    have e:cmpE a b=valE a:=by simp [cmpE,hva]
    simp [eq_false hva]
    have:=hno (by rw [e];exact hva) H1 x1
    rwa [e] at this
  simp [hva,hw.stor]
  refine card_Validate hw1 hsb fun H2 x2 => ?_
  have hc2:=hc1.mono x2
  have hw2:=hw1.mono x2
  have l2:=x2.len
  have x02:=x1.trans x2
  by_cases hvb:valE b=0
  case neg =>
    have e:cmpE a b=valE b:=by simp [cmpE,hva,hvb]
    simp [eq_false hvb]
    have:=hno (by rw [e];exact hvb) H2 x02
    rwa [e] at this
  have hl:=valE_small hva
  have hlb:=valE_small hvb
  simp [hvb,hc.len]
  refine wLoop_up a.length (fun i fr L H'=>∃p q,(fr 0=v∧fr 1=w∧fr 6=.snil∧fr 28=v∧fr 29=.int .i64 a.length∧fr 30=.int .i64 i∧fr 4=p∧fr 5=q)∧HX H2 H'∧OwnT H2.length enC H' p (bothL a b i)∧OwnT H2.length enC H' q (firstL a b i)∧Apart p q∧allN (okM a b) i=true) ⟨.snil,.snil,by simp [hc.len],HX.refl,.nil,.nil,fun b o z y b' o' z' y' h=>(by cases h),rfl⟩ ?_
  rintro i hi fr L H' ⟨p,q,⟨f0,f1,f6,f28,f29,f30,f4,f5⟩,hx,ob,ou,hap,hz⟩
  simp [f0,f1,f6,f28,f29,f30,f4,f5]
  refine cond_dec (fun ht => ?_) fun hfl => ?_
  · have ht:i<a.length:=by omega
    have hc':=hc2.mono hx
    have hw':=hw2.mono hx
    have hxl:=hx.len
    have bb:=ob.below
    have bu:=ou.below
    have nb:(bothL a b i).length≤i:=filE_len
    have nu:(firstL a b i).length≤i:=filE_len
    simp (disch:=omega) [f0,f1,f6,f28,f29,f30,f4,f5,hc'.at ht,en_load hc',lastO,lastS,hw.stor]
    refine card_find hw' (by omega) (fun j hj hp hs _ => ?_) fun hno2 => ?_
    · have e0:=hasN_yes (x:=a.getD i default) hj hp hs
      have eq:=hasQ_at hvb (x:=a.getD i default) hj hp hs
      have eB:bothL a b (i+1)=bothL a b i++[a.getD i default]:=by simp [bothL,filE,e0]
      have eF:firstL a b (i+1)=firstL a b i:=by simp [firstL,filE,e0]
      cases h:enEq (a.getD i default) (b.getD j default)
      · have ho:okM a b i=false:=by simp [okM,e0,eq,h]
        have e:cmpE a b=12:=by simp [cmpE,hva,hvb,allN_not ht ho]
        have h':enEq ⟨(a.getD i default).p,(a.getD i default).s,(a.getD i default).a,(a.getD i default).b,(a.getD i default).c,(a.getD i default).t⟩ ⟨(b.getD j default).p,(b.getD j default).s,(b.getD j default).a,(b.getD j default).b,(b.getD j default).c,(b.getD j default).t⟩=false:=h
        simp (disch:=omega) [f0,f1,f6,f28,f29,f30,f4,f5,lastO,lastS,loAt,loAt0,En.cells,veqA_6,h',h]
        have:=hno (by rw [e];decide) H' (x02.trans hx)
        rwa [e] at this
      · have ho:okM a b i=true:=by simp [okM,e0,eq,h]
        have h':enEq ⟨(a.getD i default).p,(a.getD i default).s,(a.getD i default).a,(a.getD i default).b,(a.getD i default).c,(a.getD i default).t⟩ ⟨(b.getD j default).p,(b.getD j default).s,(b.getD j default).a,(b.getD j default).b,(b.getD j default).c,(b.getD j default).t⟩=true:=h
        obtain ⟨v',H3,b1,b2,b3,b5,b6,b7⟩:=ob.appendF (lim:=lim) (bytes:=56) (x:=a.getD i default) (cs:=[.int .i64 (a.getD i default).p,.int .i64 (a.getD i default).s,.int .i64 (a.getD i default).a,.int .i64 (a.getD i default).b,.int .i64 (a.getD i default).c,.str (a.getD i default).t]) rfl ⟨by omega,hxl⟩ (by omega) (by omega)
        simp (disch:=omega) [f0,f1,f6,f28,f29,f30,f4,f5,lastO,lastS,loAt,loAt0,En.cells,veqA_6,h',h,vbslice_some,b1,wrap_i64,eB,eF,allN,ho,hz]
        refine ⟨ht,_,_,⟨rfl,rfl⟩,b3 _ hx (Nat.le_refl _),b2,ou.keepB fun q o m z e=>b6 q (bu _ _ _ _ e) fun o' z' y' e'=>hap _ _ _ _ _ _ _ _ e' e rfl,fun q o z y q' o' z' y' h h' => ?_⟩
        have:=b7 _ _ _ _ h
        have:=bu _ _ _ _ h'
        omega
    · have e0:=hasN_no (x:=a.getD i default) hno2
      have ho:okM a b i=true:=by simp [okM,e0]
      have eB:bothL a b (i+1)=bothL a b i:=by simp [bothL,filE,e0]
      have eF:firstL a b (i+1)=firstL a b i++[a.getD i default]:=by simp [firstL,filE,e0]
      obtain ⟨v',H3,b1,b2,b3,b5,b6,b7⟩:=ou.appendF (lim:=lim) (bytes:=56) (x:=a.getD i default) (cs:=[.int .i64 (a.getD i default).p,.int .i64 (a.getD i default).s,.int .i64 (a.getD i default).a,.int .i64 (a.getD i default).b,.int .i64 (a.getD i default).c,.str (a.getD i default).t]) rfl ⟨by omega,hxl⟩ (by omega) (by omega)
      simp (disch:=omega) [f0,f1,f6,f28,f29,f30,f4,f5,lastO,lastS,loAt,loAt0,En.cells,En.zero,vbslice_some,b1,wrap_i64,eB,eF,allN,ho,hz]
      refine ⟨ht,_,_,⟨rfl,rfl⟩,b3 _ hx (Nat.le_refl _),ob.keepB fun q o m z e=>b6 q (bb _ _ _ _ e) fun o' z' y' e'=>hap _ _ _ _ _ _ _ _ e e' rfl,b2,fun q o z y q' o' z' y' h h' => ?_⟩
      have:=b7 _ _ _ _ h'
      have:=bb _ _ _ _ h
      omega
  have:i=a.length:=by omega
  subst this
  have e:cmpE a b=0:=by simp [cmpE,hva,hvb,hz]
  have hK:=hK e
  simp [f1,f6,hw.len]
  have bb:=ob.below
  have bu:=ou.below
  refine wLoop_up b.length (fun i fr L H1=>∃r,(fr 0=v∧fr 4=p∧fr 5=q∧fr 6=r∧fr 59=w∧fr 60=.int .i64 b.length∧fr 61=.int .i64 i)∧HX H2 H1∧OwnT H2.length enC H1 p (bothL a b a.length)∧OwnT H2.length enC H1 q (firstL a b a.length)∧OwnT H2.length enC H1 r (firstL b a i)∧Apart r p∧Apart r q) ⟨.snil,by simp [f0,f4,f5,f6,f1,hw.len],hx,ob,ou,.nil,fun b o z y b' o' z' y' h=>(by cases h),fun b o z y b' o' z' y' h=>(by cases h)⟩ ?_
  clear f0 f1 f6 f28 f29 f30 f4 f5 hx ob ou bb bu
  rintro i hi fr L H3 ⟨r,⟨f0,f4,f5,f6,f59,f60,f61⟩,hx,ob,ou,or,hp1,hq1⟩
  simp [f0,f4,f5,f6,f59,f60,f61]
  refine cond_dec (fun ht => ?_) fun hfl => ?_
  · have ht:i<b.length:=by omega
    have hc':=hc2.mono hx
    have hw':=hw2.mono hx
    have hxl:=hx.len
    have bb:=ob.below
    have bu:=ou.below
    have nr:(firstL b a i).length≤i:=filE_len
    simp (disch:=omega) [f0,f4,f5,f6,f59,f60,f61,hw'.at ht,en_load hw',lastO,lastS,hc.stor]
    refine card_find hc' (by omega) (fun j hj hp hs _ => ?_) fun hno2 => ?_
    · have e0:=hasN_yes (x:=b.getD i default) hj hp hs
      have eF:firstL b a (i+1)=firstL b a i:=by simp [firstL,filE,e0]
      simp (disch:=omega) [f0,f4,f5,f6,f59,f60,f61,lastO,lastS,loAt,loAt0,En.cells,wrap_i64,eF]
      exact ⟨ht,hx,ob,ou,or,hp1,hq1⟩
    · have e0:=hasN_no (x:=b.getD i default) hno2
      have eF:firstL b a (i+1)=firstL b a i++[b.getD i default]:=by simp [firstL,filE,e0]
      obtain ⟨v',H4,b1,b2,b3,b5,b6,b7⟩:=or.appendF (lim:=lim) (bytes:=56) (x:=b.getD i default) (cs:=[.int .i64 (b.getD i default).p,.int .i64 (b.getD i default).s,.int .i64 (b.getD i default).a,.int .i64 (b.getD i default).b,.int .i64 (b.getD i default).c,.str (b.getD i default).t]) rfl ⟨by omega,hxl⟩ (by omega) (by omega)
      simp (disch:=omega) [f0,f4,f5,f6,f59,f60,f61,lastO,lastS,loAt,loAt0,En.cells,En.zero,vbslice_some,b1,wrap_i64,eF]
      refine ⟨ht,b3 _ hx (Nat.le_refl _),ob.keepB fun q o m z e=>b6 q (bb _ _ _ _ e) fun o' z' y' e'=>hp1 _ _ _ _ _ _ _ _ e' e rfl,ou.keepB fun q o m z e=>b6 q (bu _ _ _ _ e) fun o' z' y' e'=>hq1 _ _ _ _ _ _ _ _ e' e rfl,b2,fun q o z y q' o' z' y' h h' => ?_,fun q o z y q' o' z' y' h h' => ?_⟩
      · have:=b7 _ _ _ _ h
        have:=bb _ _ _ _ h'
        omega
      · have:=b7 _ _ _ _ h
        have:=bu _ _ _ _ h'
        omega
  have:i=b.length:=by omega
  subst this
  simp [f4,f5,f6,ob.lst.stor,ou.lst.stor,or.lst.stor]
  exact hK _ _ _ _ (x02.trans hx) (ob.le (by omega)) (ou.le (by omega)) (or.le (by omega)) hap hq1
end
end Go.Proofs.YtiilicnmcpjmkaaGreatDoor.Vm
