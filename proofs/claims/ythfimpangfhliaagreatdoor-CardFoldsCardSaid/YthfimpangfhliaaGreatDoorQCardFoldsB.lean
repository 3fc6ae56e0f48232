/- Quicksort over the machine (int): heaps, partitions. -/
import Derived.Test.YthfimpangfhliaaGreatDoorQCardFoldsA
import Derived.Test.YthfimpangfhliaaGreatDoorVmFlat
import Derived.Test.YthfimpangfhliaaGreatDoorVmRec
import Derived.Test.YthfimpangfhliaaGreatDoorRows
import Derived.Test.YthfimpangfhliaaGreatDoorChecked
import Derived.Stop.LaidErr
import Derived.Lay
import Derived.KernelRfl
namespace Go.Proofs.YthfimpangfhliaaGreatDoor.Vm
open Go
set_option maxRecDepth 100000
set_option maxHeartbeats 1000000
set_option linter.unusedSimpArgs false
set_option linter.unusedVariables false
attribute [-simp] List.getD_eq_getElem?_getD
section
variable {lim:Nat}{H H0:Hp}{K:V→Hp→Prop}{b g:Nat}{l l0:List EQ}{cf:EQ→EQ→Int}{fs cs:List V}
theorem sq_sift (hs:SqS b H0 l0 l H) (hlim:lim≤b) (hst:allStor fs=true∧allStor cs=true∧g≠3999999) (hc:CmpQ b g fs cs H0 l0 cf) (ho:Ordr cf) {f lo hi:Nat} (hf:f+hi≤l0.length∧lo<hi+1) (hl:l0.length≤100000) (hp:HpR cf f (lo+1) hi l)
    (hK:∀H' l',SqS b H0 l0 l' H'→PermR f (f+hi) l l'→HpR cf f lo hi l'→K (.tup []) H') :
    VCall tbl lim 72 [.sl b 0 l0.length 1,.int .i64 lo,.int .i64 hi,.int .i64 f,.func (.func g) fs cs] H K:=by
  refine VCall_fn tbl_at72 rfl ?_
  have hn:=hs.n
  simp (disch:=omega) [vf72,wrap_i64]
  refine wLoop_m (n:=hi+1-lo) (fun m fr L H'=>∃l' r,(fr 0=.sl b 0 l0.length 1∧fr 2=.int .i64 hi∧fr 3=.int .i64 f∧fr 4=.func (.func g) fs cs∧fr 10=.int .i64 (r:Nat))∧L=[]∧SqS b H0 l0 l' H'∧PermR f (f+hi) l l'∧SfI cf f lo hi r l'∧r≤hi∧m=hi+1-r) ⟨l,lo,by simp,rfl,hs,PermR.refl,SfI.start hp,by omega,rfl⟩ ?_
  rintro m fr L H' ⟨l',r,⟨f0,f2,f3,f4,f10⟩,rfl,hr,hpp,hI,hrh,hm⟩
  have hlen:=hpp.len
  simp (disch:=omega) [f0,f2,f3,f4,f10,wrap_i64]
  refine cond_dec (fun ht => ?_) fun ht => ?_
  · simp
    exact hK _ _ hr hpp (hI.end1 (by omega))
  have h1:2*r+1<hi:=by omega
  have e1:((f:Int)+(2*(r:Int)+1)).toNat=f+(2*r+1):=by omega
  have e2:((f:Int)+(2*(r:Int)+1)+1).toNat=f+(2*r+1+1):=by omega
  have e3:((f:Int)+(r:Int)).toNat=f+r:=by omega
  have e4:((f:Int)+(2*(r:Int)+1+1)).toNat=f+(2*r+1+1):=by omega
  have g1:=fun L=>sq_ld hr.row (i:=f+(2*r+1)) (by omega) (L:=L)
  by_cases h2:2*r+1+1<hi
  · have g2:=fun L=>sq_ld hr.row (i:=f+(2*r+1+1)) (by omega) (L:=L)
    have hgt:(2*(r:Int)+1+1<(hi:Int))=True:=eq_true (by omega)
    simp (disch:=omega) [f0,f2,f3,f4,f10,hgt,wrap_i64,e1,e2,g1,g2,hst,sq_addr,-viaddrS_in,-vload_ptrO]
    refine hc.at hr (i:=f+(2*r+1)) (j:=f+(2*r+1+1)) (by omega) (by omega) fun H2 x2 hr2 => ?_
    simp
    refine cond_dec (fun hlt => ?_) fun hlt => ?_
    · have ch0:=ChR.two ho h2 hlt
      have ch:ChR cf f hi r (2*r+1+1) l':=ch0
      have hcr:=ch.rng
      have g3:=fun L=>sq_ld hr2.row (i:=f+r) (by omega) (L:=L)
      have g4:=fun L=>sq_ld hr2.row (i:=f+(2*r+1+1)) (by omega) (L:=L)
      simp (disch:=omega) [f0,f2,f3,f4,f10,wrap_i64,e1,e2,e3,e4,g3,g4,hst,sq_addr,-viaddrS_in,-vload_ptrO]
      refine hc.at hr2 (i:=f+r) (j:=f+(2*r+1+1)) (by omega) (by omega) fun H3 x3 hr3 => ?_
      simp
      refine cond_ndec (fun hlt => ?_) fun hlt => ?_
      · simp
        exact hK _ _ hr3 hpp (hI.end2 ho ch hlt)
      · have g3:=fun L=>sq_ld hr3.row (i:=f+r) (by omega) (L:=L)
        have g4:=fun L=>sq_ld hr3.row (i:=f+(2*r+1+1)) (by omega) (L:=L)
        have w1:=fun L=>sq_w1 hr3 hlim (i:=f+r) (by omega) (L:=L) (gE l' (f+(2*r+1+1)))
        have w2:=fun L=>sq_w2 hr3 hlim (i:=f+r) (j:=f+(2*r+1+1)) (by omega) (L:=L)
        have hr4:=hr3.swap (i:=f+r) (j:=f+(2*r+1+1)) (by omega) (by omega)
        have hps:=hpp.trans (swp_perm (l:=l') (i:=f+r) (j:=f+(2*r+1+1)) (a:=f) (b:=f+hi) ⟨by omega,by omega⟩ ⟨by omega,by omega⟩ (by omega))
        have hI2:=hI.step ho ch (by omega) hlt
        simp (disch:=omega) [f0,f2,f3,f4,f10,wrap_i64,e1,e2,e3,e4,g3,g4,w1,w2,sq_addr,-viaddrS_in,-vstore,-vload_ptrO]
        exact ⟨hi+1-(2*r+1+1),by omega,_,2*r+1+1,by omega,hr4,hps,hI2,by omega,rfl⟩
    · have ch0:=ChR.one ho (hi:=hi) (l:=l') (f:=f) h1 (fun h=>hlt h.2)
      have ch:ChR cf f hi r (2*r+1) l':=ch0
      have hcr:=ch.rng
      have g3:=fun L=>sq_ld hr2.row (i:=f+r) (by omega) (L:=L)
      have g4:=fun L=>sq_ld hr2.row (i:=f+(2*r+1)) (by omega) (L:=L)
      simp (disch:=omega) [f0,f2,f3,f4,f10,wrap_i64,e1,e2,e3,e4,g3,g4,hst,sq_addr,-viaddrS_in,-vload_ptrO]
      refine hc.at hr2 (i:=f+r) (j:=f+(2*r+1)) (by omega) (by omega) fun H3 x3 hr3 => ?_
      simp
      refine cond_ndec (fun hlt => ?_) fun hlt => ?_
      · simp
        exact hK _ _ hr3 hpp (hI.end2 ho ch hlt)
      · have g3:=fun L=>sq_ld hr3.row (i:=f+r) (by omega) (L:=L)
        have g4:=fun L=>sq_ld hr3.row (i:=f+(2*r+1)) (by omega) (L:=L)
        have w1:=fun L=>sq_w1 hr3 hlim (i:=f+r) (by omega) (L:=L) (gE l' (f+(2*r+1)))
        have w2:=fun L=>sq_w2 hr3 hlim (i:=f+r) (j:=f+(2*r+1)) (by omega) (L:=L)
        have hr4:=hr3.swap (i:=f+r) (j:=f+(2*r+1)) (by omega) (by omega)
        have hps:=hpp.trans (swp_perm (l:=l') (i:=f+r) (j:=f+(2*r+1)) (a:=f) (b:=f+hi) ⟨by omega,by omega⟩ ⟨by omega,by omega⟩ (by omega))
        have hI2:=hI.step ho ch (by omega) hlt
        simp (disch:=omega) [f0,f2,f3,f4,f10,wrap_i64,e1,e2,e3,e4,g3,g4,w1,w2,sq_addr,-viaddrS_in,-vstore,-vload_ptrO]
        exact ⟨hi+1-(2*r+1),by omega,_,2*r+1,by omega,hr4,hps,hI2,by omega,rfl⟩
  · have ch0:=ChR.one ho (hi:=hi) (l:=l') (f:=f) h1 (fun h=>h2 h.1)
    have hgd:decide (2*(r:Int)+1+1<(hi:Int))=false:=decide_eq_false (by omega)
    simp (disch:=omega) [f0,f2,f3,f4,f10,hgd,wrap_i64,-viaddrS_in]
    have ch:ChR cf f hi r (2*r+1) l':=ch0
    have hcr:=ch.rng
    have g3:=fun L=>sq_ld hr.row (i:=f+r) (by omega) (L:=L)
    have g4:=fun L=>sq_ld hr.row (i:=f+(2*r+1)) (by omega) (L:=L)
    simp (disch:=omega) [f0,f2,f3,f4,f10,wrap_i64,e1,e2,e3,e4,g3,g4,hst,sq_addr,-viaddrS_in,-vload_ptrO]
    refine hc.at hr (i:=f+r) (j:=f+(2*r+1)) (by omega) (by omega) fun H3 x3 hr3 => ?_
    simp
    refine cond_ndec (fun hlt => ?_) fun hlt => ?_
    · simp
      exact hK _ _ hr3 hpp (hI.end2 ho ch hlt)
    · have g3:=fun L=>sq_ld hr3.row (i:=f+r) (by omega) (L:=L)
      have g4:=fun L=>sq_ld hr3.row (i:=f+(2*r+1)) (by omega) (L:=L)
      have w1:=fun L=>sq_w1 hr3 hlim (i:=f+r) (by omega) (L:=L) (gE l' (f+(2*r+1)))
      have w2:=fun L=>sq_w2 hr3 hlim (i:=f+r) (j:=f+(2*r+1)) (by omega) (L:=L)
      have hr4:=hr3.swap (i:=f+r) (j:=f+(2*r+1)) (by omega) (by omega)
      have hps:=hpp.trans (swp_perm (l:=l') (i:=f+r) (j:=f+(2*r+1)) (a:=f) (b:=f+hi) ⟨by omega,by omega⟩ ⟨by omega,by omega⟩ (by omega))
      have hI2:=hI.step ho ch (by omega) hlt
      simp (disch:=omega) [f0,f2,f3,f4,f10,wrap_i64,e1,e2,e3,e4,g3,g4,w1,w2,sq_addr,-viaddrS_in,-vstore,-vload_ptrO]
      exact ⟨hi+1-(2*r+1),by omega,_,2*r+1,by omega,hr4,hps,hI2,by omega,rfl⟩
theorem sq_heap (hs:SqS b H0 l0 l H)(hlim:lim≤b)(hst:allStor fs=true∧allStor cs=true∧g≠3999999)(hc:CmpQ b g fs cs H0 l0 cf)(ho:Ordr cf){a e:Nat}(hae:a<e∧e≤l0.length)(hl:l0.length≤100000)
    (hK:∀H' l',SqS b H0 l0 l' H'→PermR a e l l'→SortR cf a e l'→K (.tup []) H'):VCall tbl lim 54 [.sl b 0 l0.length 1,.int .i64 a,.int .i64 e,.func (.func g) fs cs] H K:=by
  refine VCall_fn tbl_at54 rfl ?_
  have hn:=hs.n
  obtain ⟨d,rfl⟩:∃d,e=a+d:=⟨e-a,by omega⟩
  have ed:((a+d:Nat):Int)-(a:Int)=(d:Int):=by omega
  have e0:(a:Int)+(d:Int)-(a:Int)=(d:Int):=by omega
  have eq2:((d:Int)-1).tdiv 2=(((d-1) / 2:Nat):Int):=by
    have:(d:Int)-1=((d-1:Nat):Int):=by omega
    rw [this];exact tdiv_nat _ 2
  simp (disch:=omega) [vf54,wrap_i64,ed,e0,eq2]
  refine wLoop_post 0 (fun fr L H'=>∃l',(fr 0=.sl b 0 l0.length 1∧fr 3=.func (.func g) fs cs∧fr 8=.int .i64 a∧fr 9=.int .i64 0∧fr 10=.int .i64 d)∧L=[]∧SqS b H0 l0 l' H'∧PermR a (a+d) l l'∧HpR cf a 0 d l') ?_ ?_
  · refine wLoop_m (n:=(d-1) / 2+1) (fun m fr L H'=>∃l',(fr 0=.sl b 0 l0.length 1∧fr 3=.func (.func g) fs cs∧fr 8=.int .i64 a∧fr 9=.int .i64 0∧fr 10=.int .i64 d∧fr 11=.int .i64 ((m:Nat)-1:Int))∧L=[]∧SqS b H0 l0 l' H'∧PermR a (a+d) l l'∧HpR cf a m d l'∧m≤(d-1) / 2+1) ⟨l,by simp,rfl,hs,PermR.refl,HpR.none,Nat.le_refl _⟩ ?_
    rintro m fr L H' ⟨l',⟨f0,f3,f8,f9,f10,f11⟩,rfl,hr,hp,hH,hm⟩
    have hlen:=hp.len
    simp [f0,f3,f8,f9,f10,f11]
    refine cond_dec (fun ht => ?_) fun ht => ?_
    · obtain ⟨k,rfl⟩:∃k,m=k+1:=⟨m-1,by omega⟩
      have e1:((k+1:Nat):Int)-1=(k:Int):=by omega
      have e2:(k:Int)+1-1=(k:Int):=by omega
      simp [f0,f3,f8,f9,f10,f11,e1,e2,hst]
      refine sq_sift hr hlim hst hc ho (f:=a) (lo:=k) (hi:=d) (by omega) hl hH fun H2 l2 hr2 hp2 hH2 => ?_
      simp (disch:=omega) [f0,f3,f8,f9,f10,f11,e1,e2,wrap_i64]
      exact ⟨k,by omega,by omega,l2,hr2,hp.trans hp2,hH2,by omega⟩
    · have:m=0:=by omega
      subst this
      simp [f0,f3,f8,f9,f10]
      exact ⟨l',hr,hp,hH⟩
  rintro fr L H' ⟨l',⟨f0,f3,f8,f9,f10⟩,rfl,hr,hp,hH⟩
  simp (disch:=omega) [f0,f3,f8,f9,f10,wrap_i64]
  refine wLoop_m (n:=d) (fun m fr L H'=>∃l',(fr 0=.sl b 0 l0.length 1∧fr 3=.func (.func g) fs cs∧fr 8=.int .i64 a∧fr 9=.int .i64 0∧fr 10=.int .i64 d∧fr 12=.int .i64 ((m:Nat)-1:Int))∧L=[]∧SqS b H0 l0 l' H'∧PermR a (a+d) l l'∧HpR cf a 0 m l'∧OutR cf a (a+d) a (a+m) l'∧m≤d) ⟨l',by simp [f0,f3,f8,f9,f10],rfl,hr,hp,hH,OutR.start (by omega),Nat.le_refl _⟩ ?_
  clear f0 f3 f8 f9 f10 hr hp hH l'
  rintro m fr L H' ⟨l',⟨f0,f3,f8,f9,f10,f12⟩,rfl,hr,hp,hH,hO,hm⟩
  have hlen:=hp.len
  simp [f0,f3,f8,f9,f10,f12]
  refine cond_dec (fun ht => ?_) fun ht => ?_
  · obtain ⟨k,rfl⟩:∃k,m=k+1:=⟨m-1,by omega⟩
    have e1:((k+1:Nat):Int)-1=(k:Int):=by omega
    have e2:(k:Int)+1-1=(k:Int):=by omega
    have e3:((a:Int)+(k:Int)).toNat=a+k:=by omega
    have g1:=fun L=>sq_ld hr.row (i:=a) (by omega) (L:=L)
    have g2:=fun L=>sq_ld hr.row (i:=a+k) (by omega) (L:=L)
    have w1:=fun L=>sq_w1 hr hlim (i:=a) (by omega) (L:=L) (gE l' (a+k))
    have w2:=fun L=>sq_w2 hr hlim (i:=a) (j:=a+k) (by omega) (L:=L)
    have hr4:=hr.swap (i:=a) (j:=a+k) (by omega) (by omega)
    have hps:=hp.trans (swp_perm (l:=l') (i:=a) (j:=a+k) (a:=a) (b:=a+d) ⟨by omega,by omega⟩ ⟨by omega,by omega⟩ (by omega))
    obtain ⟨hH1,hO1⟩:=hH.pop ho hO (by omega)
    simp (disch:=omega) [f0,f3,f8,f9,f10,f12,e1,e2,e3,wrap_i64,g1,g2,w1,w2,hst,sq_addr,-viaddrS_in,-vstore,-vload_ptrO]
    refine sq_sift hr4 hlim hst hc ho (f:=a) (lo:=0) (hi:=k) (by omega) hl hH1 fun H2 l2 hr2 hp2 hH2 => ?_
    simp (disch:=omega) [f0,f3,f8,f9,f10,f12,e1,e2,wrap_i64]
    exact ⟨k,by omega,by omega,l2,hr2,hps.trans (hp2.wide (Nat.le_refl _) (by omega)),hH2,hO1.perm hp2 (by rw [swp_len];omega),by omega⟩
  · have:m=0:=by omega
    subst this
    simp
    exact hK _ _ hr hp (hO.sort fun p q h1 h2 h3=>by omega)
theorem sq_part (hs:SqS b H0 l0 l H) (hlim:lim≤b) (hst:allStor fs=true∧allStor cs=true∧g≠3999999) (hc:CmpQ b g fs cs H0 l0 cf) (ho:Ordr cf) {a e v:Nat} (hae:a≤v∧v<e∧e≤l0.length) (hl:l0.length≤100000)
    (hK:∀H' l' m ok,SqS b H0 l0 l' H'→PermR a e l l'→PartR cf a e m l'→K (.tup [.int .i64 (m:Nat),.bool ok]) H'):VCall tbl lim 60 [.sl b 0 l0.length 1,.int .i64 a,.int .i64 e,.int .i64 v,.func (.func g) fs cs] H K:=by
  refine VCall_fn tbl_at60 rfl ?_
  have hn:=hs.n
  have g1:=fun L=>sq_ld hs.row (i:=a) (by omega) (L:=L)
  have g2:=fun L=>sq_ld hs.row (i:=v) (by omega) (L:=L)
  have w1:=fun L=>sq_w1 hs hlim (i:=a) (by omega) (L:=L) (gE l v)
  have w2:=fun L=>sq_w2 hs hlim (i:=a) (j:=v) (by omega) (L:=L)
  have hs1:=hs.swap (i:=a) (j:=v) (by omega) (by omega)
  have hp1:PermR a e l (swp l a v):=swp_perm ⟨by omega,by omega⟩ ⟨by omega,by omega⟩ (by omega)
  have e0:(e:Int)-1=((e-1:Nat):Int):=by omega
  simp (disch:=omega) [vf60,wrap_i64,g1,g2,w1,w2,hst,sq_addr,e0,-viaddrS_in,-vstore,-vload_ptrO]
  refine wLoop_post 0 (fun fr L H'=>∃l' i j,(fr 0=.sl b 0 l0.length 1∧fr 1=.int .i64 a∧fr 4=.func (.func g) fs cs∧fr 12=.int .i64 (i:Nat)∧fr 13=.int .i64 (j:Nat))∧L=[]∧SqS b H0 l0 l' H'∧PermR a e l l'∧PtI cf a e i j l'∧j+1-i≤(e-a)∧(i≤j→¬cf (gE l' i) (gE l' a)<0)) ?_ ?_
  · refine wLoop_m (n:=(e-a)) (fun m fr L H'=>∃l' i j,(fr 0=.sl b 0 l0.length 1∧fr 1=.int .i64 a∧fr 4=.func (.func g) fs cs∧fr 12=.int .i64 (i:Nat)∧fr 13=.int .i64 (j:Nat))∧L=[]∧SqS b H0 l0 l' H'∧PermR a e l l'∧PtI cf a e i j l'∧j+1-i≤m∧m≤(e-a)) ⟨swp l a v,a+1,e-1,by simp,rfl,hs1,hp1,PtI.start (by omega),by omega,Nat.le_refl _⟩ ?_
    rintro m fr L H' ⟨l',i,j,⟨f0,f1,f4,f12,f13⟩,rfl,hr,hp,hI,hm,hm2⟩
    have hrg:=hI.rng
    have hlen:=hp.len
    by_cases hij:i≤j
    · have hgt:((i:Int)≤(j:Int))=True:=eq_true (by omega)
      have g1:=fun L=>sq_ld hr.row (i:=i) (by omega) (L:=L)
      have g2:=fun L=>sq_ld hr.row (i:=a) (by omega) (L:=L)
      simp (disch:=omega) [f0,f1,f4,f12,f13,hgt,wrap_i64,g1,g2,hst,sq_addr,-viaddrS_in,-vload_ptrO]
      refine hc.at hr (i:=i) (j:=a) (by omega) (by omega) fun H2 x2 hr2 => ?_
      simp
      refine cond_dec (fun hlt => ?_) fun hlt => ?_
      · simp (disch:=omega) [f0,f1,f4,f12,f13,wrap_i64]
        exact ⟨m-1,by omega,l',i+1,j,by omega,hr2,hp,hI.up hij hlt,by omega,by omega⟩
      · simp [f0,f1,f4,f12,f13]
        exact ⟨l',i,j,by omega,hr2,hp,hI,by omega,fun _=>by omega⟩
    · have hgt:((i:Int)≤(j:Int))=False:=eq_false (by omega)
      simp (disch:=omega) [f0,f1,f4,f12,f13,hgt]
      exact ⟨l',i,j,by omega,hr,hp,hI,by omega,fun h=>absurd h hij⟩
  rintro fr L H' ⟨l',i,j,⟨f0,f1,f4,f12,f13⟩,rfl,hr,hp,hI,hm,hup⟩
  simp [f0,f1,f4,f12,f13]
  refine wLoop_post 2 (fun fr L H'=>∃l' i j,(fr 0=.sl b 0 l0.length 1∧fr 1=.int .i64 a∧fr 4=.func (.func g) fs cs∧fr 12=.int .i64 (i:Nat)∧fr 13=.int .i64 (j:Nat))∧L=[]∧SqS b H0 l0 l' H'∧PermR a e l l'∧PtI cf a e i j l'∧j+1-i≤(e-a)∧(i≤j→¬cf (gE l' i) (gE l' a)<0)∧(i≤j→cf (gE l' j) (gE l' a)<0)) ?_ ?_
  · refine wLoop_m (n:=(e-a)) (fun m fr L H'=>∃l' i j,(fr 0=.sl b 0 l0.length 1∧fr 1=.int .i64 a∧fr 4=.func (.func g) fs cs∧fr 12=.int .i64 (i:Nat)∧fr 13=.int .i64 (j:Nat))∧L=[]∧SqS b H0 l0 l' H'∧PermR a e l l'∧PtI cf a e i j l'∧(i≤j→¬cf (gE l' i) (gE l' a)<0)∧j+1-i≤m∧m≤(e-a)) ⟨l',i,j,by simp [f0,f1,f4,f12,f13],rfl,hr,hp,hI,hup,hm,Nat.le_refl _⟩ ?_
    clear f0 f1 f4 f12 f13 hr hp hI hup hm l' i j
    rintro m fr L H' ⟨l',i,j,⟨f0,f1,f4,f12,f13⟩,rfl,hr,hp,hI,hup,hm,hm2⟩
    have hrg:=hI.rng
    have hlen:=hp.len
    by_cases hij:i≤j
    · have hgt:((i:Int)≤(j:Int))=True:=eq_true (by omega)
      have g1:=fun L=>sq_ld hr.row (i:=j) (by omega) (L:=L)
      have g2:=fun L=>sq_ld hr.row (i:=a) (by omega) (L:=L)
      simp (disch:=omega) [f0,f1,f4,f12,f13,hgt,wrap_i64,g1,g2,hst,sq_addr,-viaddrS_in,-vload_ptrO]
      refine hc.at hr (i:=j) (j:=a) (by omega) (by omega) fun H2 x2 hr2 => ?_
      simp
      refine cond_ndec (fun hlt => ?_) fun hlt => ?_
      · have e1:(j:Int)-1=((j-1:Nat):Int):=by omega
        simp (disch:=omega) [f0,f1,f4,f12,f13,wrap_i64,e1]
        exact ⟨m-1,by omega,l',i,j-1,by omega,hr2,hp,hI.down hij hlt,fun h=>by have:=hup (by omega);omega,by omega,by omega⟩
      · simp [f0,f1,f4,f12,f13]
        exact ⟨l',i,j,by omega,hr2,hp,hI,by omega,fun h=>by have:=hup h;omega,fun _=>by omega⟩
    · have hgt:((i:Int)≤(j:Int))=False:=eq_false (by omega)
      simp (disch:=omega) [f0,f1,f4,f12,f13,hgt]
      exact ⟨l',i,j,by omega,hr,hp,hI,by omega,fun h=>absurd h hij,fun h=>absurd h hij⟩
  clear f0 f1 f4 f12 f13 hr hp hI hup hm l' i j
  rintro fr L H' ⟨l',i,j,⟨f0,f1,f4,f12,f13⟩,rfl,hr,hp,hI,hm,hup,hdn⟩
  have hrg:=hI.rng
  have hlen:=hp.len
  by_cases hij:i≤j
  · have hgt:((j:Int)<(i:Int))=False:=eq_false (by omega)
    have hi0:=hup hij
    have hj0:=hdn hij
    have g1:=fun L=>sq_ld hr.row (i:=i) (by omega) (L:=L)
    have g2:=fun L=>sq_ld hr.row (i:=j) (by omega) (L:=L)
    have w1:=fun L=>sq_w1 hr hlim (i:=i) (by omega) (L:=L) (gE l' j)
    have w2:=fun L=>sq_w2 hr hlim (i:=i) (j:=j) (by omega) (L:=L)
    have hr4:=hr.swap (i:=i) (j:=j) (by omega) (by omega)
    have hps:=hp.trans (swp_perm (l:=l') (i:=i) (j:=j) (a:=a) (b:=e) ⟨by omega,by omega⟩ ⟨by omega,by omega⟩ (by omega))
    have hI2:=hI.swap ho hij (by omega) hi0 hj0
    have hrg2:=hI2.rng
    have e1:(j:Int)-1=((j-1:Nat):Int):=by omega
    simp (disch:=omega) [f0,f1,f4,f12,f13,hgt,e1,wrap_i64,g1,g2,w1,w2,hst,sq_addr,-viaddrS_in,-vstore,-vload_ptrO]
    refine wLoop_m (n:=(e-a)) (fun m fr L H'=>∃l' i j,(fr 0=.sl b 0 l0.length 1∧fr 1=.int .i64 a∧fr 4=.func (.func g) fs cs∧fr 12=.int .i64 (i:Nat)∧fr 13=.int .i64 (j:Nat))∧L=[]∧SqS b H0 l0 l' H'∧PermR a e l l'∧PtI cf a e i j l'∧j+1-i≤m∧m≤(e-a)) ⟨swp l' i j,i+1,j-1,by simp [f0,f1,f4,f12,f13],rfl,hr4,hps,hI2,by omega,Nat.le_refl _⟩ ?_
    clear f0 f1 f4 f12 f13 hr hp hI hup hdn hm hrg hlen hij hgt hi0 hj0 g1 g2 w1 w2 hr4 hps hI2 hrg2 e1 l' i j
    rintro n fr L H' ⟨l',i,j,⟨f0,f1,f4,f12,f13⟩,rfl,hr,hp,hI,hm,hn2⟩
    simp [f0,f1,f4,f12,f13]
    refine wLoop_post 6 (fun fr L H'=>∃l' i j,(fr 0=.sl b 0 l0.length 1∧fr 1=.int .i64 a∧fr 4=.func (.func g) fs cs∧fr 12=.int .i64 (i:Nat)∧fr 13=.int .i64 (j:Nat))∧L=[]∧SqS b H0 l0 l' H'∧PermR a e l l'∧PtI cf a e i j l'∧j+1-i≤n∧(i≤j→¬cf (gE l' i) (gE l' a)<0)) ?_ ?_
    · refine wLoop_m (n:=n) (fun m fr L H'=>∃l' i j,(fr 0=.sl b 0 l0.length 1∧fr 1=.int .i64 a∧fr 4=.func (.func g) fs cs∧fr 12=.int .i64 (i:Nat)∧fr 13=.int .i64 (j:Nat))∧L=[]∧SqS b H0 l0 l' H'∧PermR a e l l'∧PtI cf a e i j l'∧j+1-i≤m∧m≤n) ⟨l',i,j,by simp [f0,f1,f4,f12,f13],rfl,hr,hp,hI,hm,Nat.le_refl _⟩ ?_
      clear f0 f1 f4 f12 f13 hr hp hI hm l' i j
      rintro m fr L H' ⟨l',i,j,⟨f0,f1,f4,f12,f13⟩,rfl,hr,hp,hI,hm,hm2⟩
      have hrg:=hI.rng
      have hlen:=hp.len
      by_cases hij:i≤j
      · have hgt:((i:Int)≤(j:Int))=True:=eq_true (by omega)
        have g1:=fun L=>sq_ld hr.row (i:=i) (by omega) (L:=L)
        have g2:=fun L=>sq_ld hr.row (i:=a) (by omega) (L:=L)
        simp (disch:=omega) [f0,f1,f4,f12,f13,hgt,wrap_i64,g1,g2,hst,sq_addr,-viaddrS_in,-vload_ptrO]
        refine hc.at hr (i:=i) (j:=a) (by omega) (by omega) fun H2 x2 hr2 => ?_
        simp
        refine cond_dec (fun hlt => ?_) fun hlt => ?_
        · simp (disch:=omega) [f0,f1,f4,f12,f13,wrap_i64]
          exact ⟨m-1,by omega,l',i+1,j,by omega,hr2,hp,hI.up hij hlt,by omega,by omega⟩
        · simp [f0,f1,f4,f12,f13]
          exact ⟨l',i,j,by omega,hr2,hp,hI,by omega,fun _=>by omega⟩
      · have hgt:((i:Int)≤(j:Int))=False:=eq_false (by omega)
        simp (disch:=omega) [f0,f1,f4,f12,f13,hgt]
        exact ⟨l',i,j,by omega,hr,hp,hI,by omega,fun h=>absurd h hij⟩
    clear f0 f1 f4 f12 f13 hr hp hI hm l' i j
    rintro fr L H' ⟨l',i,j,⟨f0,f1,f4,f12,f13⟩,rfl,hr,hp,hI,hm,hup⟩
    simp [f0,f1,f4,f12,f13]
    refine wLoop_post 8 (fun fr L H'=>∃l' i j,(fr 0=.sl b 0 l0.length 1∧fr 1=.int .i64 a∧fr 4=.func (.func g) fs cs∧fr 12=.int .i64 (i:Nat)∧fr 13=.int .i64 (j:Nat))∧L=[]∧SqS b H0 l0 l' H'∧PermR a e l l'∧PtI cf a e i j l'∧j+1-i≤n∧(i≤j→¬cf (gE l' i) (gE l' a)<0)∧(i≤j→cf (gE l' j) (gE l' a)<0)) ?_ ?_
    · refine wLoop_m (n:=n) (fun m fr L H'=>∃l' i j,(fr 0=.sl b 0 l0.length 1∧fr 1=.int .i64 a∧fr 4=.func (.func g) fs cs∧fr 12=.int .i64 (i:Nat)∧fr 13=.int .i64 (j:Nat))∧L=[]∧SqS b H0 l0 l' H'∧PermR a e l l'∧PtI cf a e i j l'∧(i≤j→¬cf (gE l' i) (gE l' a)<0)∧j+1-i≤m∧m≤n) ⟨l',i,j,by simp [f0,f1,f4,f12,f13],rfl,hr,hp,hI,hup,hm,Nat.le_refl _⟩ ?_
      clear f0 f1 f4 f12 f13 hr hp hI hup hm l' i j
      rintro m fr L H' ⟨l',i,j,⟨f0,f1,f4,f12,f13⟩,rfl,hr,hp,hI,hup,hm,hm2⟩
      have hrg:=hI.rng
      have hlen:=hp.len
      by_cases hij:i≤j
      · have hgt:((i:Int)≤(j:Int))=True:=eq_true (by omega)
        have g1:=fun L=>sq_ld hr.row (i:=j) (by omega) (L:=L)
        have g2:=fun L=>sq_ld hr.row (i:=a) (by omega) (L:=L)
        simp (disch:=omega) [f0,f1,f4,f12,f13,hgt,wrap_i64,g1,g2,hst,sq_addr,-viaddrS_in,-vload_ptrO]
        refine hc.at hr (i:=j) (j:=a) (by omega) (by omega) fun H2 x2 hr2 => ?_
        simp
        refine cond_ndec (fun hlt => ?_) fun hlt => ?_
        · have e1:(j:Int)-1=((j-1:Nat):Int):=by omega
          simp (disch:=omega) [f0,f1,f4,f12,f13,wrap_i64,e1]
          exact ⟨m-1,by omega,l',i,j-1,by omega,hr2,hp,hI.down hij hlt,fun h=>by have:=hup (by omega);omega,by omega,by omega⟩
        · simp [f0,f1,f4,f12,f13]
          exact ⟨l',i,j,by omega,hr2,hp,hI,by omega,fun h=>by have:=hup h;omega,fun _=>by omega⟩
      · have hgt:((i:Int)≤(j:Int))=False:=eq_false (by omega)
        simp (disch:=omega) [f0,f1,f4,f12,f13,hgt]
        exact ⟨l',i,j,by omega,hr,hp,hI,by omega,fun h=>absurd h hij,fun h=>absurd h hij⟩
    clear f0 f1 f4 f12 f13 hr hp hI hup hm l' i j
    rintro fr L H' ⟨l',i,j,⟨f0,f1,f4,f12,f13⟩,rfl,hr,hp,hI,hm,hup,hdn⟩
    have hrg:=hI.rng
    have hlen:=hp.len
    by_cases hij:i≤j
    · have hgt:((j:Int)<(i:Int))=False:=eq_false (by omega)
      have hi0:=hup hij
      have hj0:=hdn hij
      have g1:=fun L=>sq_ld hr.row (i:=i) (by omega) (L:=L)
      have g2:=fun L=>sq_ld hr.row (i:=j) (by omega) (L:=L)
      have w1:=fun L=>sq_w1 hr hlim (i:=i) (by omega) (L:=L) (gE l' j)
      have w2:=fun L=>sq_w2 hr hlim (i:=i) (j:=j) (by omega) (L:=L)
      have hr4:=hr.swap (i:=i) (j:=j) (by omega) (by omega)
      have hps:=hp.trans (swp_perm (l:=l') (i:=i) (j:=j) (a:=a) (b:=e) ⟨by omega,by omega⟩ ⟨by omega,by omega⟩ (by omega))
      have hI2:=hI.swap ho hij (by omega) hi0 hj0
      have hrg2:=hI2.rng
      have e1:(j:Int)-1=((j-1:Nat):Int):=by omega
      simp (disch:=omega) [f0,f1,f4,f12,f13,hgt,e1,wrap_i64,g1,g2,w1,w2,hst,sq_addr,-viaddrS_in,-vstore,-vload_ptrO]
      exact ⟨n-1,by omega,_,i+1,j-1,by omega,hr4,hps,hI2,by omega,by omega⟩
    · have hgt:((j:Int)<(i:Int))=True:=eq_true (by omega)
      have hij2:¬i≤j:=hij
      have g1:=fun L=>sq_ld hr.row (i:=j) (by omega) (L:=L)
      have g2:=fun L=>sq_ld hr.row (i:=a) (by omega) (L:=L)
      have w1:=fun L=>sq_w1 hr hlim (i:=j) (by omega) (L:=L) (gE l' a)
      have w2:=fun L=>sq_w2 hr hlim (i:=j) (j:=a) (by omega) (L:=L)
      have hr4:=hr.swap (i:=j) (j:=a) (by omega) (by omega)
      have hps:=hp.trans (swp_perm (l:=l') (i:=j) (j:=a) (a:=a) (b:=e) ⟨by omega,by omega⟩ ⟨by omega,by omega⟩ (by omega))
      simp (disch:=omega) [f0,f1,f4,f12,f13,hgt,wrap_i64,g1,g2,w1,w2,hst,sq_addr,-viaddrS_in,-vstore,-vload_ptrO]
      exact hK _ _ j false hr4 hps (hI.done ho hij2 (by omega))
  · have hgt:((j:Int)<(i:Int))=True:=eq_true (by omega)
    have hij2:¬i≤j:=hij
    have g1:=fun L=>sq_ld hr.row (i:=j) (by omega) (L:=L)
    have g2:=fun L=>sq_ld hr.row (i:=a) (by omega) (L:=L)
    have w1:=fun L=>sq_w1 hr hlim (i:=j) (by omega) (L:=L) (gE l' a)
    have w2:=fun L=>sq_w2 hr hlim (i:=j) (j:=a) (by omega) (L:=L)
    have hr4:=hr.swap (i:=j) (j:=a) (by omega) (by omega)
    have hps:=hp.trans (swp_perm (l:=l') (i:=j) (j:=a) (a:=a) (b:=e) ⟨by omega,by omega⟩ ⟨by omega,by omega⟩ (by omega))
    simp (disch:=omega) [f0,f1,f4,f12,f13,hgt,wrap_i64,g1,g2,w1,w2,hst,sq_addr,-viaddrS_in,-vstore,-vload_ptrO]
    exact hK _ _ j true hr4 hps (hI.done ho hij2 (by omega))
end
end Go.Proofs.YthfimpangfhliaaGreatDoor.Vm
namespace Go.Proofs.YthfimpangfhliaaGreatDoor.Vm
open Go
set_option maxRecDepth 100000
set_option maxHeartbeats 1000000
set_option linter.unusedSimpArgs false
set_option linter.unusedVariables false
attribute [-simp] List.getD_eq_getElem?_getD
section
variable {T:Tbl}{lim:Nat}
theorem wVal_mon {o:VOper}{s:St}{K K':V→Lo→Hp→Prop}(h:wVal T lim o s K)(hk:∀v L H,K v L H→K' v L H):wVal T lim o s K':=by
  unfold wVal at h ⊢
  split
  · rename_i hw
    rw [if_pos hw] at h
    split
    · rename_i h1;rw [h1] at h;exact hk _ _ _ h
    · rename_i h1;rw [h1] at h;exact h.mono fun v H=>hk _ _ _
    · rename_i h1;rw [h1] at h;exact h
  · rename_i hw
    rw [if_neg hw] at h;exact hk _ _ _ h
theorem wOps_mon:∀{l:List VOper} {s:St} {K K':St→Prop},wOps T lim l K s→(∀s,K s→K' s)→wOps T lim l K' s
  | [],s,K,K',h,hk=>hk _ h
  | o :: l,s,K,K',h,hk=>wVal_mon h fun _ _ _ h2=>wOps_mon h2 hk
theorem wHead_mon:∀{l:List VOper} {k:Nat} {acc:List (Nat×Nat)} {s:St} {K K':St→Prop},wHead T k l acc K s→(∀s,K s→K' s)→wHead T k l acc K' s
  | [],k,acc,s,K,K',h,hk=>hk _ h
  | o :: l,k,acc,s,K,K',h,hk=>by
    simp only [wHead] at h ⊢
    split
    · rename_i h1;rw [h1] at h;exact h
    · rename_i h1;rw [h1] at h;exact wVal_mon h fun _ _ _ h2=>wHead_mon h2 hk
theorem wHeadS_mon:∀{l:List VOper} {k:Nat} {acc:List (Nat×Nat)} {hp:HpAcc} {s:St} {K K':St→Prop},wHeadS T lim k l acc hp K s→(∀s,K s→K' s)→wHeadS T lim k l acc hp K' s
  | [],k,acc,hp,s,K,K',h,hk=>hk _ h
  | o :: l,k,acc,hp,s,K,K',h,hk=>by
    simp only [wHeadS] at h ⊢
    split
    · rename_i h1;rw [h1] at h;exact h
    · rename_i h1;rw [h1] at h;exact wVal_mon h fun _ _ _ h2=>wHeadS_mon h2 hk
theorem wCode_mon:∀{c:VCode} {Q Q':VExit→St→Prop} {s:St},wCode T lim c Q s→(∀e s,Q e s→Q' e s)→wCode T lim c Q' s
  | .skip,Q,Q',s,h,hq=>hq _ _ h
  | .reg ops,Q,Q',s,h,hq=>wOps_mon h fun s=>hq _ s
  | .draw hd t,Q,Q',s,h,hq=>wHead_mon h fun s h2=>wOps_mon h2 fun s=>hq _ s
  | .drawS hd t,Q,Q',s,h,hq=>wHeadS_mon h fun s h2=>wOps_mon h2 fun s=>hq _ s
  | .seq a b,Q,Q',s,h,hq=>wCode_mon (c:=a) h fun e s h2=>by
    cases e with
    | normal=>exact wCode_mon (c:=b) h2 hq
    | exit id=>exact hq _ _ h2
    | ret=>exact hq _ _ h2
  | .cond c a b,Q,Q',s,h,hq=>by
    simp only [wCode] at h ⊢
    split
    · rename_i h1;rw [h1] at h;exact wCode_mon (c:=a) h hq
    · rename_i h1;rw [h1] at h;exact wCode_mon (c:=b) h hq
    · rename_i h1 h2
      split at h
      · rename_i h3;exact absurd h3 h1
      · rename_i h3;exact absurd h3 h2
      · exact h
  | .block id body,Q,Q',s,h,hq=>wCode_mon (c:=body) h fun e s h2=>by
    cases e with
    | normal=>exact hq _ _ h2
    | exit id' =>
      simp only [blockQ] at h2 ⊢
      split
      · rename_i h3;rw [if_pos h3] at h2;exact hq _ _ h2
      · rename_i h3;rw [if_neg h3] at h2;exact hq _ _ h2
    | ret=>exact hq _ _ h2
  | .loop body,Q,Q',s,h,hq=>by
    obtain ⟨n,e,s',h1,h2⟩:=h
    exact ⟨n,e,s',h1,hq _ _ h2⟩
  | .scope body,Q,Q',s,h,hq=>wCode_mon (c:=body) h hq
  | .exit id,Q,Q',s,h,hq=>hq _ _ h
  | .ret,Q,Q',s,h,hq=>hq _ _ h
  | .stuck,Q,Q',s,h,hq=>h
  | .rangeF gg f ps nt,Q,Q',s,h,hq=>by
    simp only [wCode] at h ⊢
    split
    · rename_i h1
      rw [h1] at h
      exact ⟨h.1,h.2.mono fun _ H2 ⟨f2,ps2,fr2,h3,h4⟩=>⟨f2,ps2,fr2,h3,hq _ _ h4⟩⟩
    · rename_i h1
      split at h
      · rename_i h3;exact absurd h3 (h1 _ _ _)
      · exact h
theorem wCond_join {c:Bool}{X Y:VCode}{Q:VExit→St→Prop}{s:St}(P:Fr→Lo→Hp→Prop)(hX:c=true→wCode T lim X (seqQ (fun s'=>P s'.fr s'.L s'.H) Q) s)(hY:c=false→wCode T lim Y (seqQ (fun s'=>P s'.fr s'.L s'.H) Q) s)
    (hR:∀fr L H,P fr L H→Q .normal ⟨fr,L,H⟩):wCond T lim (.bool c) X Y Q s:=by
  have hm:∀e s,seqQ (fun s'=>P s'.fr s'.L s'.H) Q e s→Q e s:=fun e s h=>by
    cases e with
    | normal=>exact hR _ _ _ h
    | exit id=>exact h
    | ret=>exact h
  cases c with
  | true=>exact wCode_mon (hX rfl) hm
  | false=>exact wCode_mon (hY rfl) hm
theorem wSeq_join {A B:VCode}{Q:VExit→St→Prop}{s:St}(P:Fr→Lo→Hp→Prop)(hA:wCode T lim A (seqQ (fun s'=>P s'.fr s'.L s'.H) Q) s)(hR:∀fr L H,P fr L H→wCode T lim B Q ⟨fr,L,H⟩):wCode T lim (.seq A B) Q s :=
  wCode_mon (c:=A) hA fun e s h=>by
    cases e with
    | normal=>exact hR _ _ _ h
    | exit id=>exact h
    | ret=>exact h
end
section
variable {lim:Nat}{H H0:Hp}{K:V→Hp→Prop}{b g:Nat}{l l0:List EQ}{cf:EQ→EQ→Int}{fs cs:List V}
theorem sq_partEq (hs:SqS b H0 l0 l H) (hlim:lim≤b) (hst:allStor fs=true∧allStor cs=true∧g≠3999999) (hc:CmpQ b g fs cs H0 l0 cf) (ho:Ordr cf) {a e v:Nat} (hae:a≤v∧v<e∧e≤l0.length) (hl:l0.length≤100000)
    (hmin:∀k,a≤k→k<e→leC cf (l.getD v default) (l.getD k default))
    (hK:∀H' l' m,SqS b H0 l0 l' H'→PermR a e l l'→(a<m∧m≤e)→(∀p q,a≤p→p<m→p<q→q<e→leC cf (l'.getD p default) (l'.getD q default))→K (.int .i64 (m:Nat)) H'):VCall tbl lim 59 [.sl b 0 l0.length 1,.int .i64 a,.int .i64 e,.int .i64 v,.func (.func g) fs cs] H K:=by
  refine VCall_fn tbl_at59 rfl ?_
  have hn:=hs.n
  have g1:=fun L=>sq_ld hs.row (i:=a) (by omega) (L:=L)
  have g2:=fun L=>sq_ld hs.row (i:=v) (by omega) (L:=L)
  have w1:=fun L=>sq_w1 hs hlim (i:=a) (by omega) (L:=L) (gE l v)
  have w2:=fun L=>sq_w2 hs hlim (i:=a) (j:=v) (by omega) (L:=L)
  have hs1:=hs.swap (i:=a) (j:=v) (by omega) (by omega)
  have hp1:PermR a e l (swp l a v):=swp_perm ⟨by omega,by omega⟩ ⟨by omega,by omega⟩ (by omega)
  have e0:(e:Int)-1=((e-1:Nat):Int):=by omega
  have hm1:=least_swp (cf:=cf) (l:=l) (a:=a) (b:=e) (v:=v) (by omega) (by omega) hmin
  simp (disch:=omega) [vf59,wrap_i64,g1,g2,w1,w2,hst,sq_addr,e0,-viaddrS_in,-vstore,-vload_ptrO]
  refine wLoop_m (n:=(e-a)) (fun m fr L H'=>∃l' i j,(fr 0=.sl b 0 l0.length 1∧fr 1=.int .i64 a∧fr 4=.func (.func g) fs cs∧fr 11=.int .i64 (i:Nat)∧fr 12=.int .i64 (j:Nat))∧L=[]∧SqS b H0 l0 l' H'∧PermR a e l l'∧PeI cf a e i j l'∧j+1-i≤m∧m≤(e-a)) ⟨swp l a v,a+1,e-1,by simp,rfl,hs1,hp1,PeI.start (by omega) hm1,by omega,Nat.le_refl _⟩ ?_
  rintro n fr L H' ⟨l',i,j,⟨f0,f1,f4,f11,f12⟩,rfl,hr,hp,hI,hm,hn2⟩
  simp [f0,f1,f4,f11,f12]
  refine wLoop_post 2 (fun fr L H'=>∃l' i j,(fr 0=.sl b 0 l0.length 1∧fr 1=.int .i64 a∧fr 4=.func (.func g) fs cs∧fr 11=.int .i64 (i:Nat)∧fr 12=.int .i64 (j:Nat))∧L=[]∧SqS b H0 l0 l' H'∧PermR a e l l'∧PeI cf a e i j l'∧j+1-i≤n∧(i≤j→cf (gE l' a) (gE l' i)<0)) ?_ ?_
  · refine wLoop_m (n:=n) (fun m fr L H'=>∃l' i j,(fr 0=.sl b 0 l0.length 1∧fr 1=.int .i64 a∧fr 4=.func (.func g) fs cs∧fr 11=.int .i64 (i:Nat)∧fr 12=.int .i64 (j:Nat))∧L=[]∧SqS b H0 l0 l' H'∧PermR a e l l'∧PeI cf a e i j l'∧j+1-i≤m∧m≤n) ⟨l',i,j,by simp [f0,f1,f4,f11,f12],rfl,hr,hp,hI,hm,Nat.le_refl _⟩ ?_
    clear f0 f1 f4 f11 f12 hr hp hI hm l' i j
    rintro m fr L H' ⟨l',i,j,⟨f0,f1,f4,f11,f12⟩,rfl,hr,hp,hI,hm,hm2⟩
    have hrg:=hI.rng
    have hlen:=hp.len
    by_cases hij:i≤j
    · have hgt:((i:Int)≤(j:Int))=True:=eq_true (by omega)
      have g1:=fun L=>sq_ld hr.row (i:=a) (by omega) (L:=L)
      have g2:=fun L=>sq_ld hr.row (i:=i) (by omega) (L:=L)
      simp (disch:=omega) [f0,f1,f4,f11,f12,hgt,wrap_i64,g1,g2,hst,sq_addr,-viaddrS_in,-vload_ptrO]
      refine hc.at hr (i:=a) (j:=i) (by omega) (by omega) fun H2 x2 hr2 => ?_
      simp
      refine cond_ndec (fun hlt => ?_) fun hlt => ?_
      · simp (disch:=omega) [f0,f1,f4,f11,f12,wrap_i64]
        exact ⟨m-1,by omega,l',i+1,j,by omega,hr2,hp,hI.up hij hlt,by omega,by omega⟩
      · simp [f0,f1,f4,f11,f12]
        exact ⟨l',i,j,by omega,hr2,hp,hI,by omega,fun _=>hlt⟩
    · have hgt:((i:Int)≤(j:Int))=False:=eq_false (by omega)
      simp (disch:=omega) [f0,f1,f4,f11,f12,hgt]
      exact ⟨l',i,j,by omega,hr,hp,hI,by omega,fun h=>absurd h hij⟩
  clear f0 f1 f4 f11 f12 hr hp hI hm l' i j
  rintro fr L H' ⟨l',i,j,⟨f0,f1,f4,f11,f12⟩,rfl,hr,hp,hI,hm,hup⟩
  simp [f0,f1,f4,f11,f12]
  refine wLoop_post 4 (fun fr L H'=>∃l' i j,(fr 0=.sl b 0 l0.length 1∧fr 1=.int .i64 a∧fr 4=.func (.func g) fs cs∧fr 11=.int .i64 (i:Nat)∧fr 12=.int .i64 (j:Nat))∧L=[]∧SqS b H0 l0 l' H'∧PermR a e l l'∧PeI cf a e i j l'∧j+1-i≤n∧(i≤j→cf (gE l' a) (gE l' i)<0)∧(i≤j→¬cf (gE l' a) (gE l' j)<0)) ?_ ?_
  · refine wLoop_m (n:=n) (fun m fr L H'=>∃l' i j,(fr 0=.sl b 0 l0.length 1∧fr 1=.int .i64 a∧fr 4=.func (.func g) fs cs∧fr 11=.int .i64 (i:Nat)∧fr 12=.int .i64 (j:Nat))∧L=[]∧SqS b H0 l0 l' H'∧PermR a e l l'∧PeI cf a e i j l'∧(i≤j→cf (gE l' a) (gE l' i)<0)∧j+1-i≤m∧m≤n) ⟨l',i,j,by simp [f0,f1,f4,f11,f12],rfl,hr,hp,hI,hup,hm,Nat.le_refl _⟩ ?_
    clear f0 f1 f4 f11 f12 hr hp hI hup hm l' i j
    rintro m fr L H' ⟨l',i,j,⟨f0,f1,f4,f11,f12⟩,rfl,hr,hp,hI,hup,hm,hm2⟩
    have hrg:=hI.rng
    have hlen:=hp.len
    by_cases hij:i≤j
    · have hgt:((i:Int)≤(j:Int))=True:=eq_true (by omega)
      have g1:=fun L=>sq_ld hr.row (i:=a) (by omega) (L:=L)
      have g2:=fun L=>sq_ld hr.row (i:=j) (by omega) (L:=L)
      simp (disch:=omega) [f0,f1,f4,f11,f12,hgt,wrap_i64,g1,g2,hst,sq_addr,-viaddrS_in,-vload_ptrO]
      refine hc.at hr (i:=a) (j:=j) (by omega) (by omega) fun H2 x2 hr2 => ?_
      simp
      refine cond_dec (fun hlt => ?_) fun hlt => ?_
      · have e1:(j:Int)-1=((j-1:Nat):Int):=by omega
        simp (disch:=omega) [f0,f1,f4,f11,f12,e1,wrap_i64]
        exact ⟨m-1,by omega,l',i,j-1,by omega,hr2,hp,hI.down hij,fun h=>hup (by omega),by omega,by omega⟩
      · simp [f0,f1,f4,f11,f12]
        exact ⟨l',i,j,by omega,hr2,hp,hI,by omega,hup,fun _=>by omega⟩
    · have hgt:((i:Int)≤(j:Int))=False:=eq_false (by omega)
      simp (disch:=omega) [f0,f1,f4,f11,f12,hgt]
      exact ⟨l',i,j,by omega,hr,hp,hI,by omega,fun h=>absurd h hij,fun h=>absurd h hij⟩
  clear f0 f1 f4 f11 f12 hr hp hI hup hm l' i j
  rintro fr L H' ⟨l',i,j,⟨f0,f1,f4,f11,f12⟩,rfl,hr,hp,hI,hm,hup,hdn⟩
  have hrg:=hI.rng
  have hlen:=hp.len
  by_cases hij:i≤j
  · have hgt:((j:Int)<(i:Int))=False:=eq_false (by omega)
    have hi0:=hup hij
    have hj0:=hdn hij
    have g1:=fun L=>sq_ld hr.row (i:=i) (by omega) (L:=L)
    have g2:=fun L=>sq_ld hr.row (i:=j) (by omega) (L:=L)
    have w1:=fun L=>sq_w1 hr hlim (i:=i) (by omega) (L:=L) (gE l' j)
    have w2:=fun L=>sq_w2 hr hlim (i:=i) (j:=j) (by omega) (L:=L)
    have hr4:=hr.swap (i:=i) (j:=j) (by omega) (by omega)
    have hps:=hp.trans (swp_perm (l:=l') (i:=i) (j:=j) (a:=a) (b:=e) ⟨by omega,by omega⟩ ⟨by omega,by omega⟩ (by omega))
    have hI2:=hI.swap ho hij (by omega) hi0 hj0
    have hrg2:=hI2.rng
    have e1:(j:Int)-1=((j-1:Nat):Int):=by omega
    simp (disch:=omega) [f0,f1,f4,f11,f12,hgt,e1,wrap_i64,g1,g2,w1,w2,hst,sq_addr,-viaddrS_in,-vstore,-vload_ptrO]
    exact ⟨n-1,by omega,_,i+1,j-1,by omega,hr4,hps,hI2,by omega,by omega⟩
  · have hgt:((j:Int)<(i:Int))=True:=eq_true (by omega)
    simp [f0,f1,f4,f11,f12,hgt]
    exact hK _ _ i hr hp (by omega) (hI.done ho)
end
end Go.Proofs.YthfimpangfhliaaGreatDoor.Vm
namespace Go.Proofs.YthfimpangfhliaaGreatDoor.Vm
open Go
set_option maxRecDepth 100000
set_option maxHeartbeats 1000000
set_option linter.unusedSimpArgs false
set_option linter.unusedVariables false
attribute [-simp] List.getD_eq_getElem?_getD
section
variable {lim:Nat}{H H0:Hp}{K:V→Hp→Prop}{b g:Nat}{l l0:List EQ}{cf:EQ→EQ→Int}{fs cs:List V}
theorem sq_pis (hs:SqS b H0 l0 l H) (hlim:lim≤b) (hst:allStor fs=true∧allStor cs=true∧g≠3999999) (hc:CmpQ b g fs cs H0 l0 cf) (ho:Ordr cf) {a e:Nat} (hae:a<e∧e≤l0.length) (hl:l0.length≤100000) (hg:GdR cf a e l)
    (hK:∀H' l' ok,SqS b H0 l0 l' H'→PermR a e l l'→(ok=true→SortR cf a e l')→K (.bool ok) H'):VCall tbl lim 58 [.sl b 0 l0.length 1,.int .i64 a,.int .i64 e,.func (.func g) fs cs] H K:=by
  refine VCall_fn tbl_at58 rfl ?_
  have hn:=hs.n
  simp (disch:=omega) [vf58,wrap_i64]
  refine wLoop_up 5 (fun c fr L H'=>∃l' i,(fr 0=.sl b 0 l0.length 1∧fr 1=.int .i64 a∧fr 2=.int .i64 e∧fr 3=.func (.func g) fs cs∧fr 9=.int .i64 (i:Nat)∧fr 10=.int .i64 (c:Nat))∧L=[]∧SqS b H0 l0 l' H'∧PermR a e l l'∧(a+1≤i∧i≤e)∧SortR cf a i l') ⟨l,a+1,by simp,rfl,hs,PermR.refl,by omega,SortR.one (by omega)⟩ ?_
  rintro c hc5 fr L H' ⟨l',i,⟨f0,f1,f2,f3,f9,f10⟩,rfl,hr,hp,hi,hso⟩
  simp [f0,f1,f2,f3,f9,f10]
  refine cond_dec (fun ht => ?_) fun ht => ?_
  case refine_2 =>
    simp
    exact hK _ _ false hr hp (fun h=>by cases h)
  simp [f0,f1,f2,f3,f9,f10]
  refine wLoop_post 2 (fun fr L H'=>∃l' i,(fr 0=.sl b 0 l0.length 1∧fr 1=.int .i64 a∧fr 2=.int .i64 e∧fr 3=.func (.func g) fs cs∧fr 9=.int .i64 (i:Nat)∧fr 10=.int .i64 (c:Nat))∧L=[]∧SqS b H0 l0 l' H'∧PermR a e l l'∧(a+1≤i∧i≤e)∧SortR cf a i l'∧(i<e→cf (gE l' i) (gE l' (i-1))<0)) ?_ ?_
  · refine wLoop_m (n:=e-i) (fun m fr L H'=>∃l' i,(fr 0=.sl b 0 l0.length 1∧fr 1=.int .i64 a∧fr 2=.int .i64 e∧fr 3=.func (.func g) fs cs∧fr 9=.int .i64 (i:Nat)∧fr 10=.int .i64 (c:Nat))∧L=[]∧SqS b H0 l0 l' H'∧PermR a e l l'∧(a+1≤i∧i≤e)∧SortR cf a i l'∧m=e-i) ⟨l',i,by simp [f0,f1,f2,f3,f9,f10],rfl,hr,hp,hi,hso,rfl⟩ ?_
    clear f0 f1 f2 f3 f9 f10 hr hp hi hso l' i
    rintro m fr L H' ⟨l',i,⟨f0,f1,f2,f3,f9,f10⟩,rfl,hr,hp,hi,hso,hm⟩
    have hlen:=hp.len
    by_cases hie:i<e
    · have hgt:((i:Int)<(e:Int))=True:=eq_true (by omega)
      have e1:((i:Int)-1).toNat=i-1:=by omega
      have g1:=fun L=>sq_ld hr.row (i:=i) (by omega) (L:=L)
      have g2:=fun L=>sq_ld hr.row (i:=i-1) (by omega) (L:=L)
      simp (disch:=omega) [f0,f1,f2,f3,f9,f10,hgt,e1,wrap_i64,g1,g2,hst,sq_addr,-viaddrS_in,-vload_ptrO]
      refine hc.at hr (i:=i) (j:=i-1) (by omega) (by omega) fun H2 x2 hr2 => ?_
      simp
      refine cond_ndec (fun hlt => ?_) fun hlt => ?_
      · simp (disch:=omega) [f0,f1,f2,f3,f9,f10,wrap_i64]
        exact ⟨m-1,by omega,l',i+1,by omega,hr2,hp,by omega,hso.next ho (by omega) hlt,by omega⟩
      · simp [f0,f1,f2,f3,f9,f10]
        exact ⟨l',i,by omega,hr2,hp,by omega,hso,fun _=>hlt⟩
    · have hgt:((i:Int)<(e:Int))=False:=eq_false (by omega)
      simp (disch:=omega) [f0,f1,f2,f3,f9,f10,hgt]
      exact ⟨l',i,by omega,hr,hp,by omega,hso,fun h=>absurd h hie⟩
  clear f0 f1 f2 f3 f9 f10 hr hp hi hso l' i
  rintro fr L H' ⟨l',i,⟨f0,f1,f2,f3,f9,f10⟩,rfl,hr,hp,hi,hso,hlt⟩
  have hlen:=hp.len
  simp [f0,f1,f2,f3,f9,f10]
  by_cases hie:i=e
  · subst hie
    simp
    exact hK _ _ true hr hp fun _=>hso
  have hie2:((i:Int)=(e:Int))=False:=eq_false (by omega)
  replace hlt:=hlt (by omega)
  simp (disch:=omega) [hie,hie2,f0,f1,f2,f3,f9,f10,wrap_i64]
  refine cond_dec (fun h50 => ?_) fun h50 => ?_
  · simp
    exact hK _ _ false hr hp (fun h=>by cases h)
  have e1:((i:Int)-1).toNat=i-1:=by omega
  have g1:=fun L=>sq_ld hr.row (i:=i) (by omega) (L:=L)
  have g2:=fun L=>sq_ld hr.row (i:=i-1) (by omega) (L:=L)
  have w1:=fun L=>sq_w1 hr hlim (i:=i) (by omega) (L:=L) (gE l' (i-1))
  have w2:=fun L=>sq_w2 hr hlim (i:=i) (j:=i-1) (by omega) (L:=L)
  have hr4:=hr.swap (i:=i) (j:=i-1) (by omega) (by omega)
  have hps:=hp.trans (swp_perm (l:=l') (i:=i) (j:=i-1) (a:=a) (b:=e) ⟨by omega,by omega⟩ ⟨by omega,by omega⟩ (by omega))
  have hso1:SortR cf a (i-1) (swp l' i (i-1)):=SortR.keep (fun p q h1 h2 h3=>hso p q h1 h2 (by omega)) fun k hk=>by rw [swp_get (by omega) (by omega),if_neg (by omega),if_neg (by omega)]
  simp (disch:=omega) [f0,f1,f2,f3,f9,f10,e1,wrap_i64,g1,g2,w1,w2,hst,sq_addr,-viaddrS_in,-vstore,-vload_ptrO]
  generalize swp l' i (i-1)=l1 at *
  generalize H'.set b (rowB l1)=H1 at *
  clear g1 g2 w1 w2 hr hp hso hlt hlen
  refine wCond_join (fun fr L H'=>∃l',(fr 0=.sl b 0 l0.length 1∧fr 1=.int .i64 a∧fr 2=.int .i64 e∧fr 3=.func (.func g) fs cs∧fr 9=.int .i64 (i:Nat)∧fr 10=.int .i64 (c:Nat))∧L=[]∧SqS b H0 l0 l' H'∧PermR a e l l'∧SortR cf a i l') (fun h2 => ?_) (fun h2 => ?_) ?_
  · simp (disch:=omega) [f0,f1,f2,f3,f9,f10,wrap_i64]
    refine wLoop_m (n:=i-1) (fun m fr L H'=>∃l',(fr 0=.sl b 0 l0.length 1∧fr 1=.int .i64 a∧fr 2=.int .i64 e∧fr 3=.func (.func g) fs cs∧fr 9=.int .i64 (i:Nat)∧fr 10=.int .i64 (c:Nat)∧fr 11=.int .i64 (m:Nat))∧L=[]∧SqS b H0 l0 l' H'∧PermR a e l l'∧InsR cf a (i-1) m l'∧a≤m∧m≤i-1) ⟨l1,by simp [f0,f1,f2,f3,f9,f10];omega,rfl,hr4,hps,InsR.start hso1,by omega,Nat.le_refl _⟩ ?_
    clear f0 f1 f2 f3 f9 f10
    rintro m fr L H' ⟨l',⟨f0,f1,f2,f3,f9,f10,f11⟩,rfl,hr,hp,hI,ha,hm⟩
    have hlen:=hp.len
    simp [f0,f1,f2,f3,f9,f10,f11]
    refine cond_dec (fun h1 => ?_) fun h1 => ?_
    · have e2:((m:Int)-1).toNat=m-1:=by omega
      have g1:=fun L=>sq_ld hr.row (i:=m) (by omega) (L:=L)
      have g2:=fun L=>sq_ld hr.row (i:=m-1) (by omega) (L:=L)
      simp (disch:=omega) [f0,f1,f2,f3,f9,f10,f11,e2,wrap_i64,g1,g2,hst,sq_addr,-viaddrS_in,-vload_ptrO]
      refine hc.at hr (i:=m) (j:=m-1) (by omega) (by omega) fun H2 x2 hr2 => ?_
      simp
      refine cond_ndec (fun hlt => ?_) fun hlt => ?_
      · have hd:=hI.done ho ha hm (Or.inr hlt)
        rw [show i-1+1=i by omega] at hd
        simp [f0,f1,f2,f3,f9,f10]
        exact ⟨l',hr2,hp,hd⟩
      · have ham:a<m:=by
          apply Classical.byContradiction
          intro hn2
          have:m=a:=by omega
          subst this
          exact hg.perm hp (Nat.le_refl _) (Nat.le_refl _) (by omega) (by omega) m (Nat.le_refl _) (by omega) hlt
        have g1:=fun L=>sq_ld hr2.row (i:=m) (by omega) (L:=L)
        have g2:=fun L=>sq_ld hr2.row (i:=m-1) (by omega) (L:=L)
        have w1:=fun L=>sq_w1 hr2 hlim (i:=m) (by omega) (L:=L) (gE l' (m-1))
        have w2:=fun L=>sq_w2 hr2 hlim (i:=m) (j:=m-1) (by omega) (L:=L)
        have hr5:=hr2.swap (i:=m) (j:=m-1) (by omega) (by omega)
        have hsw:=InsR.swap ho hI (by omega) (by omega) (by omega) hlt
        have hps5:=hp.trans (swp_perm (l:=l') (i:=m) (j:=m-1) (a:=a) (b:=e) ⟨by omega,by omega⟩ ⟨by omega,by omega⟩ (by omega))
        have e3:(m:Int)-1=((m-1:Nat):Int):=by omega
        simp (disch:=omega) [f0,f1,f2,f3,f9,f10,f11,e2,wrap_i64,g1,g2,w1,w2,sq_addr,-viaddrS_in,-vstore,-vload_ptrO]
        exact ⟨m-1,by omega,by omega,swp l' m (m-1),hr5,hps5,hsw,by omega,by omega⟩
    · have hd:=hI.done ho ha hm (Or.inl (by omega))
      rw [show i-1+1=i by omega] at hd
      simp [f0,f1,f2,f3,f9,f10]
      exact ⟨l',hr,hp,hd⟩
  · simp [f0,f1,f2,f3,f9,f10]
    exact ⟨l1,hr4,hps,SortR.one (by simp at h2;omega)⟩
  clear f0 f1 f2 f3 f9 f10 hr4 hps hso1 l1 H1
  rintro fr L H' ⟨l',⟨f0,f1,f2,f3,f9,f10⟩,rfl,hr,hp,hso⟩
  simp (disch:=omega) [f0,f1,f2,f3,f9,f10,wrap_i64]
  refine wCond_join (fun fr L H'=>∃l',(fr 0=.sl b 0 l0.length 1∧fr 1=.int .i64 a∧fr 2=.int .i64 e∧fr 3=.func (.func g) fs cs∧fr 9=.int .i64 (i:Nat)∧fr 10=.int .i64 (c:Nat))∧L=[]∧SqS b H0 l0 l' H'∧PermR a e l l'∧SortR cf a i l') (fun h2 => ?_) (fun h2 => ?_) ?_
  · simp (disch:=omega) [f0,f1,f2,f3,f9,f10,wrap_i64]
    refine wLoop_up (e-(i+1)) (fun m fr L H'=>∃l',(fr 0=.sl b 0 l0.length 1∧fr 1=.int .i64 a∧fr 2=.int .i64 e∧fr 3=.func (.func g) fs cs∧fr 9=.int .i64 (i:Nat)∧fr 10=.int .i64 (c:Nat)∧fr 12=.int .i64 ((i+1+m:Nat):Int))∧L=[]∧SqS b H0 l0 l' H'∧PermR a e l l'∧SortR cf a i l') ⟨l',by simp [f0,f1,f2,f3,f9,f10],rfl,hr,hp,hso⟩ ?_
    clear f0 f1 f2 f3 f9 f10 hr hp hso l'
    rintro m hm fr L H' ⟨l',⟨f0,f1,f2,f3,f9,f10,f12⟩,rfl,hr,hp,hso⟩
    have hlen:=hp.len
    simp [f0,f1,f2,f3,f9,f10,f12]
    refine cond_dec (fun h1 => ?_) fun h1 => ?_
    · have e2:((i:Int)+1+(m:Int)).toNat=i+1+m:=by omega
      have e3:((i:Int)+1+(m:Int)-1).toNat=i+m:=by omega
      have g1:=fun L=>sq_ld hr.row (i:=i+1+m) (by omega) (L:=L)
      have g2:=fun L=>sq_ld hr.row (i:=i+m) (by omega) (L:=L)
      simp (disch:=omega) [f0,f1,f2,f3,f9,f10,f12,e2,e3,wrap_i64,g1,g2,hst,sq_addr,-viaddrS_in,-vload_ptrO]
      refine hc.at hr (i:=i+1+m) (j:=i+m) (by omega) (by omega) fun H2 x2 hr2 => ?_
      simp
      refine cond_ndec (fun hlt => ?_) fun hlt => ?_
      · simp [f0,f1,f2,f3,f9,f10]
        exact ⟨l',hr2,hp,hso⟩
      · have g1:=fun L=>sq_ld hr2.row (i:=i+1+m) (by omega) (L:=L)
        have g2:=fun L=>sq_ld hr2.row (i:=i+m) (by omega) (L:=L)
        have w1:=fun L=>sq_w1 hr2 hlim (i:=i+1+m) (by omega) (L:=L) (gE l' (i+m))
        have w2:=fun L=>sq_w2 hr2 hlim (i:=i+1+m) (j:=i+m) (by omega) (L:=L)
        have hr5:=hr2.swap (i:=i+1+m) (j:=i+m) (by omega) (by omega)
        have hps5:=hp.trans (swp_perm (l:=l') (i:=i+1+m) (j:=i+m) (a:=a) (b:=e) ⟨by omega,by omega⟩ ⟨by omega,by omega⟩ (by omega))
        have hso5:SortR cf a i (swp l' (i+1+m) (i+m)):=hso.keep fun k hk=>by rw [swp_get (by omega) (by omega),if_neg (by omega),if_neg (by omega)]
        simp (disch:=omega) [f0,f1,f2,f3,f9,f10,f12,e2,e3,wrap_i64,g1,g2,w1,w2,sq_addr,-viaddrS_in,-vstore,-vload_ptrO]
        exact ⟨by omega,by omega,_,hr5,hps5,hso5⟩
    · simp [f0,f1,f2,f3,f9,f10]
      exact ⟨l',hr,hp,hso⟩
  · simp [f0,f1,f2,f3,f9,f10]
    exact ⟨l',hr,hp,hso⟩
  clear f0 f1 f2 f3 f9 f10 hr hp hso l'
  rintro fr L H' ⟨l',⟨f0,f1,f2,f3,f9,f10⟩,rfl,hr,hp,hso⟩
  simp (disch:=omega) [f0,f1,f2,f3,f9,f10,wrap_i64]
  exact ⟨by omega,l',i,by omega,hr,hp,by omega,hso⟩
def powChk (r:Option (V×Hp))(x:Nat):Bool:=match r with
  | some (.int .u64 m,[])=>decide (0≤m∧(x:Int)<m∧m≤2*(x:Int))||decide (x=0)
  | _=>false
def lenChk (r:Option (V×Hp)):Bool:=match r with
  | some (.int .i64 m,[])=>decide (0≤m∧m≤100)
  | _=>false
theorem pow_all:(List.range 256).all (fun x=>powChk (evFn (cloT tbl) 60 0 73 [.int .i64 x] []) x)=true:=by kernel_rfl
theorem len_all:(List.range 256).all (fun x=>lenChk (evFn (cloT tbl) 60 0 45 [.int .u64 x] []))=true:=by kernel_rfl
theorem sq_pow {x:Nat}(hx:0<x∧x<256)(hlim:lim≤H.length)(hK:∀m:Nat,x<m→m≤2*x→K (.int .u64 m) H):VCall tbl lim 73 [.int .i64 x] H K:=by
  have h:=List.all_eq_true.1 pow_all x (List.mem_range.2 hx.2)
  cases hr:evFn (cloT tbl) 60 0 73 [.int .i64 x] [] with
  | none=>rw [hr] at h;cases h
  | some r =>
    obtain ⟨v,H1⟩:=r
    rw [hr] at h
    unfold powChk at h
    split at h
    · rename_i m he
      cases he
      have:=evFn_sh (G:=H) tbl ShT.clo 60 0 lim _ _ [] _ _ (by omega) hr
      have e:shH H []=H:=by simp [shH]
      rw [e] at this
      simp at h
      refine ⟨60,.int .u64 m,H,by simpa [shs,sh] using this,?_⟩
      have e2:m=((m.toNat:Nat):Int):=by omega
      rw [e2]
      exact hK _ (by omega) (by omega)
    · cases h
theorem sq_bits {x:Nat}(hx:x<256)(hlim:lim≤H.length)(hK:∀m:Nat,m≤100→K (.int .i64 m) H):VCall tbl lim 45 [.int .u64 x] H K:=by
  have h:=List.all_eq_true.1 len_all x (List.mem_range.2 hx)
  cases hr:evFn (cloT tbl) 60 0 45 [.int .u64 x] [] with
  | none=>rw [hr] at h;cases h
  | some r =>
    obtain ⟨v,H1⟩:=r
    rw [hr] at h
    unfold lenChk at h
    split at h
    · rename_i m he
      cases he
      have:=evFn_sh (G:=H) tbl ShT.clo 60 0 lim _ _ [] _ _ (by omega) hr
      have e:shH H []=H:=by simp [shH]
      rw [e] at this
      simp at h
      refine ⟨60,.int .i64 m,H,by simpa [shs,sh] using this,?_⟩
      have e2:m=((m.toNat:Nat):Int):=by omega
      rw [e2]
      exact hK _ (by omega)
    · cases h
theorem shl_u {a:Int}:vbin .shl (.int .u64 a) (.int .u64 13)=some (.int .u64 (IntKind.wrap .u64 (a*2 ^ 13))):=Eq.trans rfl rfl
theorem shl_u2 {a:Int}:vbin .shl (.int .u64 a) (.int .u64 17)=some (.int .u64 (IntKind.wrap .u64 (a*2 ^ 17))):=Eq.trans rfl rfl
theorem shr_u {a:Int}:vbin .shr (.int .u64 a) (.int .u64 7)=some (.int .u64 (a.fdiv (2 ^ 7))):=Eq.trans rfl rfl
theorem su_ld {s:Nat}{w:Int}(h:H[s]? = some (.row [.int .u64 w] true)){L:Lo}:vload none L H (.ptr s 0)=some (.int .u64 w):=by
  rw [vload_ptr h];rfl
theorem su_st {s:Nat}{r:Blk}{z w:Int}(h:H[s]? = some (.row [.int .u64 w] true))(hl:lim≤s){L:Lo}:vstore lim L H (.ptr s 0) (.int .u64 z) 1=some (L,H.set s (.row [.int .u64 z] true)):=by
  simp [vstore,vstoreH,h,hl,splice]
theorem sq_next {s:Nat}{w:Int}(h:H[s]? = some (.row [.int .u64 w] true))(hl:lim≤s)(hK:∀z,K (.int .u64 z) (H.set s (.row [.int .u64 z] true))):VCall tbl lim 74 [.ptr s 0] H K:=by
  refine VCall_fn tbl_at74 rfl ?_
  have hb:=(List.getElem?_eq_some_iff.1 h).1
  have ld:=fun L=>su_ld h (L:=L)
  have st:=fun L z=>su_st (lim:=lim) (r:=.row [] true) h hl (L:=L) (z:=z)
  have row:∀z,(H.set s (.row [.int .u64 z] true))[s]? = some (.row [.int .u64 z] true):=fun z=>by simp [hb]
  have ld2:=fun z L=>su_ld (row z) (L:=L)
  have st2:∀y z L,vstore lim L (H.set s (.row [.int .u64 y] true)) (.ptr s 0) (.int .u64 z) 1=some (L,H.set s (.row [.int .u64 z] true)):=fun y z L=>by
    rw [su_st (r:=.row [] true) (row y) hl,List.set_set]
  simp [vf74,ld,st,ld2,st2,shl_u,shl_u2,shr_u,vbin_xor,-vstore,-vload_ptrO]
  exact hK _
end
end Go.Proofs.YthfimpangfhliaaGreatDoor.Vm
namespace Go.Proofs.YthfimpangfhliaaGreatDoor.Vm
open Go
set_option maxRecDepth 100000
set_option maxHeartbeats 1000000
set_option linter.unusedSimpArgs false
set_option linter.unusedVariables false
attribute [-simp] List.getD_eq_getElem?_getD
theorem and_lt {x:Int}{m:Nat}(hm:0<m∧m<1000):∃o:Nat,o<m∧vbin .and (.int .u64 x) (.int .u64 ((m:Int)-1))=some (.int .u64 o):=by
  have h2:(BitVec.ofInt 64 ((m:Int)-1)).toNat=m-1:=by
    rw [BitVec.toNat_ofInt];omega
  have h1:(BitVec.ofInt 64 x &&& BitVec.ofInt 64 ((m:Int)-1)).toNat≤m-1:=by
    rw [BitVec.toNat_and,h2];exact Nat.and_le_right
  refine ⟨(BitVec.ofInt 64 x &&& BitVec.ofInt 64 ((m:Int)-1)).toNat,by omega,?_⟩
  rw [vbin_and]
  have:IntKind.wrap .u64 (((BitVec.ofInt (IntKind.bits .u64) x &&& BitVec.ofInt (IntKind.bits .u64) ((m:Int)-1)).toNat:Nat):Int)=((BitVec.ofInt 64 x &&& BitVec.ofInt 64 ((m:Int)-1)).toNat:Nat):=by
    show IntKind.wrap .u64 (((BitVec.ofInt 64 x &&& BitVec.ofInt 64 ((m:Int)-1)).toNat:Nat):Int)=_
    generalize (BitVec.ofInt 64 x &&& BitVec.ofInt 64 ((m:Int)-1)).toNat=o at *
    simp [IntKind.wrap,IntKind.bits,IntKind.signed];omega
  rw [this]
theorem wrap_u64 {n:Int}(h:0≤n∧n<1000000):IntKind.wrap .u64 n=n:=by
  simp [IntKind.wrap,IntKind.bits,IntKind.signed];omega
section
variable {lim:Nat}{H H0:Hp}{K:V→Hp→Prop}{b g:Nat}{l l0:List EQ}{cf:EQ→EQ→Int}{fs cs:List V}
theorem sq_break (hs:SqS b H0 l0 l H)(hlim:lim≤b){a e:Nat}{f:V}(hf:stor f=true)(hae:a+8≤e∧e≤l0.length)(hl:l0.length<256)
    (hK:∀H' l',SqS b H0 l0 l' H'→PermR a e l l'→K (.tup []) H'):VCall tbl lim 55 [.sl b 0 l0.length 1,.int .i64 a,.int .i64 e,f] H K:=by
  refine VCall_fn tbl_at55 rfl ?_
  have hn:=hs.n
  have hb:=hs.blt
  have hle:=hs.len
  obtain ⟨d,rfl⟩:∃d,e=a+d:=⟨e-a,by omega⟩
  have e0:(a:Int)+(d:Int)-(a:Int)=(d:Int):=by omega
  have e8:((8:Int)≤(d:Int))=True:=eq_true (by omega)
  have eq4:(d:Int).tdiv 4=((d / 4:Nat):Int):=tdiv_nat _ 4
  have hd4:2*(d / 4)≤d / 2∧2≤d / 4∧4*(d / 4)≤d:=by omega
  have wu:∀k:Nat,k<256→IntKind.wrap .u64 (k:Int)=k:=fun k hk=>wrap_u64 (by omega)
  have stn:∀L,vstore lim L (H++[Blk.row [V.int .u64 0] true]) (.ptr H.length 0) (.int .u64 d) 1=some (L,H++[Blk.row [V.int .u64 d] true]):=fun L=>by
    rw [su_st (r:=.row [] true) (w:=0) (by simp) (by omega)];simp
  simp (disch:=omega) [vf55,wrap_i64,e0,e8,eq4,wu,stn,-vstore]
  have row1:(H++[Blk.row [V.int .u64 d] true])[H.length]? = some (.row [.int .u64 d] true):=by simp
  have hs1:SqS b H0 l0 l (H++[Blk.row [V.int .u64 d] true]):=hs.grow HX.push
  have hl1:H.length<(H++[Blk.row [V.int .u64 d] true]).length:=by simp
  generalize H++[Blk.row [V.int .u64 d] true]=H1 at *
  refine sq_pow (x:=d) (by omega) (by omega) fun m hm1 hm2 => ?_
  simp (disch:=omega) [wrap_i64,e0,e8,eq4]
  refine wLoop_up 3 (fun i fr L H'=>∃l' w,(fr 0=.sl b 0 l0.length 1∧fr 1=.int .i64 a∧fr 8=.int .i64 d∧fr 9=.ptr H.length 0∧fr 10=.int .u64 m∧fr 11=.int .i64 ((a+(d / 4*2-1)+i:Nat):Int))∧L=[]∧SqS b H0 l0 l' H'∧H'[H.length]? = some (.row [.int .u64 w] true)∧PermR a (a+d) l l') ⟨l,d,by simp;omega,rfl,hs1,row1,PermR.refl⟩ ?_
  rintro i hi fr L H' ⟨l',w,⟨f0,f1,f8,f9,f10,f11⟩,rfl,hr,hw,hp⟩
  have hlen:=hp.len
  simp (disch:=omega) [f0,f1,f8,f9,f10,f11,eq4,wrap_i64]
  refine cond_dec (fun ht => ?_) fun ht => ?_
  · have hi2:i<3:=by omega
    simp [f0,f1,f8,f9,f10,f11]
    refine sq_next hw (by omega) fun z => ?_
    have hr2:=hr.aside (s:=H.length) (r:=.row [.int .u64 z] true) hle
    have hw2:(H'.set H.length (.row [.int .u64 z] true))[H.length]? = some (.row [.int .u64 z] true):=by
      rw [List.getElem?_set_self (List.getElem?_eq_some_iff.1 hw).1]
    generalize H'.set H.length (.row [.int .u64 z] true)=H2 at *
    obtain ⟨o,ho,hand⟩:=and_lt (x:=z) (m:=m) (by omega)
    have wm:IntKind.wrap .u64 ((m:Int)-1)=(m:Int)-1:=wrap_u64 (by omega)
    simp (disch:=omega) [f0,f1,f8,f9,f10,f11,wm,hand,wrap_i64]
    refine wCond_join (fun fr L H'=>∃o:Nat,(fr 0=.sl b 0 l0.length 1∧fr 1=.int .i64 a∧fr 8=.int .i64 d∧fr 9=.ptr H.length 0∧fr 10=.int .u64 m∧fr 11=.int .i64 ((a+(d / 4*2-1)+i:Nat):Int)∧fr 12=.int .i64 (o:Nat))∧L=[]∧H'=H2∧o<d) (fun h => ?_) (fun h => ?_) ?_
    · simp at h
      simp (disch:=omega) [f0,f1,f8,f9,f10,f11,wrap_i64]
      exact ⟨o-d,by omega,by omega⟩
    · simp at h
      simp [f0,f1,f8,f9,f10,f11]
      exact ⟨o,rfl,by omega⟩
    clear f0 f1 f8 f9 f10 f11
    rintro fr L H3 ⟨q,⟨f0,f1,f8,f9,f10,f11,f12⟩,rfl,rfl,hq⟩
    have e1:((a:Int)+((d / 4*2-1:Nat):Int)+(i:Int)).toNat=a+(d / 4*2-1)+i:=by omega
    have e2:((a:Int)+(q:Int)).toNat=a+q:=by omega
    have g1:=fun L=>sq_ld hr2.row (i:=a+(d / 4*2-1)+i) (by omega) (L:=L)
    have g2:=fun L=>sq_ld hr2.row (i:=a+q) (by omega) (L:=L)
    have w1:=fun L=>sq_w1 hr2 hlim (i:=a+(d / 4*2-1)+i) (by omega) (L:=L) (gE l' (a+q))
    have w2:=fun L=>sq_w2 hr2 hlim (i:=a+(d / 4*2-1)+i) (j:=a+q) (by omega) (L:=L)
    have hr5:=hr2.swap (i:=a+(d / 4*2-1)+i) (j:=a+q) (by omega) (by omega)
    have hps5:=hp.trans (swp_perm (l:=l') (i:=a+(d / 4*2-1)+i) (j:=a+q) (a:=a) (b:=a+d) ⟨by omega,by omega⟩ ⟨by omega,by omega⟩ (by omega))
    have hw5:(H3.set b (rowB (swp l' (a+(d / 4*2-1)+i) (a+q))))[H.length]? = some (.row [.int .u64 z] true):=by
      rw [List.getElem?_set_ne (by omega)];exact hw2
    simp (disch:=omega) [f0,f1,f8,f9,f10,f11,f12,e1,e2,wrap_i64,g1,g2,w1,w2,sq_addr,-viaddrS_in,-vstore,-vload_ptrO]
    exact ⟨by omega,by omega,_,hr5,⟨z,hw2⟩,hps5⟩
  · simp
    exact hK _ _ hr hp
theorem sq_choose (hs:SqS b H0 l0 l H)(hlim:lim≤b)(hst:allStor fs=true∧allStor cs=true∧g≠3999999)(hc:CmpQ b g fs cs H0 l0 cf){a e:Nat}(hae:a+8≤e∧e≤l0.length)(hl:l0.length≤100000)
    (hK:∀H' (v h:Nat),SqS b H0 l0 l H'→(a≤v∧v<e)→K (.tup [.int .i64 (v:Nat),.int .i64 (h:Nat)]) H'):VCall tbl lim 56 [.sl b 0 l0.length 1,.int .i64 a,.int .i64 e,.func (.func g) fs cs] H K:=by
  refine VCall_fn tbl_at56 rfl ?_
  have hn:=hs.n
  have hb:=hs.blt
  have hle:=hs.len
  obtain ⟨d,rfl⟩:∃d,e=a+d:=⟨e-a,by omega⟩
  have e0:(a:Int)+(d:Int)-(a:Int)=(d:Int):=by omega
  have e8:((8:Int)≤(d:Int))=True:=eq_true (by omega)
  obtain ⟨q,eq4,hd4⟩:∃q:Nat,(d:Int).tdiv 4=(q:Int)∧4*q≤d∧d≤4*q+3:=⟨d / 4,tdiv_nat _ 4,by omega,by omega⟩
  simp (disch:=omega) [vf56,wrap_i64,e0,e8,eq4]
  have row1:(H++[Blk.row [V.int .i64 0] true])[H.length]? = some (.row [.int .i64 0] true):=by simp
  have hs1:SqS b H0 l0 l (H++[Blk.row [V.int .i64 0] true]):=hs.grow HX.push
  generalize H++[Blk.row [V.int .i64 0] true]=H1 at *
  generalize H.length=sw at *
  refine wCond_join (fun fr L H'=>∃i j k w,(fr 0=.sl b 0 l0.length 1∧fr 3=.func (.func g) fs cs∧fr 11=.ptr sw 0∧fr 12=.int .i64 (i:Nat)∧fr 13=.int .i64 (j:Nat)∧fr 14=.int .i64 (k:Nat))∧L=[]∧SqS b H0 l0 l H'∧H'[sw]? = some (.row [.int .i64 w] true)∧(a≤i∧i<a+d)∧(a≤j∧j<a+d)∧a≤k∧k<a+d) (fun h => ?_) (fun h => ?_) ?_
  · simp at h
    have c1:(a:Int)+(q:Int)=((a+q:Nat):Int):=by omega
    have c2:(a:Int)+(q:Int)*2=((a+q*2:Nat):Int):=by omega
    have c3:(a:Int)+(q:Int)*3=((a+q*3:Nat):Int):=by omega
    simp only [c1,c2,c3]
    generalize hi:a+q=i at *
    generalize hj:a+q*2=j at *
    generalize hk:a+q*3=k at *
    simp [hst]
    refine sq_medianAdj hs1 hlim hst hc row1 hle (x:=i) (by omega) hl fun H2 w2 r2 hs2 row2 h2 => ?_
    simp [hst]
    refine sq_medianAdj hs2 hlim hst hc row2 hle (x:=j) (by omega) hl fun H3 w3 r3 hs3 row3 h3 => ?_
    simp [hst]
    refine sq_medianAdj hs3 hlim hst hc row3 hle (x:=k) (by omega) hl fun H4 w4 r4 hs4 row4 h4 => ?_
    simp
    exact ⟨r2,r3,r4,by omega,hs4,⟨w4,row4⟩,by omega,by omega,by omega,by omega⟩
  · simp
    exact ⟨a+q,a+q*2,a+q*3,by omega,hs1,⟨0,row1⟩,by omega,by omega,by omega,by omega⟩
  rintro fr L H2 ⟨i,j,k,w,⟨f0,f3,f11,f12,f13,f14⟩,rfl,hs2,row2,hi,hj,hk⟩
  simp [f0,f3,f11,f12,f13,f14,hst]
  refine sq_median hs2 hlim hst hc row2 hle (x:=i) (y:=j) (z:=k) (by omega) (by omega) (by omega) fun H3 w3 r hs3 row3 h3 => ?_
  have ld:=fun L=>sw_ld row3 (L:=L)
  simp [f0,f3,f11,f12,f13,f14,ld,-vload_ptrO]
  refine cond_dec (fun h => ?_) fun h => ?_
  · simp
    exact hK _ r 1 hs3 (by omega)
  simp
  refine cond_dec (fun h => ?_) fun h => ?_
  · simp
    exact hK _ r 2 hs3 (by omega)
  · simp
    exact hK _ r 0 hs3 (by omega)
theorem sq_pdq (hc:CmpQ b g fs cs H0 l0 cf) (ho:Ordr cf) (hst:allStor fs=true∧allStor cs=true∧g≠3999999) (hlim:lim≤b) (hl:l0.length<256):∀(n:Nat) {H:Hp} {l:List EQ} {a e:Nat} {lm:Nat} {K:V→Hp→Prop},e-a≤n→SqS b H0 l0 l H→(a≤e∧e≤l0.length)→lm≤1000→GdR cf a e l →
    (∀H' l',SqS b H0 l0 l' H'→PermR a e l l'→SortR cf a e l'→K (.tup []) H')→VCall tbl lim 44 [.sl b 0 l0.length 1,.int .i64 a,.int .i64 e,.int .i64 lm,.func (.func g) fs cs] H K:=by
  intro n
  induction n using Nat.strongRecOn with
  | ind n ih =>
  intro H l a e lm K hn hs hae hlm hg hK
  have hb:=hs.blt
  refine VCall_fn tbl_at44 rfl ?_
  have hln:=hs.n
  simp [vf44]
  refine wLoop_m (n:=e-a) (fun m fr L H'=>∃l' a' e' lm wb wp,(fr 0=.sl b 0 l0.length 1∧fr 1=.int .i64 (a':Nat)∧fr 2=.int .i64 (e':Nat)∧fr 3=.int .i64 (lm:Nat)∧fr 4=.func (.func g) fs cs∧fr 10=.bool wb∧fr 11=.bool wp)∧L=[]∧SqS b H0 l0 l' H'∧PermR a e l l'∧OutR cf a e a' e' l'∧GdR cf a' e' l'∧lm≤1000∧m=e'-a'∧m≤e-a) ⟨l,a,e,lm,true,true,by simp,rfl,hs,PermR.refl,OutR.start hae.1,hg,hlm,rfl,Nat.le_refl _⟩ ?_
  clear hs hg hlm
  rintro m fr L H1 ⟨l1,x,y,lm1,wb,wp,⟨f0,f1,f2,f3,f4,f10,f11⟩,rfl,hs,hp,hO,hg,hlm,hm,hm2⟩
  have hlen:=hp.len
  have hrg:=hO.rng
  have e0:(y:Int)-(x:Int)=((y-x:Nat):Int):=by omega
  simp (disch:=omega) [f0,f1,f2,f3,f4,f10,f11,wrap_i64,hst]
  refine cond_dec (fun h12 => ?_) fun h12 => ?_
  · simp [f0,f1,f2,f3,f4,f10,f11,hst]
    refine sq_isort hs hlim hst hc ho (a:=x) (e:=y) (by omega) (by omega) fun H2 l2 hs2 hp2 hso2 => ?_
    simp
    exact hK _ _ hs2 (hp.trans (hp2.wide hrg.1 hrg.2.2)) ((hO.perm hp2 (by omega)).sort hso2)
  simp [f0,f1,f2,f3,f4,f10,f11,hst]
  by_cases hz:lm1=0
  · subst hz
    simp [f0,f1,f2,f3,f4,f10,f11,hst]
    refine sq_heap hs hlim hst hc ho (a:=x) (e:=y) (by omega) (by omega) fun H2 l2 hs2 hp2 hso2 => ?_
    simp
    exact hK _ _ hs2 (hp.trans (hp2.wide hrg.1 hrg.2.2)) ((hO.perm hp2 (by omega)).sort hso2)
  simp [f0,f1,f2,f3,f4,f10,f11,hst,hz]
  refine wCond_join (fun fr L H'=>∃l' lm,(fr 0=.sl b 0 l0.length 1∧fr 1=.int .i64 x∧fr 2=.int .i64 y∧fr 3=.int .i64 (lm:Nat)∧fr 4=.func (.func g) fs cs∧fr 10=.bool wb∧fr 11=.bool wp∧fr 12=.int .i64 ((y:Int)-(x:Int)))∧L=[]∧SqS b H0 l0 l' H'∧PermR a e l l'∧OutR cf a e x y l'∧GdR cf x y l'∧lm≤1000) (fun h => ?_) (fun h => ?_) ?_
  · simp [f0,f1,f2,f3,f4,f10,f11,hst]
    refine sq_break hs hlim (a:=x) (e:=y) (by simp [stor,hst]) (by omega) (by omega) fun H2 l2 hs2 hp2 => ?_
    have e1:(lm1:Int)-1=((lm1-1:Nat):Int):=by omega
    simp (disch:=omega) [f0,f1,f2,f3,f4,f10,f11,wrap_i64,e1]
    exact ⟨l2,lm1-1,by omega,hs2,hp.trans (hp2.wide hrg.1 hrg.2.2),hO.perm hp2 (by omega),hg.perm hp2 (Nat.le_refl _) (Nat.le_refl _) (by omega),by omega⟩
  · simp [f0,f1,f2,f3,f4,f10,f11]
    exact ⟨l1,lm1,by omega,hs,hp,hO,hg,by omega⟩
  clear f0 f1 f2 f3 f4 f10 f11 hs hp hO hg hlen hlm hz
  rintro fr L H2 ⟨l2,lm2,⟨f0,f1,f2,f3,f4,f10,f11,f12⟩,rfl,hs,hp,hO,hg,hlm⟩
  have hlen:=hp.len
  simp [f0,f1,f2,f3,f4,f10,f11,f12,hst]
  refine sq_choose hs hlim hst hc (a:=x) (e:=y) (by omega) (by omega) fun H3 v hint hs3 hv => ?_
  simp [f0,f1,f2,f3,f4,f10,f11,f12,hst]
  refine wCond_join (fun fr L H'=>∃l' v hint,(fr 0=.sl b 0 l0.length 1∧fr 1=.int .i64 x∧fr 2=.int .i64 y∧fr 3=.int .i64 (lm2:Nat)∧fr 4=.func (.func g) fs cs∧fr 10=.bool wb∧fr 11=.bool wp∧fr 12=.int .i64 ((y:Int)-(x:Int))∧fr 13=.int .i64 (v:Nat)∧fr 14=.int .i64 (hint:Nat))∧L=[]∧SqS b H0 l0 l' H'∧PermR a e l l'∧OutR cf a e x y l'∧GdR cf x y l'∧x≤v∧v<y) (fun h => ?_) (fun h => ?_) ?_
  · simp [f0,f1,f2,f3,f4,f10,f11,hst]
    refine sq_reverse hs3 hlim (a:=x) (e:=y) (by omega) (by omega) fun H4 l4 hs4 hp4 => ?_
    simp (disch:=omega) [f0,f1,f2,f3,f4,f10,f11,f12,wrap_i64]
    exact ⟨l4,(y-1)-(v-x),⟨by omega,1,rfl⟩,hs4,hp.trans (hp4.wide hrg.1 hrg.2.2),hO.perm hp4 (by omega),hg.perm hp4 (Nat.le_refl _) (Nat.le_refl _) (by omega),by omega,by omega⟩
  · simp [f0,f1,f2,f3,f4,f10,f11,f12]
    exact ⟨l2,v,⟨rfl,hint,rfl⟩,hs3,hp,hO,hg,by omega,by omega⟩
  clear f0 f1 f2 f3 f4 f10 f11 f12 hs hs3 hp hO hg hlen hv
  rintro fr L H4 ⟨l4,v,hint,⟨f0,f1,f2,f3,f4,f10,f11,f12,f13,f14⟩,rfl,hs,hp,hO,hg,hv⟩
  have hlen:=hp.len
  rw [seqQ_normal]
  refine wSeq_join (fun fr L H'=>∃l' wb wp,(fr 0=.sl b 0 l0.length 1∧fr 1=.int .i64 x∧fr 2=.int .i64 y∧fr 3=.int .i64 (lm2:Nat)∧fr 4=.func (.func g) fs cs∧fr 12=.int .i64 ((y:Int)-(x:Int))∧fr 13=.int .i64 (v:Nat)∧fr 10=.bool wb∧fr 11=.bool wp)∧L=[]∧SqS b H0 l0 l' H'∧PermR a e l l'∧OutR cf a e x y l'∧GdR cf x y l') ?_ ?_
  · have pis:∀(fr:Fr),fr 0=.sl b 0 l0.length 1→True:=fun _ _=>trivial
    by_cases hh:wb=true∧wp=true∧hint=1
    · obtain ⟨rfl,rfl,rfl⟩:=hh
      simp [f0,f1,f2,f3,f4,f10,f11,f12,f13,f14,hst]
      refine sq_pis hs hlim hst hc ho (a:=x) (e:=y) (by omega) (by omega) hg fun H5 l5 ok hs5 hp5 hso5 => ?_
      cases ok with
      | true =>
        simp
        exact hK _ _ hs5 (hp.trans (hp5.wide hrg.1 hrg.2.2)) ((hO.perm hp5 (by omega)).sort (hso5 rfl))
      | false =>
        simp [f0,f1,f2,f3,f4,f10,f11,f12,f13,f14]
        exact ⟨l5,hs5,hp.trans (hp5.wide hrg.1 hrg.2.2),hO.perm hp5 (by omega),hg.perm hp5 (Nat.le_refl _) (Nat.le_refl _) (by omega)⟩
    · have fin:∃l',SqS b H0 l0 l' H4∧PermR a e l l'∧OutR cf a e x y l'∧GdR cf x y l':=⟨l4,hs,hp,hO,hg⟩
      cases wb with
      | false =>
        simp [f0,f1,f2,f3,f4,f10,f11,f12,f13,f14]
        exact fin
      | true =>
        cases wp with
        | false =>
          simp [f0,f1,f2,f3,f4,f10,f11,f12,f13,f14]
          exact fin
        | true =>
          have h1:((hint:Int)=1)=False:=eq_false (by simp at hh;omega)
          simp [f0,f1,f2,f3,f4,f10,f11,f12,f13,f14,h1]
          exact fin
  clear f0 f1 f2 f3 f4 f10 f11 f12 f13 f14 hs hp hO hg hlen
  rintro fr L H5 ⟨l5,wb,wp,⟨f0,f1,f2,f3,f4,f12,f13,f10,f11⟩,rfl,hs,hp,hO,hg⟩
  have hlen:=hp.len
  refine wSeq_join (fun fr L H'=>∃l' wb wp,(fr 0=.sl b 0 l0.length 1∧fr 1=.int .i64 x∧fr 2=.int .i64 y∧fr 3=.int .i64 (lm2:Nat)∧fr 4=.func (.func g) fs cs∧fr 12=.int .i64 ((y:Int)-(x:Int))∧fr 13=.int .i64 (v:Nat)∧fr 10=.bool wb∧fr 11=.bool wp)∧L=[]∧SqS b H0 l0 l' H'∧PermR a e l l'∧OutR cf a e x y l'∧GdR cf x y l') ?_ ?_
  · by_cases hx0:x=0
    · have h0:(0<x)=False:=eq_false (by omega)
      simp [f0,f1,f2,f3,f4,f10,f11,f12,f13,h0]
      exact ⟨l5,hs,hp,hO,hg⟩
    · have h0:(0<x)=True:=eq_true (by omega)
      have e1:((x:Int)-1).toNat=x-1:=by omega
      have g1:=fun L=>sq_ld hs.row (i:=x-1) (by omega) (L:=L)
      have g2:=fun L=>sq_ld hs.row (i:=v) (by omega) (L:=L)
      simp (disch:=omega) [f0,f1,f2,f3,f4,f10,f11,f12,f13,h0,e1,wrap_i64,g1,g2,hst,sq_addr,-viaddrS_in,-vload_ptrO]
      refine hc.at hs (i:=x-1) (j:=v) (by omega) (by omega) fun H6 x6 hs6 => ?_
      simp
      refine cond_ndec (fun hlt => ?_) fun hlt => ?_
      · simp [f0,f1,f2,f3,f4,f10,f11,f12,f13,hst]
        refine sq_partEq hs6 hlim hst hc ho (a:=x) (e:=y) (v:=v) (by omega) (by omega) (hg.least ho (by omega) hlt) fun H7 l7 q hs7 hp7 hq heq => ?_
        have hO7:=(hO.perm hp7 (by omega)).equal (m:=q) (by omega) heq
        simp [f0,f1,f2,f3,f4,f10,f11,f12,f13]
        exact ⟨y-q,by omega,l7,q,y,lm2,by omega,hs7,hp.trans (hp7.wide hrg.1 hrg.2.2),hO7,hO7.guard (by omega),by omega,rfl,by omega⟩
      · simp [f0,f1,f2,f3,f4,f10,f11,f12,f13]
        exact ⟨l5,hs6,hp,hO,hg⟩
  clear f0 f1 f2 f3 f4 f10 f11 f12 f13 hs hp hO hg hlen
  rintro fr L H6 ⟨l6,wb,wp,⟨f0,f1,f2,f3,f4,f12,f13,f10,f11⟩,rfl,hs,hp,hO,hg⟩
  have hlen:=hp.len
  simp [f0,f1,f2,f3,f4,f10,f11,f12,f13,hst]
  refine sq_part hs hlim hst hc ho (a:=x) (e:=y) (v:=v) (by omega) (by omega) fun H7 l7 q ok hs7 hp7 hq => ?_
  have hqr:=hq.rng
  have hO7:=hO.perm hp7 (by omega)
  have hp77:=hp.trans (hp7.wide hrg.1 hrg.2.2)
  have hl7:=hp77.len
  simp (disch:=omega) [f0,f1,f2,f3,f4,f10,f11,f12,f13,hst,wrap_i64]
  refine cond_dec (fun hlr => ?_) fun hlr => ?_
  · simp [f0,f1,f2,f3,f4,f10,f11,f12,f13,hst]
    refine ih (q-x) (by omega) (Nat.le_refl _) hs7 (by omega) hlm ((hg.perm hp7 (Nat.le_refl _) (Nat.le_refl _) (by omega)).less (by omega)) fun H8 l8 hs8 hp8 hso8 => ?_
    have hO8:=hO7.left ho hq hp8 hso8 (by omega)
    simp (disch:=omega) [f0,f1,f2,f3,f4,f10,f11,f12,f13,hst,wrap_i64]
    exact ⟨y-(q+1),by omega,l8,q+1,y,lm2,by omega,hs8,hp77.trans (hp8.wide (by omega) (by omega)),hO8,hO8.guard (by omega),by omega,rfl,by omega⟩
  · have e1:(q:Int)+1=((q+1:Nat):Int):=by omega
    simp (disch:=omega) [f0,f1,f2,f3,f4,f10,f11,f12,f13,hst,wrap_i64]
    rw [e1]
    refine ih (y-(q+1)) (by omega) (Nat.le_refl _) hs7 (by omega) hlm (fun _ k h1 h2=>hq.hi k (by omega) h2) fun H8 l8 hs8 hp8 hso8 => ?_
    have hO8:=hO7.right ho hq hp8 hso8 (by omega)
    simp (disch:=omega) [f0,f1,f2,f3,f4,f10,f11,f12,f13,hst,wrap_i64]
    exact ⟨q-x,by omega,l8,x,q,lm2,by omega,hs8,hp77.trans (hp8.wide (by omega) (by omega)),hO8,((hg.perm hp7 (Nat.le_refl _) (Nat.le_refl _) (by omega)).perm hp8 (by omega) (Nat.le_refl _) (by omega)).less (by omega),by omega,rfl,by omega⟩
theorem sq_sort (hb:H[b]? = some (rowB l))(hlim:lim≤b)(hst:allStor fs=true∧allStor cs=true∧g≠3999999)(hc:CmpQ b g fs cs H l cf)(ho:Ordr cf)(hl:l.length<256)
    (hK:∀H' l',SqS b H l l' H'→SortR cf 0 l.length l'→K (.tup []) H'):VCall tbl lim 24 [.sl b 0 l.length 1,.func (.func g) fs cs] H K:=by
  refine VCall_fn tbl_at24 rfl ?_
  have hbl:=(List.getElem?_eq_some_iff.1 hb).1
  have wu:IntKind.wrap .u64 (l.length:Int)=(l.length:Int):=wrap_u64 (by omega)
  simp [vf24,wu,hst]
  refine sq_bits (x:=l.length) hl (by omega) fun m hm => ?_
  simp [hst]
  refine sq_pdq (a:=0) (e:=l.length) hc ho hst hlim hl l.length (by omega) (SqS.start hb) (by omega) (by omega) (fun h=>by omega) fun H' l' hs hp hso => ?_
  simp
  exact hK _ _ hs hso
theorem sq_sort0 (hlim:lim≤H.length)(hst:allStor fs=true∧allStor cs=true∧g≠3999999)(hK:K (.tup []) H):VCall tbl lim 24 [.snil,.func (.func g) fs cs] H K:=by
  refine VCall_fn tbl_at24 rfl ?_
  have wu:IntKind.wrap .u64 0=0:=wrap_u64 (by omega)
  simp [vf24,wu,hst]
  refine sq_bits (x:=0) (by omega) hlim fun m hm => ?_
  simp [hst]
  refine VCall_fn tbl_at44 rfl ?_
  simp [vf44]
  refine wLoop_round ?_
  simp [hst]
  refine VCall_fn tbl_at53 rfl ?_
  simp [vf53]
  refine wLoop_round ?_
  simp
  exact hK
end
end Go.Proofs.YthfimpangfhliaaGreatDoor.Vm
namespace Go.Proofs.YthfimpangfhliaaGreatDoor.Vm
open Go
set_option maxRecDepth 100000
set_option maxHeartbeats 1000000
set_option linter.unusedSimpArgs false
set_option linter.unusedVariables false
attribute [-simp] List.getD_eq_getElem?_getD
def cmpIo (x y:Int):Int:=if x<y then -1 else if y<x then 1 else 0
def ageE (e:En):Int:=e.a+e.b+e.c
def kAo (c:List En)(x:Int):Int:=ageE (c.getD x.toNat default)
def kP (c:List En)(x:Int):Int:=(c.getD x.toNat default).p
def cfO (c:List En)(x y:Int):Int:=if cmpIo (kAo c x) (kAo c y)≠0 then cmpIo (kAo c x) (kAo c y) else cmpIo (kP c x) (kP c y)
theorem cfO_le {c:List En}{x y:Int}:leC (cfO c) x y↔kAo c x<kAo c y∨(kAo c x=kAo c y∧kP c x≤kP c y):=by
  unfold leC cfO cmpIo
  repeat' split
  all_goals constructor<;>intro h<;>omega
theorem cfO_ordr {c:List En}:Ordr (cfO c):=⟨fun x y z h1 h2=>by rw [cfO_le] at *;omega,fun x y=>by rw [cfO_le,cfO_le];omega⟩
section
variable {c:List En}
theorem age_rng (h:valE c=0){i:Nat}(hi:i<c.length):0≤ageE (c.getD i default)∧ageE (c.getD i default)≤180:=by
  have s:=(valE_ok h hi).2.2
  simp only [seenR,Bool.and_eq_true] at s
  have r:=s.1.2
  simp only [rangB,Bool.and_eq_true,decide_eq_true_eq] at r
  have l:=valE_small h
  have c0:=cntE_le (c:=c) (q:=0) (n:=c.length)
  have c1:=cntE_le (c:=c) (q:=1) (n:=c.length)
  have c2:=cntE_le (c:=c) (q:=2) (n:=c.length)
  unfold ageE;omega
theorem sees_age (h:valE c=0){i k:Nat}(hi:i<c.length)(hk:k<c.length)(hs:seesB (c.getD i default) (c.getD k default)=true):ageE (c.getD k default)<ageE (c.getD i default):=by
  have si:=(valE_ok h hi).2.2
  have sk:=(valE_ok h hk).2.2
  simp only [seenR,Bool.and_eq_true] at si sk
  have t:=allN_at si.2 hk
  simp only [trB,hs,Bool.true_and,Bool.not_eq_true'] at t
  have ok:=sk.1.1
  simp only [selfB,decide_eq_true_eq] at ok
  simp only [seesB,decide_eq_true_eq] at hs
  have pl:=val_pl h hk
  have a0:=at3 (q:=0) t
  have a1:=at3 (q:=1) t
  have a2:=at3 (q:=2) t
  generalize c.getD i default=e at *
  generalize c.getD k default=f at *
  have hlt:f.at f.p.toNat<e.at f.p.toNat:=by omega
  have e0:∀z:En,z.at 0=z.a:=fun _=>rfl
  have e1:∀z:En,z.at 1=z.b:=fun _=>rfl
  have e2:∀z:En,z.at 2=z.c:=fun _=>rfl
  rw [e0,e0] at a0
  rw [e1,e1] at a1
  rw [e2,e2] at a2
  unfold ageE
  rcases (show f.p.toNat=0∨f.p.toNat=1∨f.p.toNat=2 by omega) with hp | hp | hp
  · rw [hp,e0,e0] at hlt;omega
  · rw [hp,e1,e1] at hlt;omega
  · rw [hp,e2,e2] at hlt;omega
theorem own_sees (h:valE c=0){i k:Nat}(hik:i<k)(hk:k<c.length)(hp:(c.getD i default).p=(c.getD k default).p):seesB (c.getD k default) (c.getD i default)=true:=by
  have hlt:=val_lt h hik hk hp
  have sk:=(valE_ok h hk).2.2
  simp only [seenR,Bool.and_eq_true] at sk
  have ok:=sk.1.1
  simp only [selfB,decide_eq_true_eq] at ok
  simp only [seesB,decide_eq_true_eq,hp]
  omega
theorem age_uniq (h:valE c=0){i k:Nat}(hi:i<c.length)(hk:k<c.length)(hp:(c.getD i default).p=(c.getD k default).p)(ha:ageE (c.getD i default)=ageE (c.getD k default)):i=k:=by
  rcases Nat.lt_trichotomy i k with x | x | x
  · have:=sees_age h hk hi (own_sees h x hk hp);omega
  · exact x
  · have:=sees_age h hi hk (own_sees h x hi hp.symm);omega
def pickB (c:List En)(n p:Nat)(i:Nat):Bool:=decide (ageE (c.getD i default)=n)&&decide ((c.getD i default).p=p)
def ordI (c:List En)(n p k:Nat):List Int:=((List.range k).filter (pickB c n p)).map Int.ofNat
def ordP (c:List En)(n:Nat):Nat→List Int
  | 0=>[]
  | p+1=>ordP c n p++ordI c n p c.length
def ordN (c:List En):Nat→List Int
  | 0=>[]
  | n+1=>ordN c n++ordP c n 3
theorem ordI_succ {n p k:Nat}:ordI c n p (k+1)=if pickB c n p k=true then ordI c n p k++[(k:Int)] else ordI c n p k:=by
  simp only [ordI,List.range_succ,List.filter_append,List.map_append]
  by_cases h:pickB c n p k=true
  · simp [h]
  · simp [h]
theorem ordI_mem {n p k:Nat}{x:Int}:x∈ordI c n p k↔∃i:Nat,x=i∧i<k∧ageE (c.getD i default)=n∧(c.getD i default).p=p:=by
  simp only [ordI,List.mem_map,List.mem_filter,List.mem_range,pickB,Bool.and_eq_true,decide_eq_true_eq]
  constructor
  · rintro ⟨i,⟨h1,h2⟩,rfl⟩;exact ⟨i,rfl,h1,h2⟩
  · rintro ⟨i,rfl,h1,h2⟩;exact ⟨i,⟨h1,h2⟩,rfl⟩
theorem ordP_mem {n:Nat}{x:Int}:∀{p:Nat},x∈ordP c n p↔∃i:Nat,x=i∧i<c.length∧ageE (c.getD i default)=n∧(0≤(c.getD i default).p∧(c.getD i default).p<p)
  | 0=>by simp only [ordP,List.not_mem_nil,false_iff];rintro ⟨i,_,_,_,h⟩;omega
  | p + 1=>by
    rw [ordP,List.mem_append,ordP_mem (p:=p),ordI_mem]
    constructor
    · rintro (⟨i,h1,h2,h3,h4⟩ | ⟨i,h1,h2,h3,h4⟩)
      · exact ⟨i,h1,h2,h3,by omega⟩
      · exact ⟨i,h1,h2,h3,by omega⟩
    · rintro ⟨i,h1,h2,h3,h4⟩
      by_cases e:(c.getD i default).p=p
      · exact Or.inr ⟨i,h1,h2,h3,e⟩
      · exact Or.inl ⟨i,h1,h2,h3,by omega⟩
theorem ordN_mem {x:Int}:∀{n:Nat},x∈ordN c n↔∃i:Nat,x=i∧i<c.length∧(0≤ageE (c.getD i default)∧ageE (c.getD i default)<n)∧(0≤(c.getD i default).p∧(c.getD i default).p<3)
  | 0=>by simp only [ordN,List.not_mem_nil,false_iff];rintro ⟨i,_,_,h,_⟩;omega
  | n + 1=>by
    rw [ordN,List.mem_append,ordN_mem (n:=n),ordP_mem]
    constructor
    · rintro (⟨i,h1,h2,h3,h4⟩ | ⟨i,h1,h2,h3,h4⟩)
      · exact ⟨i,h1,h2,by omega,h4⟩
      · exact ⟨i,h1,h2,by omega,by omega⟩
    · rintro ⟨i,h1,h2,h3,h4⟩
      by_cases e:ageE (c.getD i default)=n
      · exact Or.inr ⟨i,h1,h2,e,by omega⟩
      · exact Or.inl ⟨i,h1,h2,by omega,h4⟩
def ltO (c:List En)(x y:Int):Prop:=kAo c x<kAo c y∨(kAo c x=kAo c y∧kP c x<kP c y)
theorem ordI_sort (h:valE c=0){n p:Nat}:∀{k:Nat},k≤c.length→(ordI c n p k).Pairwise (ltO c)
  | 0,_=>by simp [ordI]
  | k + 1,hk=>by
    rw [ordI_succ]
    have ih:=ordI_sort h (n:=n) (p:=p) (k:=k) (by omega)
    split
    · rename_i hp
      simp only [pickB,Bool.and_eq_true,decide_eq_true_eq] at hp
      refine List.pairwise_append.2 ⟨ih,List.pairwise_singleton _ _,fun x hx y hy => ?_⟩
      obtain ⟨i,rfl,h1,h2,h3⟩:=ordI_mem.1 hx
      have:=age_uniq h (i:=i) (k:=k) (by omega) (by omega) (by omega) (by omega)
      omega
    · exact ih
theorem ordP_sort (h:valE c=0){n:Nat}:∀{p:Nat},(ordP c n p).Pairwise (ltO c)
  | 0=>List.Pairwise.nil
  | p+1=>by
    refine List.pairwise_append.2 ⟨ordP_sort h,ordI_sort h (Nat.le_refl _),fun x hx y hy => ?_⟩
    obtain ⟨i,rfl,h1,h2,h3⟩:=ordP_mem.1 hx
    obtain ⟨j,rfl,k1,k2,k3⟩:=ordI_mem.1 hy
    simp only [ltO,kAo,kP,Int.toNat_natCast]
    omega
theorem ordN_sort (h:valE c=0):∀{n:Nat},(ordN c n).Pairwise (ltO c)
  | 0=>List.Pairwise.nil
  | n+1=>by
    refine List.pairwise_append.2 ⟨ordN_sort h,ordP_sort h,fun x hx y hy => ?_⟩
    obtain ⟨i,rfl,h1,h2,h3⟩:=ordN_mem.1 hx
    obtain ⟨j,rfl,k1,k2,k3⟩:=ordP_mem.1 hy
    simp only [ltO,kAo,kP,Int.toNat_natCast]
    omega
theorem uniq_list {R:Int→Int→Prop} (ir:∀x,¬R x x) (asy:∀x y,R x y→¬R y x):∀{l m:List Int},l.Pairwise R→m.Pairwise R→(∀x,x∈l↔x∈m)→l=m
  | [],[],_,_,_=>rfl
  | [],y :: m,_,_,h=>absurd ((h y).2 (by simp)) (by simp)
  | x :: l,[],_,_,h=>absurd ((h x).1 (by simp)) (by simp)
  | x :: l,y :: m,hl,hm,h=>by
    obtain ⟨l1,l2⟩:=List.pairwise_cons.1 hl
    obtain ⟨m1,m2⟩:=List.pairwise_cons.1 hm
    have e:x=y:=by
      apply Classical.byContradiction
      intro hne
      have h1:=(h x).1 (by simp)
      have h2:=(h y).2 (by simp)
      rcases List.mem_cons.1 h1 with h1 | h1
      · exact hne h1
      · rcases List.mem_cons.1 h2 with h2 | h2
        · exact hne h2.symm
        · exact asy _ _ (m1 x h1) (l1 y h2)
    subst e
    congr 1
    refine uniq_list ir asy l2 m2 fun z => ?_
    constructor
    · intro hz
      rcases List.mem_cons.1 ((h z).1 (List.mem_cons_of_mem _ hz)) with h1 | h1
      · subst h1;exact absurd (l1 _ hz) (ir _)
      · exact h1
    · intro hz
      rcases List.mem_cons.1 ((h z).2 (List.mem_cons_of_mem _ hz)) with h1 | h1
      · subst h1;exact absurd (m1 _ hz) (ir _)
      · exact h1
def idL (n:Nat):List Int:=(List.range n).map Int.ofNat
theorem idL_len {n:Nat}:(idL n).length=n:=by simp [idL]
theorem idL_succ {n:Nat}:idL (n+1)=idL n++[(n:Int)]:=by simp [idL,List.range_succ]
theorem idL_mem {n:Nat}{x:Int}:x∈idL n↔∃i:Nat,x=i∧i<n:=by
  simp only [idL,List.mem_map,List.mem_range]
  constructor
  · rintro ⟨i,h,rfl⟩;exact ⟨i,rfl,h⟩
  · rintro ⟨i,rfl,h⟩;exact ⟨i,h,rfl⟩
theorem ord_eq (h:valE c=0){l:List Int}(hp:l.Perm (idL c.length))(hs:SortR (cfO c) 0 l.length l):l=ordN c 181:=by
  have nd:l.Nodup:=by
    rw [hp.nodup_iff,idL]
    refine List.pairwise_map.2 (List.Pairwise.imp (fun {a b} hab e => ?_) (List.nodup_range (n:=c.length)))
    exact hab (Int.ofNat.inj e)
  have hmem:∀x,x∈l→∃i:Nat,x=i∧i<c.length:=fun x hx=>idL_mem.1 (hp.mem_iff.1 hx)
  refine uniq_list (R:=ltO c) (fun x hx=>by unfold ltO at hx;omega) (fun x y h1 h2=>by unfold ltO at h1 h2;omega) ?_ (ordN_sort h) fun x => ?_
  · rw [List.pairwise_iff_getElem]
    intro i j hi hj hij
    have h1:=cfO_le.1 (hs i j (Nat.zero_le _) hij hj)
    rw [getD_of hi,getD_of hj] at h1
    obtain ⟨a,ea,ha⟩:=hmem l[i] (List.getElem_mem hi)
    obtain ⟨b,eb,hb⟩:=hmem l[j] (List.getElem_mem hj)
    have hne:=(List.pairwise_iff_getElem.1 nd) i j hi hj hij
    rw [ea,eb] at h1 hne ⊢
    simp only [ltO,kAo,kP,Int.toNat_natCast] at h1 ⊢
    have hab:¬a=b:=fun e=>hne (by rw [e])
    by_cases hx:ageE (c.getD a default)=ageE (c.getD b default)∧(c.getD a default).p=(c.getD b default).p
    · exact absurd (age_uniq h ha hb hx.2 hx.1) hab
    · omega
  · rw [hp.mem_iff,idL_mem,ordN_mem]
    constructor
    · rintro ⟨i,rfl,hi⟩
      have r:=age_rng h hi
      have q:=val_pl h hi
      exact ⟨i,rfl,hi,by omega,by omega⟩
    · rintro ⟨i,rfl,hi,_⟩;exact ⟨i,rfl,hi⟩
def ordR (c:List En):List Int:=if valE c=0 then ordN c 181 else []
theorem ordI_len {n p k:Nat}:(ordI c n p k).length≤k:=by
  simp only [ordI,List.length_map]
  exact Nat.le_trans (List.length_filter_le _ _) (by simp)
theorem ordP_len {n:Nat}:∀{p:Nat},(ordP c n p).length≤p*c.length
  | 0=>by simp [ordP]
  | p+1=>by
    rw [ordP,List.length_append,Nat.succ_mul]
    have:=ordP_len (n:=n) (p:=p)
    have:=ordI_len (c:=c) (n:=n) (p:=p) (k:=c.length)
    omega
theorem ordN_len:∀{n:Nat},(ordN c n).length≤n*(3*c.length)
  | 0=>by simp [ordN]
  | n+1=>by
    rw [ordN,List.length_append,Nat.succ_mul]
    have:=ordN_len (n:=n)
    have:=ordP_len (c:=c) (n:=n) (p:=3)
    omega
theorem ordR_len:(ordR c).length≤40000:=by
  unfold ordR
  split
  · rename_i h
    have hl:=valE_small h
    have:=ordN_len (c:=c) (n:=181)
    omega
  · simp
end
section
variable {lim:Nat}{H:Hp}{K:V→Hp→Prop}{v w:V}{c:List En}{e f:En}{x y u q:Int}
theorem LstV.keepB {α:Type}{k:Nat}{c:Cod α k}{H H':Hp}{v:V}{l:List α}(h:LstV c H v l)(hk:∀b o n z,v=.sl b o n z→H'[b]? = H[b]?):LstV c H' v l:=by
  cases h with
  | nil=>exact .nil
  | empty=>exact .empty
  | sl h1 h2 h3=>exact .sl (by rw [hk _ _ _ _ rfl];exact h1) h2 h3
theorem LstV.below {α:Type}{k:Nat}{c:Cod α k}{H:Hp}{v:V}{l:List α}(h:LstV c H v l):∀b o n z,v=.sl b o n z→b<H.length:=by
  rintro b o n z rfl
  cases h with
  | sl h1 _ _=>exact (List.getElem?_eq_some_iff.1 h1).1
theorem cmp_isNaNo (hK:K (.bool false) H):VCall tbl lim 46 [.int .i64 x] H K:=by
  refine VCall_fn tbl_at46 rfl ?_
  simp [vf46]
  exact hK
theorem cmp_Compareo (hK:K (.int .i64 (cmpIo x y)) H):VCall tbl lim 27 [.int .i64 x,.int .i64 y] H K:=by
  refine VCall_fn tbl_at27 rfl ?_
  simp [vf27]
  refine cmp_isNaNo ?_
  simp
  refine cmp_isNaNo ?_
  simp
  refine cond_dec (fun h => ?_) fun h => ?_
  · simp;simpa [cmpIo,h] using hK
  · simp
    refine cond_dec (fun h2 => ?_) fun h2 => ?_
    · simp;simpa [cmpIo,h,h2] using hK
    · simp;simpa [cmpIo,h,h2] using hK
theorem cmp_Oro (hs:SlV H v [u,q])(hK:K (.int .i64 (if u≠0 then u else q)) H):VCall tbl lim 26 [v] H K:=by
  refine VCall_fn tbl_at26 rfl ?_
  have a0:=hs.addr (i:=0) (by simp)
  have a1:=hs.addr (i:=1) (by simp)
  have g0:=hs.load (L:=[]) (i:=0) (by simp)
  have g1:=hs.load (L:=[]) (i:=1) (by simp)
  simp [List.getD_eq_getElem?_getD] at a0 a1 g0 g1
  by_cases h:u=0
  · subst h
    simp only [ne_eq,not_true_eq_false,if_false] at hK
    by_cases h2:q=0
    · subst h2
      simp [vf26,hs.len]
      refine wLoop_round ?_
      simp [a0,g0,wrap_i64]
      refine wLoop_round ?_
      simp [a1,g1,wrap_i64]
      refine wLoop_round ?_
      simp
      exact hK
    · simp [vf26,hs.len]
      refine wLoop_round ?_
      simp [a0,g0,wrap_i64]
      refine wLoop_round ?_
      simp [a1,g1,wrap_i64,h2]
      exact hK
  · rw [if_pos h] at hK
    simp [vf26,hs.len]
    refine wLoop_round ?_
    simp [a0,g0,wrap_i64,h]
    exact hK
theorem card_age (h:(0≤e.a∧e.a≤60)∧(0≤e.b∧e.b≤60)∧(0≤e.c∧e.c≤60))(hK:K (.int .i64 (ageE e)) H):VCall tbl lim 28 [.agg e.cells] H K:=by
  refine VCall_fn tbl_at28 rfl ?_
  simp (disch:=omega) [vf28,En.cells,wrap_i64]
  exact hK
theorem ref_age (h:(0≤e.a∧e.a≤60)∧(0≤e.b∧e.b≤60)∧(0≤e.c∧e.c≤60))(hK:K (.int .i64 (ageE e)) H):VCall tbl lim 36 [.agg e.cells] H K:=by
  refine VCall_fn tbl_at36 rfl ?_
  simp (disch:=omega) [vf36,En.cells,wrap_i64]
  exact hK
theorem comp_rng (h:valE c=0){i:Nat}(hi:i<c.length):(0≤(c.getD i default).a∧(c.getD i default).a≤60)∧(0≤(c.getD i default).b∧(c.getD i default).b≤60)∧(0≤(c.getD i default).c∧(c.getD i default).c≤60):=by
  have s:=(valE_ok h hi).2.2
  simp only [seenR,Bool.and_eq_true] at s
  have r:=s.1.2
  simp only [rangB,Bool.and_eq_true,decide_eq_true_eq] at r
  have l:=valE_small h
  have c0:=cntE_le (c:=c) (q:=0) (n:=c.length)
  have c1:=cntE_le (c:=c) (q:=1) (n:=c.length)
  have c2:=cntE_le (c:=c) (q:=2) (n:=c.length)
  omega
theorem ord_cmp {b B:Nat}(hB:H[B]? = some (.row [v] true))(hbB:B≠b)(hvb:∀b0 o k z,v=.sl b0 o k z→b0≠b)(hv:LstV enC H v c)(hval:valE c=0){l:List Int}(hl:∀x∈l,0≤x∧x<c.length) :
    CmpQ b 25 [] [.ptr B 0] H l (cfO c):=by
  intro H' lim x y K hx hy hlen hsame hK
  have hBl:=(List.getElem?_eq_some_iff.1 hB).1
  have hv':LstV enC H' v c:=hv.keepB fun b0 o k z e=>hsame b0 (hv.below b0 o k z e) (hvb b0 o k z e)
  have hB':H'[B]? = some (.row [v] true):=by rw [hsame B hBl hbB];exact hB
  have h1:=hl x hx
  have h2:=hl y hy
  have rd1:rd none [v] 0=some v:=Eq.trans rfl rfl
  have fj:∀i,i<c.length→∀j,vfaddr j (ept 6 v i)=some (eptf 6 v i j):=fun i hi j=>hv'.faddr hi
  have ld:∀L,vload none L H' (.ptr B 0)=some v:=fun L=>by rw [vload_ptr hB'];rfl
  show VCall tbl lim 25 [.int .i64 x,.int .i64 y,.ptr B 0] H' K
  refine VCall_fn tbl_at25 rfl ?_
  have c1:=comp_rng hval (i:=x.toNat) (by omega)
  have c2:=comp_rng hval (i:=y.toNat) (by omega)
  simp (disch:=omega) [vf25,ld,hv'.addr,en_load hv',lpId_eptf,-vload_ptrO]
  refine card_age (e:=c.getD x.toNat default) c1 ?_
  simp (disch:=omega) [ld,hv'.addr,en_load hv',lpId_eptf,-vload_ptrO]
  refine card_age (e:=c.getD y.toNat default) c2 ?_
  simp
  refine cmp_Compareo ?_
  simp (disch:=omega) [ld,hv'.addr,fj,en_get hv',lpId_eptf,-vload_ptrO]
  refine cmp_Compareo ?_
  simp [vbslice_some]
  have hs:SlV (H'++[.row [.int .i64 (cmpIo (ageE (c.getD x.toNat default)) (ageE (c.getD y.toNat default))),.int .i64 (cmpIo (c.getD x.toNat default).p (c.getD y.toNat default).p)] true]) (.sl H'.length 0 2 1) [cmpIo (ageE (c.getD x.toNat default)) (ageE (c.getD y.toNat default)),cmpIo (c.getD x.toNat default).p (c.getD y.toNat default).p]:=SlV.lit (l:=[_,_]) (by rw [List.getElem?_concat_length];rfl) rfl
  refine cmp_Oro hs ?_
  have hK:=hK _ (HX.push (x:=.row [.int .i64 (cmpIo (ageE (c.getD x.toNat default)) (ageE (c.getD y.toNat default))),.int .i64 (cmpIo (c.getD x.toNat default).p (c.getD y.toNat default).p)] true))
  unfold cfO kAo kP at hK
  simp
  simpa using hK
end
end Go.Proofs.YthfimpangfhliaaGreatDoor.Vm
namespace Go.Proofs.YthfimpangfhliaaGreatDoor.Vm
open Go
set_option maxRecDepth 100000
set_option maxHeartbeats 1000000
set_option linter.unusedSimpArgs false
set_option linter.unusedVariables false
attribute [-simp] List.getD_eq_getElem?_getD
section
variable {lim:Nat}{H:Hp}{K:V→Hp→Prop}{v w:V}{c:List En}{e f:En}{x y u q:Int}
theorem OwnV.ge {n:Nat}{H:Hp}{v:V}{l:List Int}(h:OwnV n H v l):∀b o k z,v=.sl b o k z→n≤b:=by
  cases h with
  | nil=>intro b o k z e;cases e
  | row h1 h2=>intro b o k z e;cases e;exact h1
theorem sort_own {n g:Nat}{u:V}{l:List Int}{cf:Int→Int→Int}{fs cs:List V}(hu:OwnV n H u l)(hlim:lim≤n)(hn:n≤H.length)(hst:allStor fs=true∧allStor cs=true∧g≠3999999)(hc:∀b o z y,u=.sl b o z y→CmpQ b g fs cs H l cf)(ho:Ordr cf)(hl:l.length<256)
    (hK:∀l' H',l'.Perm l→SortR cf 0 l'.length l'→OwnV n H' u l'→H.length≤H'.length→(∀b',b'<H.length→(∀o z y,u≠.sl b' o z y)→H'[b']? = H[b']?)→K (.tup []) H'):VCall tbl lim 24 [u,.func (.func g) fs cs] H K:=by
  cases hu with
  | nil=>exact sq_sort0 (by omega) hst (hK [] H (.refl _) (fun p q _ _ h=>absurd h (by simp)) .nil (Nat.le_refl _) (fun _ _ _=>rfl))
  | row h1 h3 =>
    rename_i b
    refine sq_sort h3 (by omega) hst (hc b 0 l.length 1 rfl) ho hl fun H' l' hs hso => ?_
    have hn:=hs.n
    refine hK l' H' hs.perm (by rw [hn];exact hso) ?_ hs.len fun b' hb' hne=>hs.oth b' hb' fun e=>hne 0 l.length 1 (by rw [e])
    rw [←hn]
    exact .row h1 hs.row
theorem card_Order (hc:LstV enC H v c) (hsh:shortC c) (hlim:lim≤H.length) (hK:∀H' w,HX H H'→OwnV H.length H' w (ordR c)→K (.tup [w,.int .i64 (valE c)]) H'):VCall tbl lim 11 [v] H K:=by
  refine VCall_fn tbl_at11 rfl ?_
  have hB0:(H++[Blk.row [v] true])[H.length]? = some (.row [v] true):=List.getElem?_concat_length
  have rd1:rd none [v] 0=some v:=Eq.trans rfl rfl
  simp [vf11,hc.stor,hc.one,hB0,rd1]
  generalize hHB:H++[Blk.row [v] true]=HB at *
  have xB:HX H HB:=by rw [←hHB];exact HX.push
  have lB:HB.length=H.length+1:=by rw [←hHB];simp
  have hcB:=hc.mono xB
  refine card_Validate hcB hsh fun H1 x1 => ?_
  replace x1:HX HB H1:=x1
  have l1:=x1.len
  by_cases hval:valE c=0
  case neg =>
    have:=hK H1 .snil (xB.trans x1) (by simp only [ordR,hval,if_false];exact .nil)
    simp [hval];exact this
  have hB1:=x1.get hB0
  have ld1:∀L,vload none L H1 (.ptr H.length 0)=some v:=fun L=>by rw [vload_ptr hB1];rfl
  have hc1:=hcB.mono x1
  have hsm:=valE_small hval
  simp [hval,ld1,hc1.len,-vload_ptrO]
  refine wLoop_up c.length (fun i fr L H'=>∃u5,(fr 1=.ptr H.length 0∧fr 13=.int .i64 c.length∧fr 14=.int .i64 i∧fr 5=u5)∧HX H1 H'∧OwnV H1.length H' u5 (idL i)) ⟨.snil,by simp,HX.refl,.nil⟩ ?_
  rintro i hi fr L H2 ⟨u5,⟨f1,f13,f14,f5⟩,x2,o5⟩
  have l2:=x2.len
  simp [f1,f13,f14,f5]
  refine cond_dec (fun ht => ?_) fun hfl => ?_
  · have ht:i<c.length:=by omega
    have a5:=o5.append (lim:=lim) (x:=(i:Int)) ⟨by omega,by rw [idL_len];omega⟩
    have p5:=o5.ap l2 (x:=(i:Int)) (new:=[.int .i64 (i:Int)])
    have xx5:=o5.apX x2 (Nat.le_refl _) (new:=[.int .i64 (i:Int)]) (all:=ints (idL i++[(i:Int)]))
    simp (disch:=omega) [f1,f13,f14,f5,wrap_i64,vbslice_some,a5]
    refine ⟨by omega,xx5,?_⟩
    rw [idL_succ]
    simpa using p5
  · have:i=c.length:=by omega
    subst this
    have hst5:=o5.sl.stor
    simp [f1,f5,hst5]
    have hB2:=x2.get hB1
    have hc2:=hc1.mono x2
    have hge:∀b o z y,u5=.sl b o z y→H1.length≤b:=o5.ge
    refine sort_own (g:=25) (fs:=[]) (cs:=[.ptr H.length 0]) (cf:=cfO c) o5 (by omega) l2 ⟨rfl,rfl,by decide⟩ (fun b o z y e => ?_) cfO_ordr (by rw [idL_len];omega) fun l' H3 hp hs o3 hl3 hoth => ?_
    · have hb:=hge b o z y e
      refine ord_cmp hB2 (by omega) (fun b0 o k z e0 => ?_) hc2 hval fun x hx => ?_
      · have:=hc.below b0 o k z e0
        omega
      · obtain ⟨i,rfl,hi⟩:=idL_mem.1 hx
        omega
    · have e:=ord_eq hval hp hs
      simp [f5,o3.sl.stor]
      have hx3:HX H H3:=HX.of (by have:=(xB.trans (x1.trans x2)).len;omega) fun b hb=>by
        rw [hoth b (by have:=(xB.trans (x1.trans x2)).len;omega) (fun o z y e=>by have:=hge b o z y e;omega)]
        exact (xB.trans (x1.trans x2)).same hb
      have:=hK H3 u5 hx3 (by
        have e2:ordR c=l':=by simp only [ordR,hval,if_true];exact e.symm
        rw [e2];exact o3.le (by omega))
      rw [hval] at this
      exact this
theorem ref_order (hc:LstV enC H v c) (hval:valE c=0) (hlim:lim≤H.length) (hK:∀H' w,HX H H'→OwnV H.length H' w (ordR c)→K w H'):VCall tbl lim 15 [v] H K:=by
  refine VCall_fn tbl_at15 rfl ?_
  have hsm:=valE_small hval
  have blen:∀n,n≤181→(ordN c n).length≤35000:=fun n hn=>by
    have:=ordN_len (c:=c) (n:=n)
    have:n*(3*c.length)≤181*(3*60):=Nat.mul_le_mul hn (by omega)
    omega
  have plen:∀n p,p≤3→(ordP c n p).length≤200:=fun n p hp=>by
    have:=ordP_len (c:=c) (n:=n) (p:=p)
    have:p*c.length≤3*60:=Nat.mul_le_mul hp (by omega)
    omega
  simp [vf15]
  refine wLoop_up 181 (fun n fr L H'=>∃u,(fr 0=v∧fr 4=.int .i64 n∧fr 3=u)∧HX H H'∧OwnV H.length H' u (ordN c n)) ⟨.snil,by simp,HX.refl,.nil⟩ ?_
  rintro n hn fr L H1 ⟨u,⟨f0,f4,f3⟩,hx,hu⟩
  simp [f0,f4,f3]
  refine cond_dec (fun ht => ?_) fun hfl => ?_
  · have ht : n<181:=by omega
    simp [f0,f4,f3]
    refine wLoop_up 3 (fun p fr L H'=>∃u,(fr 0=v∧fr 4=.int .i64 n∧fr 3=u∧fr 5=.int .i64 p)∧HX H H'∧OwnV H.length H' u (ordN c n++ordP c n p)) ⟨u,by simp [f0,f4,f3],hx,by simpa [ordP] using hu⟩ ?_
    clear f0 f4 f3 hx hu u
    rintro p hp fr L H1 ⟨u,⟨f0,f4,f3,f5⟩,hx,hu⟩
    simp [f0,f4,f3,f5]
    refine cond_dec (fun ht2 => ?_) fun hfl2 => ?_
    · have ht2:p<3:=by omega
      simp [f0,f4,f3,f5]
      refine wLoop_up c.length (fun i fr L H'=>∃u,(fr 0=v∧fr 4=.int .i64 n∧fr 3=u∧fr 5=.int .i64 p∧fr 6=.int .i64 i)∧HX H H'∧OwnV H.length H' u (ordN c n++ordP c n p++ordI c n p i)) ⟨u,by simp [f0,f4,f3,f5],hx,by simpa [ordI] using hu⟩ ?_
      clear f0 f4 f3 f5 hx hu u
      rintro i hi fr L H1 ⟨u,⟨f0,f4,f3,f5,f6⟩,hx,hu⟩
      have hxl:=hx.len
      have hc1:=hc.mono hx
      simp [f0,f4,f3,f5,f6,hc1.len]
      refine cond_dec (fun ht3 => ?_) fun hfl3 => ?_
      · have ht3:i<c.length:=by omega
        have a1:=hc1.at ht3
        have fj:=hc1.faddr (i:=i) (j:=0) ht3
        simp (disch:=omega) [f0,f4,f3,f5,f6,a1,en_load hc1]
        refine ref_age (e:=c.getD i default) (comp_rng hval ht3) ?_
        have hsucc:=ordI_succ (c:=c) (n:=n) (p:=p) (k:=i)
        by_cases e1:ageE (c.getD i default)=n
        · simp (disch:=omega) [f0,f4,f3,f5,f6,eq_true e1,a1,fj,en_get hc1,lpId_eptf]
          refine cond_dec (fun e2 => ?_) fun e2 => ?_
          · have hpk:pickB c n p i=true:=by simp [pickB,e1,e2]
            rw [if_pos hpk] at hsucc
            have hlen:(ordN c n++ordP c n p++ordI c n p i).length<100000:=by
              rw [List.length_append,List.length_append]
              have:=blen n (by omega)
              have:=plen n p (by omega)
              have:=ordI_len (c:=c) (n:=n) (p:=p) (k:=i)
              omega
            have a5:=hu.append (lim:=lim) (x:=(i:Int)) ⟨by omega,by omega⟩
            have p5:=hu.ap hxl (x:=(i:Int)) (new:=[.int .i64 (i:Int)])
            have xx5:=hu.apX hx (Nat.le_refl _) (new:=[.int .i64 (i:Int)]) (all:=ints ((ordN c n++ordP c n p++ordI c n p i)++[(i:Int)]))
            generalize hM:ordN c n++ordP c n p++ordI c n p i=M at *
            simp (disch:=omega) [f0,f4,f3,f5,f6,wrap_i64,vbslice_some,a5]
            refine ⟨by omega,xx5,?_⟩
            have e5:ordN c n++(ordP c n p++ordI c n p (i+1))=M++[(i:Int)]:=by rw [hsucc,←hM];simp
            rw [e5]
            simpa using p5
          · have hpk:¬pickB c n p i=true:=by simp [pickB,e2]
            rw [if_neg hpk] at hsucc
            simp (disch:=omega) [f0,f4,f3,f5,f6,wrap_i64,hsucc]
            exact ⟨by omega,hx,by simpa using hu⟩
        · have hpk:¬pickB c n p i=true:=by simp [pickB,e1]
          rw [if_neg hpk] at hsucc
          simp (disch:=omega) [f0,f4,f3,f5,f6,wrap_i64,hsucc,eq_false e1]
          exact ⟨by omega,hx,by simpa using hu⟩
      · have:i=c.length:=by omega
        subst this
        simp (disch:=omega) [f0,f4,f3,f5,f6,wrap_i64]
        refine ⟨by omega,hx,?_⟩
        rw [ordP,←List.append_assoc];exact hu
    · have:p=3:=by omega
      subst this
      simp (disch:=omega) [f0,f4,f3,f5,wrap_i64]
      refine ⟨by omega,hx,?_⟩
      rw [ordN];exact hu
  · have:n=181:=by omega
    subst this
    simp [f3,hu.sl.stor]
    exact hK _ _ hx (by simp only [ordR,hval,if_true];exact hu)
end
end Go.Proofs.YthfimpangfhliaaGreatDoor.Vm
namespace Go.Proofs.YthfimpangfhliaaGreatDoor.Vm
open Go
set_option maxRecDepth 100000
set_option linter.unusedSimpArgs false
set_option linter.unusedVariables false
attribute [-simp] List.getD_eq_getElem?_getD
def enEq (e f:En):Bool:=decide (e.p=f.p)&&(decide (e.s=f.s)&&(decide (e.a=f.a)&&(decide (e.b=f.b)&&(decide (e.c=f.c)&&(e.t==f.t)))))
def kn (w:En)(q:Int):Int:=if q=w.p then w.s else w.at q.toNat
def knownL (c:List En)(x:Int):List En:=if valE c=0∧inR c x=true then filE (upto (kn (c.getD x.toNat default)) c) c c.length else []
def knownE (c:List En)(x:Int):Int:=if valE c≠0 then valE c else if inR c x then 0 else 5
section
variable {lim:Nat}{H:Hp}{K:V→Hp→Prop}{v w:V}{c l:List En}{e f:En}{s:ByteArray}{n x y:Int}
end
end Go.Proofs.YthfimpangfhliaaGreatDoor.Vm
namespace Go.Proofs.YthfimpangfhliaaGreatDoor.Vm
open Go
set_option maxRecDepth 100000
set_option linter.unusedSimpArgs false
set_option linter.unusedVariables false
attribute [-simp] List.getD_eq_getElem?_getD
section
variable {α:Type}{k n:Nat}{c:Cod α k}{H:Hp}{v:V}{l:List α}
theorem OwnT.keepB {H':Hp}(h:OwnT n c H v l)(hk:∀b o m z,v=.sl b o m z→H'[b]? = H[b]?):OwnT n c H' v l:=by
  cases h with
  | nil=>exact .nil
  | row h1 h3=>exact .row h1 (by rw [hk _ _ _ _ rfl];exact h3)
theorem OwnT.below (h:OwnT n c H v l):∀b o n z,v=.sl b o n z→b<H.length:=by
  rintro b o n z rfl
  cases h with
  | row h1 h3=>exact (List.getElem?_eq_some_iff.1 h3).1
def Apart (u v:V):Prop:=∀b o z y b' o' z' y',u=.sl b o z y→v=.sl b' o' z' y'→b≠b'
end
def kq (x y z:Int)(q:Int):Int:=tri x y z q.toNat
def missL (c:List En)(x y z:Int):List En:=if valE c=0 then filE (fun i => !upto (kq x y z) c i) c c.length else []
def rgB (c:List En)(x y z:Int)(q:Nat):Bool:=decide (0≤tri x y z q∧tri x y z q≤triC c c.length q)
def inK (x y z:Int)(e:En)(q:Nat):Bool:=decide (e.at q≤tri x y z q)
def okK (x y z:Int)(F:List En)(i:Nat):Bool:=allN (inK x y z (F.getD i default)) 3
def cutL (c:List En)(x y z:Int):List En:=filE (upto (kq x y z) c) c c.length
def atE (c:List En)(x y z:Int):Int :=
  if valE c≠0 then valE c else if allN (rgB c x y z) 3=false then 1 else if allN (okK x y z (cutL c x y z)) (cutL c x y z).length=false then 11 else 0
def atLc (c:List En)(x y z:Int):List En:=if atE c x y z=0 then cutL c x y z else []
section
variable {lim:Nat}{H:Hp}{K:V→Hp→Prop}{v w:V}{c l:List En}{e f:En}{s:ByteArray}{n x y z:Int}
end
end Go.Proofs.YthfimpangfhliaaGreatDoor.Vm
namespace Go.Proofs.YthfimpangfhliaaGreatDoor.Vm
open Go
set_option maxRecDepth 100000
set_option linter.unusedSimpArgs false
set_option linter.unusedVariables false
attribute [-simp] List.getD_eq_getElem?_getD
section
variable {lim:Nat}{H:Hp}{K:V→Hp→Prop}{v w:V}{c l:List En}{e f:En}{s:ByteArray}{n x y z:Int}
end
end Go.Proofs.YthfimpangfhliaaGreatDoor.Vm
namespace Go.Proofs.YthfimpangfhliaaGreatDoor.Vm
open Go
set_option maxRecDepth 100000
set_option linter.unusedSimpArgs false
set_option linter.unusedVariables false
attribute [-simp] List.getD_eq_getElem?_getD
section
variable {lim:Nat}{H:Hp}{K:V→Hp→Prop}{v w:V}{c l:List En}{e f:En}{s:ByteArray}{n x y z:Int}
end
end Go.Proofs.YthfimpangfhliaaGreatDoor.Vm
namespace Go.Proofs.YthfimpangfhliaaGreatDoor.Vm
open Go
set_option maxRecDepth 100000
set_option linter.unusedSimpArgs false
set_option linter.unusedVariables false
attribute [-simp] List.getD_eq_getElem?_getD
structure RowE (b:Nat)(H:Hp)(l:List En)(H':Hp):Prop where
  row:H'[b]? = some (.row (enC.all l) true)
  len:H.length≤H'.length
  oth:∀b',b'<H.length→b'≠b→H'[b']? = H[b']?
theorem RowE.refl {b:Nat}{H:Hp}{l:List En}(h:H[b]? = some (.row (enC.all l) true)):RowE b H l H:=⟨h,Nat.le_refl _,fun _ _ _=>rfl⟩
theorem RowE.trans {b:Nat}{H H1 H2:Hp}{l l':List En}(h:RowE b H l H1)(k:RowE b H1 l' H2):RowE b H l' H2 :=
  ⟨k.row,Nat.le_trans h.len k.len,fun b' h1 h2=>(k.oth b' (Nat.lt_of_lt_of_le h1 h.len) h2).trans (h.oth b' h1 h2)⟩
theorem RowE.lt {b:Nat}{H H1:Hp}{l:List En}(h:RowE b H l H1):b<H1.length:=(List.getElem?_eq_some_iff.1 h.row).1
theorem RowE.grow {b:Nat}{H H1 H2:Hp}{l:List En}(h:RowE b H l H1)(x:HX H1 H2):RowE b H l H2 :=
  ⟨x.get h.row,Nat.le_trans h.len x.len,fun b' h1 h2=>(x.same (Nat.lt_of_lt_of_le h1 h.len)).trans (h.oth b' h1 h2)⟩
theorem RowE.set {b:Nat}{H H1:Hp}{l l':List En}(h:RowE b H l H1):RowE b H l' (H1.set b (.row (enC.all l') true)) :=
  ⟨setGet h.lt,by simpa using h.len,fun b' h1 h2=>by rw [List.getElem?_set_ne (fun e=>h2 e.symm)];exact h.oth b' h1 h2⟩
def CmpE (g:FuncId)(cf:En→En→Int):Prop :=
  g≠3999999∧∀(H:Hp) (lim:Nat) (x y:En) (K:V→Hp→Prop),(∀H',HX H H'→K (.int .i64 (cf x y)) H')→VCall tbl lim g [.agg x.cells,.agg y.cells] H K
section
variable {lim:Nat}{H:Hp}{K:V→Hp→Prop}{b:Nat}{g:FuncId}{l:List En}{cf:En→En→Int}
end
end Go.Proofs.YthfimpangfhliaaGreatDoor.Vm
namespace Go.Proofs.YthfimpangfhliaaGreatDoor.Vm
open Go
set_option maxRecDepth 100000
set_option linter.unusedSimpArgs false
set_option linter.unusedVariables false
attribute [-simp] List.getD_eq_getElem?_getD
section
variable {lim:Nat}{H:Hp}{K:V→Hp→Prop}{b:Nat}{g:FuncId}{l:List En}{cf:En→En→Int}
end
end Go.Proofs.YthfimpangfhliaaGreatDoor.Vm
namespace Go.Proofs.YthfimpangfhliaaGreatDoor.Vm
open Go
set_option maxRecDepth 100000
set_option linter.unusedSimpArgs false
set_option linter.unusedVariables false
attribute [-simp] List.getD_eq_getElem?_getD
section
variable {b:Nat}{g:FuncId}{cf:En→En→Int}
end
end Go.Proofs.YthfimpangfhliaaGreatDoor.Vm
namespace Go.Proofs.YthfimpangfhliaaGreatDoor.Vm
open Go
set_option maxRecDepth 100000
set_option linter.unusedSimpArgs false
set_option linter.unusedVariables false
attribute [-simp] List.getD_eq_getElem?_getD
def cmpI (x y:Int):Int:=if x<y then -1 else if y<x then 1 else 0
def cfE (x y:En):Int:=if cmpI x.p y.p≠0 then cmpI x.p y.p else cmpI x.s y.s
section
variable {lim:Nat}{H:Hp}{K:V→Hp→Prop}{v w:V}{c l:List En}{e f:En}{x y u q:Int}
end
end Go.Proofs.YthfimpangfhliaaGreatDoor.Vm
namespace Go.Proofs.YthfimpangfhliaaGreatDoor.Vm
open Go
set_option maxRecDepth 100000
set_option linter.unusedSimpArgs false
set_option linter.unusedVariables false
attribute [-simp] List.getD_eq_getElem?_getD
theorem mem_getD {l:List En}{x:En}(h:x∈l):∃i,i<l.length∧l.getD i default=x:=by
  obtain ⟨i,hi,e⟩:=List.mem_iff_getElem.1 h
  exact ⟨i,hi,by rw [getD_of hi];exact e⟩
def Dist (l:List En):Prop:=l.Pairwise fun x y=>¬(x.p=y.p∧x.s=y.s)
theorem Dist.perm {l l':List En}(h:Dist l)(p:l'.Perm l):Dist l':=(p.pairwise_iff (fun {x y} hxy hyx=>hxy ⟨hyx.1.symm,hyx.2.symm⟩)).2 h
theorem Dist.at {l:List En}(h:Dist l){i j:Nat}(hij:i<j)(hj:j<l.length):¬((l.getD i default).p=(l.getD j default).p∧(l.getD i default).s=(l.getD j default).s):=by
  have:=List.pairwise_iff_getElem.1 h i j (by omega) hj hij
  rw [getD_of (by omega),getD_of hj];exact this
theorem Dist.eq {l:List En}(h:Dist l){x y:En}(hx:x∈l)(hy:y∈l)(hp:x.p=y.p)(hs:x.s=y.s):x=y:=by
  obtain ⟨i,hi,rfl⟩:=mem_getD hx
  obtain ⟨j,hj,rfl⟩:=mem_getD hy
  rcases Nat.lt_trichotomy i j with h1 | h1 | h1
  · exact absurd ⟨hp,hs⟩ (h.at h1 hj)
  · rw [h1]
  · exact absurd ⟨hp.symm,hs.symm⟩ (h.at h1 hi)
def nextE (c:List En)(q:Int)(t:ByteArray):En:=⟨q,cntE c q c.length+1,cntE c 0 c.length,cntE c 1 c.length,cntE c 2 c.length,t⟩
def ofP (c:List En)(q:Int)(n:Nat):List En:=filE (fun i=>decide ((c.getD i default).p=q)) c n
end Go.Proofs.YthfimpangfhliaaGreatDoor.Vm
namespace Go.Proofs.YthfimpangfhliaaGreatDoor.Vm
open Go
set_option maxRecDepth 100000
set_option linter.unusedSimpArgs false
set_option linter.unusedVariables false
attribute [-simp] List.getD_eq_getElem?_getD
def adL (c:List En)(q:Int)(t:ByteArray):Nat→List En
  | 0=>[]
  | p+1=>adL c q t p++(ofP c p c.length++if (p:Int)=q then [nextE c q t] else [])
def addE (c:List En)(q:Int)(t:ByteArray):Int:=if valE c≠0 then valE c else if (decide (0≤q∧q≤2)&&rightB t)=false then 1 else if 60≤c.length then 4 else 0
def addL (c:List En)(q:Int)(t:ByteArray):List En:=if addE c q t=0 then adL c q t 3 else []
section
variable {α:Type}{k n:Nat}{c:Cod α k}{H:Hp}{v:V}{l:List α}
end
section
variable {lim:Nat}{H:Hp}{K:V→Hp→Prop}{v w:V}{c l:List En}{e f:En}{x y u q:Int}{t:ByteArray}
end
end Go.Proofs.YthfimpangfhliaaGreatDoor.Vm
namespace Go.Proofs.YthfimpangfhliaaGreatDoor.Vm
open Go
set_option maxRecDepth 100000
set_option linter.unusedSimpArgs false
set_option linter.unusedVariables false
attribute [-simp] List.getD_eq_getElem?_getD
section
variable {lim:Nat}{H:Hp}{K:V→Hp→Prop}{v w:V}{c l:List En}{e f:En}{x y u q:Int}{t:ByteArray}
end
end Go.Proofs.YthfimpangfhliaaGreatDoor.Vm
namespace Go.Proofs.YthfimpangfhliaaGreatDoor.Vm
open Go
set_option maxRecDepth 100000
set_option linter.unusedSimpArgs false
set_option linter.unusedVariables false
attribute [-simp] List.getD_eq_getElem?_getD
def numB (b:List En)(x:En)(j:Nat):Bool := !(decide ((b.getD j default).p=x.p)&&decide ((b.getD j default).s=x.s))
def hasN (b:List En)(x:En):Bool := !allN (numB b x) b.length
def eqB (b:List En)(x:En)(j:Nat):Bool := !enEq x (b.getD j default)
def hasQ (b:List En)(x:En):Bool := !allN (eqB b x) b.length
def okM (a b:List En)(i:Nat):Bool := !hasN b (a.getD i default)||hasQ b (a.getD i default)
def cmpE (a b:List En):Int:=if valE a≠0 then valE a else if valE b≠0 then valE b else if allN (okM a b) a.length=false then 12 else 0
def bothL (a b:List En)(n:Nat):List En:=filE (fun i=>hasN b (a.getD i default)) a n
def firstL (a b:List En)(n:Nat):List En:=filE (fun i => !hasN b (a.getD i default)) a n
section
variable {lim:Nat}{H:Hp}{K:V→Hp→Prop}{v w:V}{a b:List En}{x y z:Int}
end
end Go.Proofs.YthfimpangfhliaaGreatDoor.Vm
namespace Go.Proofs.YthfimpangfhliaaGreatDoor.Vm
open Go
set_option maxRecDepth 100000
set_option linter.unusedSimpArgs false
set_option linter.unusedVariables false
attribute [-simp] List.getD_eq_getElem?_getD
section
variable {α:Type}{k n:Nat}{c:Cod α k}{H:Hp}{v:V}{l:List α}
end
def merE (a b:List En):Int:=if cmpE a b≠0 then cmpE a b else if 60<(bothL a b a.length).length+(firstL a b a.length).length+(firstL b a b.length).length then 4 else 0
def relP (a b:List En):Int:=if cmpE a b≠0 then 0 else if 0<(firstL a b a.length).length∧0<(firstL b a b.length).length then 3 else if 0<(firstL a b a.length).length then 1 else if 0<(firstL b a b.length).length then 2 else 0
def meetL (a b:List En):List En:=if cmpE a b=0 then bothL a b a.length else []
section
variable {lim:Nat}{H:Hp}{K:V→Hp→Prop}{v w:V}{a b:List En}{x y z:Int}
end
end Go.Proofs.YthfimpangfhliaaGreatDoor.Vm
namespace Go.Proofs.YthfimpangfhliaaGreatDoor.Vm
open Go
set_option maxRecDepth 100000
set_option linter.unusedSimpArgs false
set_option linter.unusedVariables false
attribute [-simp] List.getD_eq_getElem?_getD
def mgL (a b:List En):Nat→List En
  | 0=>[]
  | p+1=>mgL a b p++(ofP a p a.length++ofP (firstL b a b.length) p (firstL b a b.length).length)
end Go.Proofs.YthfimpangfhliaaGreatDoor.Vm
namespace Go.Proofs.YthfimpangfhliaaGreatDoor.Vm
open Go
set_option maxRecDepth 100000
set_option linter.unusedSimpArgs false
set_option linter.unusedVariables false
attribute [-simp] List.getD_eq_getElem?_getD
def pB (a b:List En)(i k:Nat):Bool := !(decide ((a.getD i default).p=(b.getD k default).p)&&decide ((a.getD i default).s=(b.getD k default).s) && !enEq (a.getD i default) (b.getD k default))
section
variable {lim:Nat}{H:Hp}{K:V→Hp→Prop}{v w:V}{a b:List En}{e:En}{x y z:Int}
end
def merL (a b:List En):List En:=if merE a b=0 then mgL a b 3 else []
section
variable {lim:Nat}{H:Hp}{K:V→Hp→Prop}{v w:V}{a b:List En}{e:En}{x y z:Int}
end
section
variable {lim:Nat}{H:Hp}{K:V→Hp→Prop}{v w:V}{a b l:List En}{e:En}{x y z:Int}
end
end Go.Proofs.YthfimpangfhliaaGreatDoor.Vm
namespace Go.Proofs.YthfimpangfhliaaGreatDoor.Vm
open Go
set_option linter.unusedVariables false
set_option linter.unusedSimpArgs false
set_option maxRecDepth 100000
def blk (s:ByteArray):Int:=Lib.indexByte s.data.toList 32
def wordP (s:ByteArray):ByteArray:=if 0≤blk s then s.extract 0 (blk s).toNat else s
def restP (s:ByteArray):ByteArray:=if 0≤blk s then s.extract ((blk s).toNat+1) s.size else ⟨#[]⟩
theorem ixB_lt:∀(l:List UInt8) (c:UInt8),Lib.indexByte l c<l.length∨Lib.indexByte l c = -1:=by
  intro l c
  have h0:=Lib.indexByte_ge l c
  by_cases h:Lib.indexByte l c = -1
  · exact Or.inr h
  · have h1:Lib.indexByte l c=((Lib.indexByte l c).toNat:Int):=by omega
    obtain ⟨h2,_⟩:=Lib.indexByte_some h1
    have h3:(Lib.indexByte l c).toNat<l.length:=by
      by_cases h4:(Lib.indexByte l c).toNat<l.length
      · exact h4
      · rw [List.getElem?_eq_none (by omega)] at h2;cases h2
    left;omega
theorem blk_lt {s:ByteArray}(h:0≤blk s):(blk s).toNat<s.size:=by
  rcases ixB_lt s.data.toList 32 with h1 | h1
  · have:(s.data.toList.length:Int)=s.size:=by simp
    unfold blk at *;omega
  · unfold blk at h;omega
section
variable {lim:Nat}{H:Hp}{K:V→Hp→Prop}{s:ByteArray}
theorem index_t (hK:K (.int .i64 (blk s)) H):VCall tbl lim 63 [.str s,.str ⟨#[32]⟩] H K:=by
  refine VCall_prim (g:=pIndex) (bs:=[]) tbl_at63 rfl rfl (v:=.int .i64 (blk s)) rfl (by simpa using hK)
theorem cut_t (hs:s.size≤1000)(hK:K (.tup [.str (wordP s),.str (restP s),.bool (decide (0≤blk s))]) H):VCall tbl lim 29 [.str s,.str ⟨#[32]⟩] H K:=by
  refine VCall_fn tbl_at29 rfl ?_
  simp [vf29]
  refine VCall_fn tbl_at47 rfl ?_
  simp [vf47]
  refine index_t ?_
  simp
  have hsz:((⟨#[32]⟩:ByteArray).size:Int)=1:=rfl
  by_cases h:0≤blk s
  · have hl:=blk_lt h
    obtain ⟨n,hn⟩:∃n:Nat,blk s=n:=⟨(blk s).toNat,by omega⟩
    have hn':n<s.size:=by rw [hn] at hl;simpa using hl
    have v1:vslT (.str s) none (some (.int .i64 (n:Int)))=some (.str (wordP s)):=by
      simp only [vslT,vbounds_hi (show n≤s.size by omega),wordP,hn,Int.toNat_natCast]
      rw [if_pos (by omega)]
    have v2:vslT (.str s) (some (.int .i64 ((n:Int)+1))) none=some (.str (restP s)):=by
      have e:(n:Int)+1=((n+1:Nat):Int):=by omega
      rw [e]
      simp only [vslT,vbounds_lo (show n+1≤s.size by omega),restP,hn,Int.toNat_natCast]
      rw [if_pos (by omega)]
    have hz:(0:Int)≤(n:Int):=by omega
    rw [hn] at hK ⊢
    simp (disch:=omega) [hz,hsz,v1,v2,wrap_i64] at hK ⊢
    exact hK
  · have e1:wordP s=s:=by simp only [wordP,if_neg h]
    have e2:restP s=⟨#[]⟩:=by simp only [restP,if_neg h]
    rw [e1,e2] at hK
    simp [h] at hK ⊢
    exact hK
end
def letB (s:ByteArray)(i:Nat):Bool:=decide (97≤chT s i∧chT s i≤122)
def digB (s:ByteArray)(i:Nat):Bool:=decide (48≤chT s i∧chT s i≤57)
def nmB (s:ByteArray)(i:Nat):Bool:=letB s i||(digB s i&&decide (i≠0))
def nameP (s:ByteArray):Bool:=allN (nmB s) s.size&&decide (1≤s.size∧s.size≤8)
section
variable {lim:Nat}{H:Hp}{K:V→Hp→Prop}{s:ByteArray}
theorem isName_t (hs:s.size≤1000) (hK:∀H',HX H H'→K (.bool (nameP s)) H'):VCall tbl lim 30 [.str s] H K:=by
  refine VCall_fn tbl_at30 rfl ?_
  simp [vf30]
  have hb:=bytesV (H:=H) (s:=s)
  have hx:HX H (H++[.row (vbytesL s) true]):=HX.push
  have hbl:=hb.len
  simp only [bytesN_len] at hbl
  generalize V.sl H.length 0 s.size 1=bv at hb hbl
  generalize H++[Blk.row (vbytesL s) true]=H1 at hb hx
  refine wLoop_up s.size (fun i fr L H'=>(fr 0=.str s∧fr 8=bv∧fr 9=.int .i64 s.size∧fr 10=.int .i64 i)∧H'=H1∧allN (nmB s) i=true) ⟨by simp,rfl,rfl⟩ ?_
  rintro i hi fr L H' ⟨⟨f0,f8,f9,f10⟩,e0,hz⟩
  have e0:=e0.symm
  subst e0
  simp [f0,f8,f9,f10]
  refine cond_dec (fun ht => ?_) fun hfl => ?_
  · have ht:i<s.size:=by omega
    have hl:i<(bytesN s).length:=by rw [bytesN_len];exact ht
    have hg:vload none L H1 (ept 1 bv i)=some (.int .u8 (chT s i:Nat)):=by rw [hb.load1 hl];simp only [byC,bytesN_get ht];rfl
    rcases (by omega:chT s i<48∨(48≤chT s i∧chT s i≤57)∨(58≤chT s i∧chT s i≤96)∨(97≤chT s i∧chT s i≤122)∨122<chT s i) with hr | hr | hr | hr | hr
    · have d1:(97≤(chT s i:Int))=False:=eq_false (by omega)
      have d2:((chT s i:Int)≤122)=True:=eq_true (by omega)
      have d3:(48≤(chT s i:Int))=False:=eq_false (by omega)
      have d4:((chT s i:Int)≤57)=True:=eq_true (by omega)
      have e:nmB s i=false:=by simp [nmB,letB,digB];omega
      rw [show nameP s=false by simp [nameP,allN_not ht e]] at hK
      simp (disch:=omega) [f0,f8,f9,f10,hb.at hl,hg,d1,d2,d3,d4]
      exact hK _ hx
    · have d1:(97≤(chT s i:Int))=False:=eq_false (by omega)
      have d2:((chT s i:Int)≤122)=True:=eq_true (by omega)
      have d3:(48≤(chT s i:Int))=True:=eq_true (by omega)
      have d4:((chT s i:Int)≤57)=True:=eq_true (by omega)
      by_cases h0:i=0
      · have h0':(i=0)=True:=eq_true h0
        have e:nmB s i=false:=by simp [nmB,letB,digB];omega
        rw [show nameP s=false by simp [nameP,allN_not ht e]] at hK
        simp (disch:=omega) [f0,f8,f9,f10,hb.at hl,hg,d1,d2,d3,d4,h0']
        exact hK _ hx
      · have e:nmB s i=true:=by simp [nmB,letB,digB];omega
        simp (disch:=omega) [f0,f8,f9,f10,hb.at hl,hg,d1,d2,d3,d4,h0,wrap_i64,allN,e,hz]
        omega
    · have d1:(97≤(chT s i:Int))=False:=eq_false (by omega)
      have d2:((chT s i:Int)≤122)=True:=eq_true (by omega)
      have d3:(48≤(chT s i:Int))=True:=eq_true (by omega)
      have d4:((chT s i:Int)≤57)=False:=eq_false (by omega)
      have e:nmB s i=false:=by simp [nmB,letB,digB];omega
      rw [show nameP s=false by simp [nameP,allN_not ht e]] at hK
      simp (disch:=omega) [f0,f8,f9,f10,hb.at hl,hg,d1,d2,d3,d4]
      exact hK _ hx
    · have d1:(97≤(chT s i:Int))=True:=eq_true (by omega)
      have d2:((chT s i:Int)≤122)=True:=eq_true (by omega)
      have d3:(48≤(chT s i:Int))=True:=eq_true (by omega)
      have d4:((chT s i:Int)≤57)=False:=eq_false (by omega)
      have e:nmB s i=true:=by simp [nmB,letB,digB];omega
      simp (disch:=omega) [f0,f8,f9,f10,hb.at hl,hg,d1,d2,d3,d4,wrap_i64,allN,e,hz]
      omega
    · have d1:(97≤(chT s i:Int))=True:=eq_true (by omega)
      have d2:((chT s i:Int)≤122)=False:=eq_false (by omega)
      have d3:(48≤(chT s i:Int))=True:=eq_true (by omega)
      have d4:((chT s i:Int)≤57)=False:=eq_false (by omega)
      have e:nmB s i=false:=by simp [nmB,letB,digB];omega
      rw [show nameP s=false by simp [nameP,allN_not ht e]] at hK
      simp (disch:=omega) [f0,f8,f9,f10,hb.at hl,hg,d1,d2,d3,d4]
      exact hK _ hx
  have:i=s.size:=by omega
  subst this
  rw [show nameP s=decide (1≤s.size∧s.size≤8) by simp [nameP,hz]] at hK
  simp [f0]
  have e:(decide ((1:Int)≤s.size)&&decide ((s.size:Int)≤8))=decide (1≤s.size∧s.size≤8):=by rw [Bool.eq_iff_iff];simp;omega
  rw [e]
  exact hK _ hx
end
inductive Dd where
  | cut (n:Int) | wash | bleach | dye (t:ByteArray)
def Dd.val:Dd→V
  | .cut n=>.iface dCut (.agg [.int .i64 n])
  | .wash=>.iface dWash (.agg [])
  | .bleach=>.iface dBleach (.agg [])
  | .dye t=>.iface dDye (.agg [.str t])
def resD:Option Dd→V
  | some d=>.tup [d.val,.bool true]
  | none=>.tup [.inil,.bool false]
def tWash:ByteArray:=⟨#[119,97,115,104]⟩
def tBleach:ByteArray:=⟨#[98,108,101,97,99,104]⟩
def tDye:ByteArray:=⟨#[100,121,101]⟩
def tCut:ByteArray:=⟨#[99,117,116]⟩
def okN (s:ByteArray)(n:Int):Bool:=decide (1≤n∧n≤99)&&decide (bA (Lib.decDigits n.toNat)=s)
def inchP (s:ByteArray):Option Int:=match Lib.atoiAll s.data.toList with
  | .ok n=>if okN s n then some n else none
  | _=>none
def deedP (s:ByteArray):Option Dd :=
  if s=tWash then some .wash else if s=tBleach then some .bleach
  else if wordP s=tDye∧nameP (restP s)=true then some (.dye (restP s))
  else if wordP s=tCut then (inchP (restP s)).map .cut else none
theorem rest_len {s:ByteArray}:(restP s).size≤s.size:=by
  unfold restP
  split
  · simp
  · exact Nat.zero_le _
theorem veqS_t {a b:ByteArray}(h:a=b):vbin .eql (.str a) (.str b)=some (.bool true):=by subst h;simp [vbin]
theorem veqS_f {a b:ByteArray}(h:¬a=b):vbin .eql (.str a) (.str b)=some (.bool false):=by
  have h':¬a.toList=b.toList:=fun e=>h (by
    rw [Lib.toList_data,Lib.toList_data] at e
    cases a;cases b
    simpa using e)
  simp [vbin,h']
section
variable {lim:Nat}{H:Hp}{K:V→Hp→Prop}{s:ByteArray}
theorem deedOf_t (hg:HX glHp H)(hlim:lim≤H.length)(hs:s.size≤1000)(hK:∀H',HX H H'→K (resD (deedP s)) H'):VCall tbl lim 12 [.str s] H K:=by
  refine VCall_fn tbl_at12 rfl ?_
  simp [vf12]
  refine cut_t hs ?_
  have hr:=rest_len (s:=s)
  by_cases h1:s=tWash
  · have e:deedP s=some .wash:=by simp [deedP,h1]
    rw [e] at hK
    have k1:=veqS_t (show s=⟨#[119,97,115,104]⟩ from h1)
    simp [k1]
    exact hK _ (.refl)
  have k1:=veqS_f (show ¬s=⟨#[119,97,115,104]⟩ from h1)
  by_cases h2:s=tBleach
  · have e:deedP s=some .bleach:=by simp [deedP,h1,h2,tWash,tBleach]
    rw [e] at hK
    have k2:=veqS_t (show s=⟨#[98,108,101,97,99,104]⟩ from h2)
    simp [k1,k2]
    exact hK _ (.refl)
  have k2:=veqS_f (show ¬s=⟨#[98,108,101,97,99,104]⟩ from h2)
  have hd:deedP s=if wordP s=tDye∧nameP (restP s)=true then some (.dye (restP s)) else if wordP s=tCut then (inchP (restP s)).map .cut else none:=by simp [deedP,h1,h2]
  rw [hd] at hK
  clear hd
  generalize wordP s=w at *
  generalize restP s=q at *
  by_cases h3:w=tDye
  · have k3:=veqS_t (show w=⟨#[100,121,101]⟩ from h3)
    simp [k1,k2,k3]
    refine isName_t (by omega) fun H1 x1 => ?_
    by_cases h4:nameP q=true
    · rw [if_pos ⟨h3,h4⟩] at hK
      simp [h4]
      exact hK _ x1
    · rw [if_neg (fun h=>h4 h.2),if_neg (by rw [h3];decide)] at hK
      have k4:=veqS_f (show ¬w=⟨#[99,117,116]⟩ by rw [h3];decide)
      simp [show nameP q=false by simpa using h4,k4]
      exact hK _ x1
  have k3:=veqS_f (show ¬w=⟨#[100,121,101]⟩ from h3)
  rw [if_neg (fun h=>h3 h.1)] at hK
  by_cases h4:w=tCut
  case neg =>
    rw [if_neg h4] at hK
    have k4:=veqS_f (show ¬w=⟨#[99,117,116]⟩ from h4)
    simp [k1,k2,k3,k4]
    exact hK _ .refl
  rw [if_pos h4] at hK
  have k4:=veqS_t (show w=⟨#[99,117,116]⟩ from h4)
  simp [k1,k2,k3,k4]
  refine atoi_t hg (by omega) (fun n hn => ?_) fun hno x => ?_
  · by_cases c1:1≤n
    case neg =>
      have e:inchP q=none:=by simp [inchP,hn,okN,c1]
      rw [e] at hK
      simp [c1]
      exact hK _ .refl
    by_cases c2:n≤99
    case neg =>
      have e:inchP q=none:=by simp [inchP,hn,okN,c2]
      rw [e] at hK
      simp [c1,c2]
      exact hK _ .refl
    simp [c1,c2]
    obtain ⟨m,rfl⟩:∃m:Nat,n=m:=⟨n.toNat,by omega⟩
    refine itoa_t hg (by omega) (by omega) fun H1 x1 => ?_
    by_cases c3:bA (Lib.decDigits m)=q
    · have e:inchP q=some (m:Int):=by simp [inchP,hn,okN,c1,c2,c3]
      rw [e] at hK
      simp [veqS_t c3]
      exact hK _ x1
    · have e:inchP q=none:=by simp [inchP,hn,okN,c3]
      rw [e] at hK
      simp [veqS_f c3]
      exact hK _ x1
  · have e:inchP q=none:=by
      unfold inchP
      split
      · rename_i n hn;exact absurd hn (hno n)
      · rfl
    rw [e] at hK
    simp
    exact hK _ HX.push
end
end Go.Proofs.YthfimpangfhliaaGreatDoor.Vm
namespace Go.Proofs.YthfimpangfhliaaGreatDoor.Vm
open Go
set_option linter.unusedVariables false
set_option linter.unusedSimpArgs false
set_option maxRecDepth 100000
structure Hs where
  a:Int
  b:Int
  c:Int
  s:ByteArray
def Hs.v (h:Hs):List V:=[.int .i64 h.a,.int .i64 h.b,.int .i64 h.c,.str h.s]
theorem Hs.vlen (h:Hs):h.v.length=4:=rfl
theorem Hs.spl (h k:Hs):splice h.v 0 k.v=k.v:=rfl
theorem Hs.rdv (h:Hs):rd (some 4) h.v 0=some (.agg h.v):=rfl
def Hs.zero:Hs:=⟨0,0,0,⟨#[]⟩⟩
def Hs.by (h:Hs):Dd→Hs
  | .cut n=>⟨h.a+n,h.b,h.c,h.s⟩
  | .wash=>⟨h.a,h.b+1,h.c,h.s⟩
  | .bleach=>⟨h.a,0,h.c+1,h.s⟩
  | .dye t=>⟨h.a,0,h.c,t⟩
def Hs.step (h:Hs)(t:ByteArray):Hs:=match deedP t with
  | some d=>h.by d
  | none=>h
def foldN (c:List En)(o:List Int):Nat→Hs
  | 0=>Hs.zero
  | k+1=>(foldN c o k).step (c.getD (o.getD k 0).toNat default).t
def Hs.small (h:Hs)(k:Nat):Prop:=0≤h.a∧h.a≤99*k∧0≤h.b∧h.b≤k∧0≤h.c∧h.c≤k
theorem deed_cut {t:ByteArray}{n:Int}(h:deedP t=some (.cut n)):1≤n∧n≤99:=by
  unfold deedP at h
  repeat' split at h
  all_goals first | (cases h;done) | skip
  simp only [Option.map_eq_some_iff] at h
  obtain ⟨m,hm,e⟩:=h
  cases e
  unfold inchP at hm
  split at hm
  case h_2=>cases hm
  split at hm
  case isFalse=>cases hm
  rename_i hok
  cases hm
  simp [okN] at hok
  exact hok.1
theorem Hs.small_by {h:Hs}{d:Dd}{k:Nat}(hs:h.small k)(hd:∀n,d=.cut n→1≤n∧n≤99):(h.by d).small (k+1):=by
  obtain ⟨h1,h2,h3,h4,h5,h6⟩:=hs
  cases d with
  | cut n=>have:=hd n rfl;refine ⟨?_,?_,?_,?_,?_,?_⟩<;>simp only [Hs.by]<;>omega
  | _=>refine ⟨?_,?_,?_,?_,?_,?_⟩<;>simp only [Hs.by]<;>omega
theorem Hs.small_step {h:Hs}{t:ByteArray}{k:Nat}(hs:h.small k):(h.step t).small (k+1):=by
  unfold Hs.step
  split
  · rename_i d hd
    exact Hs.small_by hs fun n e=>deed_cut (e ▸ hd)
  · obtain ⟨h1,h2,h3,h4,h5,h6⟩:=hs
    exact ⟨h1,by omega,h3,by omega,h5,by omega⟩
theorem foldN_small {c:List En}{o:List Int}:∀k,(foldN c o k).small k
  | 0=>by simp [Hs.small,foldN,Hs.zero]
  | k+1=>Hs.small_step (foldN_small k)
section
variable {lim:Nat}{H:Hp}{K:V→Hp→Prop}
theorem after_t {h:Hs}{d:Dd}{k:Nat}(hs:h.small k)(hk:k≤100000)(hd:∀n,d=.cut n→1≤n∧n≤99)(hK:K (.agg (h.by d).v) H):VCall tbl lim 13 [.agg h.v,d.val] H K:=by
  obtain ⟨h1,h2,h3,h4,h5,h6⟩:=hs
  have hg:gAfter [.agg h.v,d.val]=some (.agg (h.by d).v):=by
    cases d with
    | cut n =>
      have:=hd n rfl
      have w:RowKit.wrap64 (h.a+n)=h.a+n:=by unfold RowKit.wrap64;omega
      simp [gAfter,Hs.v,Dd.val,Hs.by,w]
    | wash =>
      have w:RowKit.wrap64 (h.b+1)=h.b+1:=by unfold RowKit.wrap64;omega
      simp [gAfter,Hs.v,Dd.val,Hs.by,w]
    | bleach =>
      have w:RowKit.wrap64 (h.c+1)=h.c+1:=by unfold RowKit.wrap64;omega
      simp [gAfter,Hs.v,Dd.val,Hs.by,w]
    | dye t=>simp [gAfter,Hs.v,Dd.val,Hs.by]
  exact VCall_prim (g:=pAfter) (bs:=[]) tbl_at13 rfl rfl (v:=.agg (h.by d).v) (by simp only [pAfter,hg]) (by simpa using hK)
theorem card_Fold {v:V}{c:List En}(hg:HX glHp H)(hc:LstV enC H v c)(hsh:shortC c)(hlim:lim≤H.length)
    (hK:∀H',HX H H'→K (.tup [.agg (foldN c (ordR c) (ordR c).length).v,.int .i64 (valE c)]) H'):VCall tbl lim 6 [v] H K:=by
  refine VCall_fn tbl_at6 rfl ?_
  simp [vf6,hc.stor]
  refine card_Order hc hsh (by omega) fun H1 w x1 ho => ?_
  by_cases hv:valE c=0
  case neg =>
    have e:ordR c=[]:=by simp [ordR,hv]
    rw [e] at hK
    have e2:∀c:List En,rd (some 4) (splice [V.int .i64 0,V.int .i64 0,V.int .i64 0,V.str ⟨#[]⟩] 0 [V.int .i64 0,V.int .i64 0,V.int .i64 0,V.str ⟨#[]⟩]) 0=some (.agg (foldN c [] 0).v):=fun _=>rfl
    simp [hv,e2 c]
    exact hK _ x1
  have hos:=ho.sl
  have hol:=hos.len
  have hst:=hos.stor
  have hcell:∀i,i<(ordR c).length→∃m:Nat,(ordR c).getD i 0=m∧m<c.length:=by
    intro i hi
    have hm:(ordR c).getD i 0∈ordR c:=by
      rw [List.getD_eq_getElem?_getD,List.getElem?_eq_getElem hi]
      exact List.getElem_mem hi
    have e:ordR c=ordN c 181:=by simp [ordR,hv]
    generalize (ordR c).getD i 0=x at *
    rw [e] at hm
    obtain ⟨m,h1,h2,_⟩:=ordN_mem.1 hm
    exact ⟨m,h1,h2⟩
  have hll:=ordR_len (c:=c)
  generalize ordR c=o at *
  simp [hv,hst,hol]
  refine wLoop_up o.length (fun i fr L H'=>(fr 0=v∧fr 20=w∧fr 21=.int .i64 o.length∧fr 22=.int .i64 i∧fr 2=.lp 0 0∧fr 6=.lp 1 0)∧(∃X,L=Hs.zero.v :: (foldN c o i).v :: X)∧HX H1 H') ⟨by simp,⟨[],rfl⟩,HX.refl⟩ ?_
  rintro i hi fr L H' ⟨⟨f0,f20,f21,f22,f2,f6⟩,⟨X,rfl⟩,x2⟩
  simp [f0,f20,f21,f22,f2,f6]
  refine cond_dec (fun ht => ?_) fun hfl => ?_
  · have ht:i<o.length:=by omega
    obtain ⟨m,hm,hmc⟩:=hcell i ht
    have hc2:=hc.mono (x1.trans x2)
    have hos2:=hos.mono x2
    have a1:=hos2.addr (i:=(i:Int)) (by omega)
    have a2:=hos2.load ht (L:=Hs.zero.v :: (foldN c o i).v :: X)
    have a3:=hc2.at hmc
    have a4:=hc2.faddr (j:=5) hmc
    have a5:vload none (Hs.zero.v :: (foldN c o i).v :: X) H' (eptf 6 v m 5)=some (.str (c.getD m default).t):=(hc2.rd1 hmc (by omega)).trans rfl
    rw [hm] at a2
    simp only [Int.toNat_natCast] at a1
    have hts:=hsh.2 m hmc
    have hsm:=foldN_small (c:=c) (o:=o) i
    have hstep:foldN c o (i+1)=(foldN c o i).step (c.getD m default).t:=by simp only [foldN,hm,Int.toNat_natCast]
    generalize (c.getD m default).t=t at a5 hts hstep
    simp (disch:=omega) [f0,f20,f21,f22,f2,f6,a1,a2,a3,a4,a5]
    refine deedOf_t (hg.trans (x1.trans x2)) (by have:=(x1.trans x2).len;omega) (by omega) fun H2 x3 => ?_
    cases hd:deedP t with
    | none =>
      have e:foldN c o (i+1)=foldN c o i:=by rw [hstep];simp only [Hs.step,hd]
      simp (disch:=omega) [resD,f0,f20,f21,f22,f2,f6,wrap_i64,e]
      exact ⟨ht,x2.trans x3⟩
    | some d =>
      have e:foldN c o (i+1)=(foldN c o i).by d:=by rw [hstep];simp only [Hs.step,hd]
      have dst:stor d.val=true:=by cases d<;>rfl
      simp (disch:=omega) [resD,f0,f20,f21,f22,f2,f6,Hs.rdv,dst]
      refine after_t hsm (by omega) (fun n e=>deed_cut (t:=t) (by rw [hd,e])) ?_
      simp (disch:=omega) [f0,f20,f21,f22,f2,f6,Hs.rdv,Hs.vlen,Hs.spl,wrap_i64,e]
      exact ⟨ht,x2.trans x3⟩
  have:i=o.length:=by omega
  subst this
  simp [f2,f6,Hs.rdv,Hs.vlen,Hs.spl]
  rw [←hv]
  exact hK _ (x1.trans x2)
end
end Go.Proofs.YthfimpangfhliaaGreatDoor.Vm
namespace Go.Proofs.YthfimpangfhliaaGreatDoor.Vm
open Go
set_option linter.unusedVariables false
set_option linter.unusedSimpArgs false
set_option maxRecDepth 100000
def cutS (q:ByteArray):Nat→Int
  | 0=>0
  | k+1=>cutS q k+if q=bA (Lib.decDigits (k+1)) then ((k+1:Nat):Int) else 0
theorem cutS_no {q:ByteArray}:∀{k:Nat},(∀j,1≤j→j≤k→q≠bA (Lib.decDigits j))→cutS q k=0
  | 0,_=>rfl
  | k+1,h=>by
    rw [cutS,cutS_no fun j h1 h2=>h j h1 (by omega),if_neg (h (k+1) (by omega) (Nat.le_refl _))]
    rfl
theorem cutS_yes {q:ByteArray} {m:Nat} (hm:1≤m) (hq:q=bA (Lib.decDigits m)):∀{k:Nat},m≤k→k≤1000→cutS q k=m
  | 0,h,_=>absurd h (by omega)
  | k + 1,h,hk=>by
    by_cases e:m=k+1
    · subst e
      rw [cutS,if_pos hq,cutS_no fun j h1 h2 e => ?_]
      · simp
      · rw [hq] at e
        have:=dd_inj (by omega) (by omega) (bA_inj e)
        omega
    · rw [cutS,cutS_yes hm hq (by omega) (by omega),if_neg fun e2 => ?_]
      · simp
      · rw [hq] at e2
        exact e (dd_inj (by omega) (by omega) (bA_inj e2))
theorem inch_some {q:ByteArray}{n:Int}(h:inchP q=some n):1≤n∧n≤99∧q=bA (Lib.decDigits n.toNat):=by
  unfold inchP at h
  split at h
  case h_2=>cases h
  split at h
  case isFalse=>cases h
  rename_i hok
  cases h
  simp [okN] at hok
  exact ⟨hok.1.1,hok.1.2,hok.2.symm⟩
theorem inch_dd {m:Nat}(h1:1≤m)(h2:m≤99):inchP (bA (Lib.decDigits m))=some (m:Int):=by
  have e:(bA (Lib.decDigits m)).data.toList=Lib.decDigits m:=by simp [bA]
  unfold inchP
  rw [e,atoi_dd (by omega)]
  simp [okN]
  omega
theorem cutS_99 {q:ByteArray}:cutS q 99=(inchP q).getD 0:=by
  cases h:inchP q with
  | some n =>
    obtain ⟨h1,h2,h3⟩:=inch_some h
    rw [cutS_yes (m:=n.toNat) (by omega) h3 (by omega) (by omega)]
    simp;omega
  | none =>
    rw [cutS_no fun j h1 h2 e => ?_]
    · rfl
    · rw [e,inch_dd h1 h2] at h;cases h
def begP (s p:ByteArray):Prop:=p.size≤s.size∧s.extract 0 p.size=p
instance {s p:ByteArray}:Decidable (begP s p):=inferInstanceAs (Decidable (_∧_))
theorem ext_list {s:ByteArray}{a b:Nat}:(s.extract a b).data.toList=(s.data.toList.take b).drop a:=by
  rw [ext_bA];simp [bA]
theorem ba_ext {s t:ByteArray}(h:s.data.toList=t.data.toList):s=t:=by
  cases s;cases t
  simpa using h
theorem ba_len (s:ByteArray):s.data.toList.length=s.size:=by
  show s.data.toList.length=s.data.size
  simp
theorem beg_list {s p:ByteArray}:begP s p↔∃r,s.data.toList=p.data.toList++r:=by
  constructor
  · rintro ⟨h1,h2⟩
    have:=congrArg (fun x:ByteArray=>x.data.toList) h2
    simp only [ext_list,List.drop_zero] at this
    exact ⟨s.data.toList.drop p.size,by rw [←this];simp⟩
  · rintro ⟨r,h⟩
    have e:s.size=p.size+r.length:=by rw [←ba_len s,h,List.length_append,ba_len]
    refine ⟨by omega,ba_ext ?_⟩
    rw [ext_list,h,←ba_len p]
    simp
def tCutB:ByteArray:=⟨#[99,117,116,32]⟩
def tDyeB:ByteArray:=⟨#[100,121,101,32]⟩
theorem blk_word {s p:ByteArray}(h3:p.size=3)(hp:(32:UInt8)∉p.data.toList)(hw:wordP s=p):s=p∨∃r,s.data.toList=p.data.toList++32 :: r:=by
  unfold wordP at hw
  split at hw
  case isFalse=>exact Or.inl hw
  rename_i h
  right
  have hl:=blk_lt h
  have h1:blk s=((blk s).toNat:Int):=by omega
  obtain ⟨h2,_⟩:=Lib.indexByte_some h1
  generalize (blk s).toNat=n at *
  have e:=congrArg (fun x:ByteArray=>x.data.toList) hw
  simp only [ext_list,List.drop_zero] at e
  have hn:n<s.data.toList.length:=by rw [ba_len];exact hl
  refine ⟨s.data.toList.drop (n+1),?_⟩
  rw [←e]
  rw [List.getElem?_eq_getElem hn] at h2
  have h2:s.data.toList[n]=32:=by simpa using h2
  rw [←h2,List.getElem_cons_drop,List.take_append_drop]
theorem ix_pre:∀{l r:List UInt8},(32:UInt8)∉l→Lib.indexByte (l++32 :: r) 32=l.length
  | [],r,_=>by simp [Lib.indexByte]
  | b :: l,r,h=>by
    have h1:¬b=32:=fun e=>h (by simp [e])
    have h2:=ix_pre (l:=l) (r:=r) fun e=>h (List.mem_cons_of_mem _ e)
    simp only [List.cons_append,Lib.indexByte,h2]
    rw [if_neg (by simpa using h1),if_neg (by simp)]
    simp
theorem ix_no:∀{l:List UInt8},(32:UInt8)∉l→Lib.indexByte l 32 = -1
  | [],_=>rfl
  | b :: l,h=>by
    have h1:¬b=32:=fun e=>h (by simp [e])
    have h2:=ix_no (l:=l) fun e=>h (List.mem_cons_of_mem _ e)
    simp only [Lib.indexByte,h2]
    rw [if_neg (by simpa using h1)]
    rfl
theorem word_self {p:ByteArray}(hp:(32:UInt8)∉p.data.toList):wordP p=p∧restP p=⟨#[]⟩:=by
  have h:blk p = -1:=ix_no hp
  simp [wordP,restP,h]
theorem word_pre {s p:ByteArray}{r:List UInt8}(hp:(32:UInt8)∉p.data.toList)(h:s.data.toList=p.data.toList++32 :: r):wordP s=p∧restP s=bA r:=by
  have hb:blk s=(p.size:Int):=by unfold blk;rw [h,ix_pre hp,ba_len]
  have hlen:s.size=p.size+1+r.length:=by rw [←ba_len s,h];simp [ba_len];omega
  constructor
  · unfold wordP
    rw [hb,if_pos (by omega)]
    refine ba_ext ?_
    rw [ext_list,h,Int.toNat_natCast,←ba_len p]
    simp
  · unfold restP
    rw [hb,if_pos (by omega)]
    refine ba_ext ?_
    rw [ext_list,h,Int.toNat_natCast,hlen]
    have e:p.data.toList++32 :: r=(p.data.toList++[32])++r:=by simp
    rw [List.take_of_length_le (by simp [ba_len];omega),e]
    have:p.size+1=(p.data.toList++[(32:UInt8)]).length:=by simp [ba_len]
    rw [this,List.drop_left]
    simp [bA]
theorem name_nil:nameP ⟨#[]⟩=false:=by decide
theorem inch_nil:inchP ⟨#[]⟩=none:=by
  cases h:inchP ⟨#[]⟩ with
  | none=>rfl
  | some n =>
    obtain ⟨_,_,h3⟩:=inch_some h
    have:=bA_inj (l:=[]) (m:=Lib.decDigits n.toNat) h3
    exact absurd this.symm (dd_ne _)
theorem beg_word {s p pb:ByteArray}(h3:p.size=3)(hp:(32:UInt8)∉p.data.toList)(hpb:pb.data.toList=p.data.toList++[32]) :
    (wordP s=p∧¬s=p)↔begP s pb:=by
  rw [beg_list,hpb]
  constructor
  · rintro ⟨h1,h2⟩
    rcases blk_word h3 hp h1 with h | ⟨r,h⟩
    · exact absurd h h2
    · exact ⟨r,by rw [h];simp⟩
  · rintro ⟨r,h⟩
    have h':s.data.toList=p.data.toList++32 :: r:=by rw [h];simp
    refine ⟨(word_pre hp h').1,fun e => ?_⟩
    rw [e] at h'
    have:=congrArg List.length h'
    simp at this
theorem rest_word {s p pb:ByteArray}(h3:p.size=3)(hp:(32:UInt8)∉p.data.toList)(hpb:pb.data.toList=p.data.toList++[32])(h:begP s pb):restP s=s.extract 4 s.size:=by
  obtain ⟨r,h⟩:=beg_list.1 h
  rw [hpb] at h
  have h':s.data.toList=p.data.toList++32 :: r:=by rw [h];simp
  rw [(word_pre hp h').2]
  refine ba_ext ?_
  have hl:(p.data.toList++[(32:UInt8)]).length=4:=by simp [ba_len,h3]
  rw [ext_list,List.take_of_length_le (by rw [ba_len];exact Nat.le_refl _),h,←hl,List.drop_left]
  simp [bA]
def Hs.cutR (h:Hs)(t:ByteArray):Hs:=if begP t tCutB then ⟨h.a+cutS (t.extract 4 t.size) 99,h.b,h.c,h.s⟩ else h
def Hs.wordR (h:Hs)(t:ByteArray):Hs:=if t=tWash then ⟨h.a,h.b+1,h.c,h.s⟩ else if t=tBleach then ⟨h.a,0,h.c+1,h.s⟩ else h
def Hs.dyeR (h:Hs)(t:ByteArray):Hs:=if begP t tDyeB∧nameP (t.extract 4 t.size)=true then ⟨h.a,0,h.c,t.extract 4 t.size⟩ else h
theorem step_R {h:Hs}{t:ByteArray}:((h.cutR t).wordR t).dyeR t=h.step t:=by
  have hc:=@beg_word t tCut tCutB rfl (by decide) rfl
  have hd:=@beg_word t tDye tDyeB rfl (by decide) rfl
  unfold Hs.step deedP
  by_cases h1:t=tWash
  · subst h1
    simp only [if_true,Hs.by]
    rw [Hs.cutR,if_neg (by decide),Hs.wordR,if_pos rfl,Hs.dyeR,if_neg (by decide)]
  rw [if_neg h1]
  by_cases h2:t=tBleach
  · subst h2
    simp only [if_true,Hs.by]
    rw [Hs.cutR,if_neg (by decide),Hs.wordR,if_neg (by decide),if_pos rfl,Hs.dyeR,if_neg (by decide)]
  rw [if_neg h2]
  have hw:∀k:Hs,k.wordR t=k:=fun k=>by rw [Hs.wordR,if_neg h1,if_neg h2]
  rw [hw]
  by_cases h3:begP t tDyeB
  · have h4:=hd.2 h3
    have h5:=@rest_word t tDye tDyeB rfl (by decide) rfl h3
    have h6:¬begP t tCutB:=fun e=>by
      have:=(hc.2 e).1
      rw [h4.1] at this
      exact absurd this (by decide)
    have h7:¬wordP t=tCut:=fun e=>by rw [h4.1] at e;exact absurd e (by decide)
    rw [Hs.cutR,if_neg h6,Hs.dyeR,←h5]
    by_cases h8:nameP (restP t)=true
    · rw [if_pos ⟨h3,h8⟩,if_pos ⟨h4.1,h8⟩];rfl
    · rw [if_neg (fun e=>h8 e.2),if_neg (fun e=>h8 e.2),if_neg h7]
  have h4:¬(wordP t=tDye∧nameP (restP t)=true):=by
    rintro ⟨e1,e2⟩
    by_cases e:t=tDye
    · rw [e,(word_self (by decide)).2,name_nil] at e2;cases e2
    · exact h3 (hd.1 ⟨e1,e⟩)
  rw [if_neg h4,Hs.dyeR,if_neg (fun e=>h3 e.1)]
  by_cases h5:begP t tCutB
  · have h6:=hc.2 h5
    rw [if_pos h6.1,Hs.cutR,if_pos h5,cutS_99,←@rest_word t tCut tCutB rfl (by decide) rfl h5]
    cases inchP (restP t) with
    | none=>simp
    | some n=>simp [Hs.by]
  rw [Hs.cutR,if_neg h5]
  by_cases h6:wordP t=tCut
  · have e:t=tCut:=Classical.byContradiction fun e=>h5 (hc.1 ⟨h6,e⟩)
    rw [if_pos h6,e,(word_self (by decide)).2,inch_nil]
    rfl
  · rw [if_neg h6]
end Go.Proofs.YthfimpangfhliaaGreatDoor.Vm
namespace Go.Proofs.YthfimpangfhliaaGreatDoor.Vm
open Go
set_option linter.unusedVariables false
set_option linter.unusedSimpArgs false
set_option maxRecDepth 100000
theorem vneS_t {a b:ByteArray}(h:a=b):vbin .neq (.str a) (.str b)=some (.bool false):=by subst h;simp [vbin]
theorem vneS_f {a b:ByteArray}(h:¬a=b):vbin .neq (.str a) (.str b)=some (.bool true):=by
  have h':¬a.toList=b.toList:=fun e=>h (by
    rw [Lib.toList_data,Lib.toList_data] at e
    cases a;cases b
    simpa using e)
  simp [vbin,h']
def begR (s p:ByteArray):ByteArray:=if begP s p then s.extract p.size s.size else ⟨#[]⟩
def ldB (s:ByteArray)(i:Nat):Bool:=letB s i||digB s i
theorem nameP_iff {s:ByteArray}:nameP s=true↔1≤s.size∧s.size≤8∧letB s 0=true∧allN (ldB s) s.size=true:=by
  constructor
  · intro h
    simp only [nameP,Bool.and_eq_true,decide_eq_true_eq] at h
    obtain ⟨h1,h2,h3⟩:=h
    refine ⟨h2,h3,?_,allN_of fun i hi => ?_⟩
    · have:=allN_at h1 (show 0<s.size by omega)
      simpa [nmB] using this
    · have:=allN_at h1 hi
      simp only [nmB,Bool.or_eq_true,Bool.and_eq_true] at this
      simp only [ldB,Bool.or_eq_true]
      exact this.imp id And.left
  · rintro ⟨h1,h2,h3,h4⟩
    simp only [nameP,Bool.and_eq_true,decide_eq_true_eq]
    refine ⟨allN_of fun i hi => ?_,h1,h2⟩
    by_cases h0:i=0
    · subst h0;simp [nmB,h3]
    · have:=allN_at h4 hi
      simp only [ldB,Bool.or_eq_true] at this
      simp only [nmB,Bool.or_eq_true,Bool.and_eq_true,decide_eq_true_eq]
      exact this.imp id fun h=>⟨h,h0⟩
section
variable {lim:Nat}{H:Hp}{K:V→Hp→Prop}{s p:ByteArray}
theorem ref_begins (hK:K (.tup [.str (begR s p),.bool (decide (begP s p))]) H):VCall tbl lim 37 [.str s,.str p] H K:=by
  refine VCall_fn tbl_at37 rfl ?_
  by_cases h1:p.size≤s.size
  case neg =>
    have e:¬begP s p:=fun h=>h1 h.1
    rw [begR,if_neg e,decide_eq_false e] at hK
    simp [vf37,show (s.size:Int)<p.size by omega]
    exact hK
  have v1:vslT (.str s) none (some (.int .i64 (p.size:Int)))=some (.str (s.extract 0 p.size)):=by
    simp only [vslT,vbounds_hi (show p.size≤s.size from h1)]
  have v2:vslT (.str s) (some (.int .i64 (p.size:Int))) none=some (.str (s.extract p.size s.size)):=by
    simp only [vslT,vbounds_lo (show p.size≤s.size from h1)]
  by_cases h2:s.extract 0 p.size=p
  · have e:begP s p:=⟨h1,h2⟩
    rw [begR,if_pos e,decide_eq_true e] at hK
    have k:=vneS_t h2
    simp [vf37,show ¬(s.size:Int)<p.size by omega,v1,v2,k]
    exact hK
  · have e:¬begP s p:=fun h=>h2 h.2
    rw [begR,if_neg e,decide_eq_false e] at hK
    have k:=vneS_f h2
    simp [vf37,show ¬(s.size:Int)<p.size by omega,v1,k]
    exact hK
theorem ref_ValidName (hs:s.size≤1000)(hK:K (.bool (nameP s)) H):VCall tbl lim 38 [.str s] H K:=by
  refine VCall_fn tbl_at38 rfl ?_
  by_cases h1:1≤s.size
  case neg =>
    have e:nameP s=false:=by rw [←Bool.not_eq_true,nameP_iff];exact fun h=>h1 h.1
    rw [e] at hK
    simp [vf38,show (s.size:Int)<1 by omega]
    exact hK
  by_cases h2:s.size≤8
  case neg =>
    have e:nameP s=false:=by rw [←Bool.not_eq_true,nameP_iff];exact fun h=>h2 h.2.1
    rw [e] at hK
    simp [vf38,show ¬(s.size:Int)<1 by omega,show (8:Int)<s.size by omega]
    exact hK
  have i0:=idxT (s:=s) (i:=0) (by omega)
  simp only [Int.natCast_zero] at i0
  by_cases h3:chT s 0<97
  · have e:nameP s=false:=by rw [←Bool.not_eq_true,nameP_iff];exact fun h=>by have:=h.2.2.1;simp [letB] at this;omega
    rw [e] at hK
    simp [vf38,show ¬(s.size:Int)<1 by omega,show ¬(8:Int)<s.size by omega,i0,show (chT s 0:Int)<97 by omega]
    exact hK
  by_cases h4:122<chT s 0
  · have e:nameP s=false:=by rw [←Bool.not_eq_true,nameP_iff];exact fun h=>by have:=h.2.2.1;simp [letB] at this;omega
    rw [e] at hK
    simp [vf38,show ¬(s.size:Int)<1 by omega,show ¬(8:Int)<s.size by omega,i0,show ¬(chT s 0:Int)<97 by omega,show (122:Int)<chT s 0 by omega]
    exact hK
  have hn:nameP s=allN (ldB s) s.size:=by
    rw [Bool.eq_iff_iff,nameP_iff]
    exact ⟨fun h=>h.2.2.2,fun h=>⟨h1,h2,by simp [letB];omega,h⟩⟩
  rw [hn] at hK
  simp [vf38,show ¬(s.size:Int)<1 by omega,show ¬(8:Int)<s.size by omega,i0,show ¬(chT s 0:Int)<97 by omega,show ¬(122:Int)<chT s 0 by omega]
  refine wLoop_up s.size (fun i fr L H'=>(fr 0=.str s∧fr 3=.int .i64 i)∧H'=H∧allN (ldB s) i=true) ⟨by simp,rfl,rfl⟩ ?_
  rintro i hi fr L H' ⟨⟨f0,f3⟩,e0,hz⟩
  have e0:=e0.symm
  subst e0
  simp [f0,f3]
  refine cond_dec (fun ht => ?_) fun hfl => ?_
  · have ht:i<s.size:=by omega
    have hg:=idxT ht
    rcases (by omega:chT s i<48∨(48≤chT s i∧chT s i≤57)∨(58≤chT s i∧chT s i≤96)∨(97≤chT s i∧chT s i≤122)∨122<chT s i) with hr | hr | hr | hr | hr
    · have d1:((chT s i:Int)<97)=True:=eq_true (by omega)
      have d2:((chT s i:Int)<48)=True:=eq_true (by omega)
      have e:ldB s i=false:=by simp [ldB,letB,digB];omega
      rw [allN_not ht e] at hK
      simp [f0,f3,hg,d1,d2]
      exact hK
    · have d1:((chT s i:Int)<97)=True:=eq_true (by omega)
      have d2:((chT s i:Int)<48)=False:=eq_false (by omega)
      have d3:((57:Int)<chT s i)=False:=eq_false (by omega)
      have e:ldB s i=true:=by simp [ldB,letB,digB];omega
      simp (disch:=omega) [f0,f3,hg,d1,d2,d3,wrap_i64,allN,e,hz]
      omega
    · have d1:((chT s i:Int)<97)=True:=eq_true (by omega)
      have d2:((chT s i:Int)<48)=False:=eq_false (by omega)
      have d3:((57:Int)<chT s i)=True:=eq_true (by omega)
      have e:ldB s i=false:=by simp [ldB,letB,digB];omega
      rw [allN_not ht e] at hK
      simp [f0,f3,hg,d1,d2,d3]
      exact hK
    · have d1:((chT s i:Int)<97)=False:=eq_false (by omega)
      have d2:((122:Int)<chT s i)=False:=eq_false (by omega)
      have e:ldB s i=true:=by simp [ldB,letB,digB];omega
      simp (disch:=omega) [f0,f3,hg,d1,d2,wrap_i64,allN,e,hz]
      omega
    · have d1:((chT s i:Int)<97)=False:=eq_false (by omega)
      have d2:((122:Int)<chT s i)=True:=eq_true (by omega)
      have d3:((chT s i:Int)<48)=False:=eq_false (by omega)
      have d4:((57:Int)<chT s i)=True:=eq_true (by omega)
      have e:ldB s i=false:=by simp [ldB,letB,digB];omega
      rw [allN_not ht e] at hK
      simp [f0,f3,hg,d1,d2,d3,d4]
      exact hK
  have:i=s.size:=by omega
  subst this
  rw [hz] at hK
  simp
  exact hK
end
theorem begR_yes {s p:ByteArray}(h:begP s p):begR s p=s.extract p.size s.size:=by rw [begR,if_pos h]
theorem sp_a {a b c x:Int}{s:ByteArray}:splice [V.int .i64 a,V.int .i64 b,V.int .i64 c,V.str s] 0 [V.int .i64 x]=[V.int .i64 x,V.int .i64 b,V.int .i64 c,V.str s]:=rfl
theorem sp_b {a b c x:Int}{s:ByteArray}:splice [V.int .i64 a,V.int .i64 b,V.int .i64 c,V.str s] 1 [V.int .i64 x]=[V.int .i64 a,V.int .i64 x,V.int .i64 c,V.str s]:=rfl
theorem sp_c {a b c x:Int}{s:ByteArray}:splice [V.int .i64 a,V.int .i64 b,V.int .i64 c,V.str s] 2 [V.int .i64 x]=[V.int .i64 a,V.int .i64 b,V.int .i64 x,V.str s]:=rfl
theorem sp_d {a b c:Int}{s t:ByteArray}:splice [V.int .i64 a,V.int .i64 b,V.int .i64 c,V.str s] 3 [V.str t]=[V.int .i64 a,V.int .i64 b,V.int .i64 c,V.str t]:=rfl
theorem hr_a {a b c:Int}{s:ByteArray}:rd none [V.int .i64 a,V.int .i64 b,V.int .i64 c,V.str s] 0=some (V.int .i64 a):=rfl
theorem hr_b {a b c:Int}{s:ByteArray}:rd none [V.int .i64 a,V.int .i64 b,V.int .i64 c,V.str s] 1=some (V.int .i64 b):=rfl
theorem hr_c {a b c:Int}{s:ByteArray}:rd none [V.int .i64 a,V.int .i64 b,V.int .i64 c,V.str s] 2=some (V.int .i64 c):=rfl
theorem hr_d {a b c:Int}{s:ByteArray}:rd none [V.int .i64 a,V.int .i64 b,V.int .i64 c,V.str s] 3=some (V.str s):=rfl
theorem hr_all {a b c:Int}{s:ByteArray}:rd (some 4) [V.int .i64 a,V.int .i64 b,V.int .i64 c,V.str s] 0=some (.agg [V.int .i64 a,V.int .i64 b,V.int .i64 c,V.str s]):=rfl
theorem sp_all {a b c d e f:Int}{s t:ByteArray}:splice [V.int .i64 a,V.int .i64 b,V.int .i64 c,V.str s] 0 [V.int .i64 d,V.int .i64 e,V.int .i64 f,V.str t]=[V.int .i64 d,V.int .i64 e,V.int .i64 f,V.str t]:=rfl
theorem cutS_le {q:ByteArray}(k:Nat)(hk:k≤99):0≤cutS q k∧cutS q k≤99:=by
  by_cases h:∃m,1≤m∧m≤k∧q=bA (Lib.decDigits m)
  · obtain ⟨m,h1,h2,h3⟩:=h
    rw [cutS_yes h1 h3 h2 (by omega)]
    omega
  · rw [cutS_no fun j h1 h2 e=>h ⟨j,h1,h2,e⟩]
    omega
section
variable {lim:Nat}{H:Hp}{K:V→Hp→Prop}{t:ByteArray}{h:Hs}{k:Nat}
theorem ref_fold (hg:HX glHp H) (hlim:lim≤H.length) (hs:h.small k) (hk:k≤100000) (ht:t.size≤1000) (hK:∀H',HX H H'→K (.agg (h.step t).v) H'):VCall tbl lim 16 [.agg h.v,.str t] H K:=by
  rw [←step_R] at hK
  obtain ⟨a,b,c,s⟩:=h
  obtain ⟨h1,h2,h3,h4,h5,h6⟩:=hs
  simp only at h1 h2 h3 h4 h5 h6
  refine VCall_fn tbl_at16 rfl ?_
  have hv0:(Hs.mk a b c s).v=[.int .i64 a,.int .i64 b,.int .i64 c,.str s]:=rfl
  rw [hv0]
  simp [vf16]
  refine ref_begins ?_
  simp
  have hc0:((Hs.mk a b c s).cutR t)=⟨a+(if begP t tCutB then cutS (t.extract 4 t.size) 99 else 0),b,c,s⟩:=by
    unfold Hs.cutR;split<;>simp
  rw [hc0] at hK
  have e4:tCutB.size=4:=rfl
  have bcut:(⟨#[99,117,116,32]⟩:ByteArray)=tCutB:=rfl
  have bdye:(⟨#[100,121,101,32]⟩:ByteArray)=tDyeB:=rfl
  rw [bcut]
  have hcs:∀k,k≤99→0≤cutS (t.extract 4 t.size) k∧cutS (t.extract 4 t.size) k≤99:=cutS_le
  generalize hx0:(if begP t tCutB then cutS (t.extract 4 t.size) 99 else 0)=x at hK
  have hxb:0≤x∧x≤99:=by rw [←hx0];split;exact hcs 99 (Nat.le_refl _);omega
  refine wLoop_post 0 (fun fr L H'=>(fr 1=.str t∧fr 2=.lp 0 0∧fr 4=.lp 1 0)∧L=[[.int .i64 (a+x),.int .i64 b,.int .i64 c,.str s],[.int .i64 0,.int .i64 0,.int .i64 0,.str ⟨#[]⟩]]∧HX H H') ?_ ?_
  · by_cases hb:begP t tCutB
    · rw [if_pos hb] at hx0
      have eb:=begR_yes hb
      rw [e4] at eb
      rw [eb,decide_eq_true hb]
      generalize t.extract 4 t.size=q at *
      refine wLoop_up 99 (fun i fr L H'=>(fr 1=.str t∧fr 2=.lp 0 0∧fr 4=.lp 1 0∧fr 5=.str q∧fr 6=.bool true∧fr 7=.int .i64 ((i:Int)+1))∧L=[[.int .i64 (a+cutS q i),.int .i64 b,.int .i64 c,.str s],[.int .i64 0,.int .i64 0,.int .i64 0,.str ⟨#[]⟩]]∧HX H H') ⟨by simp,by simp [cutS],HX.refl⟩ ?_
      rintro i hi fr L H1 ⟨⟨f1,f2,f4,f5,f6,f7⟩,rfl,x1⟩
      have l1:=x1.len
      have hci:=hcs i hi
      by_cases ht:i<99
      · have d1:((i:Int)+1≤99)=True:=eq_true (by omega)
        have ei:(i:Int)+1=((i+1:Nat):Int):=by omega
        have hcn:cutS q (i+1)=cutS q i+if q=bA (Lib.decDigits (i+1)) then ((i+1:Nat):Int) else 0:=rfl
        simp [f1,f2,f4,f5,f6,f7,d1]
        rw [ei]
        refine itoa_t (hg.trans x1) (by omega) (by omega) fun H2 x2 => ?_
        by_cases hq:q=bA (Lib.decDigits (i+1))
        · have k:=veqS_t hq
          rw [if_pos hq] at hcn
          have e:cutS q i+((i+1:Nat):Int)=cutS q (i+1):=hcn.symm
          have e2:a+cutS q i+((i:Int)+1)=a+cutS q (i+1):=by rw [hcn];omega
          simp (disch:=omega) [f1,f2,f4,f5,f6,f7,k,sp_a,hr_a,wrap_i64,e2]
          exact ⟨ht,x1.trans x2⟩
        · have k:=veqS_f hq
          rw [if_neg hq] at hcn
          have e2:a+cutS q i=a+cutS q (i+1):=by rw [hcn];omega
          simp (disch:=omega) [f1,f2,f4,f5,f6,f7,k,wrap_i64,e2]
          exact ⟨ht,x1.trans x2⟩
      · have:i=99:=by omega
        subst this
        simp [f1,f2,f4,f5,f6,f7]
        refine ⟨?_,x1⟩
        omega
    · rw [if_neg hb] at hx0
      rw [decide_eq_false hb]
      refine wLoop_up 0 (fun i fr L H'=>(fr 1=.str t∧fr 2=.lp 0 0∧fr 4=.lp 1 0∧fr 6=.bool false∧fr 7=.int .i64 1)∧L=[[.int .i64 a,.int .i64 b,.int .i64 c,.str s],[.int .i64 0,.int .i64 0,.int .i64 0,.str ⟨#[]⟩]]∧H'=H) ⟨by simp,rfl,rfl⟩ ?_
      rintro i hi fr L H1 ⟨⟨f1,f2,f4,f6,f7⟩,rfl,rfl⟩
      simp [f1,f2,f4,f6,f7]
      exact ⟨by omega,HX.refl⟩
  · rintro fr L H1 ⟨⟨f1,f2,f4⟩,rfl,x1⟩
    have l1:=x1.len
    by_cases h7:t=tWash
    · have k:=veqS_t (show t=⟨#[119,97,115,104]⟩ from h7)
      have ew:(Hs.mk (a+x) b c s).wordR t=⟨a+x,b+1,c,s⟩:=by rw [Hs.wordR,if_pos h7]
      rw [ew] at hK
      simp (disch:=omega) [f1,f2,f4,k,sp_b,hr_b,wrap_i64]
      refine ref_begins ?_
      rw [bdye]
      have ed:¬begP t tDyeB:=by rw [h7];decide
      rw [begR,if_neg ed,decide_eq_false ed]
      have hd:(Hs.mk (a+x) (b+1) c s).dyeR t=⟨a+x,b+1,c,s⟩:=by rw [Hs.dyeR,if_neg fun h=>ed h.1]
      rw [hd] at hK
      simp [f2,f4,sp_all,hr_all]
      exact hK _ x1
    have k7:=veqS_f (show ¬t=⟨#[119,97,115,104]⟩ from h7)
    by_cases h8:t=tBleach
    · have k:=veqS_t (show t=⟨#[98,108,101,97,99,104]⟩ from h8)
      have ew:(Hs.mk (a+x) b c s).wordR t=⟨a+x,0,c+1,s⟩:=by rw [Hs.wordR,if_neg h7,if_pos h8]
      rw [ew] at hK
      simp (disch:=omega) [f1,f2,f4,k7,k,sp_b,sp_c,hr_b,hr_c,wrap_i64]
      refine ref_begins ?_
      rw [bdye]
      have ed:¬begP t tDyeB:=by rw [h8];decide
      rw [begR,if_neg ed,decide_eq_false ed]
      have hd:(Hs.mk (a+x) 0 (c+1) s).dyeR t=⟨a+x,0,c+1,s⟩:=by rw [Hs.dyeR,if_neg fun h=>ed h.1]
      rw [hd] at hK
      simp [f2,f4,sp_all,hr_all]
      exact hK _ x1
    have k8:=veqS_f (show ¬t=⟨#[98,108,101,97,99,104]⟩ from h8)
    have ew:(Hs.mk (a+x) b c s).wordR t=⟨a+x,b,c,s⟩:=by rw [Hs.wordR,if_neg h7,if_neg h8]
    rw [ew] at hK
    simp [f1,f2,f4,k7,k8]
    refine ref_begins ?_
    rw [bdye]
    by_cases hb:begP t tDyeB
    · rw [begR_yes hb,decide_eq_true hb]
      have e4':tDyeB.size=4:=rfl
      rw [e4']
      simp
      refine ref_ValidName (by simp;omega) ?_
      by_cases hn:nameP (t.extract 4 t.size)=true
      · rw [Hs.dyeR,if_pos ⟨hb,hn⟩] at hK
        simp [hn,f2,f4,sp_b,sp_d,sp_all,hr_all]
        exact hK _ x1
      · rw [Hs.dyeR,if_neg fun h=>hn h.2] at hK
        simp [show nameP (t.extract 4 t.size)=false by simpa using hn,f2,f4,sp_all,hr_all]
        exact hK _ x1
    · rw [begR,if_neg hb,decide_eq_false hb]
      rw [Hs.dyeR,if_neg fun h=>hb h.1] at hK
      simp [f2,f4,sp_all,hr_all]
      exact hK _ x1
theorem ord_cell {c:List En}(hv:valE c=0):∀i,i<(ordR c).length→∃m:Nat,(ordR c).getD i 0=m∧m<c.length:=by
  intro i hi
  have hm:(ordR c).getD i 0∈ordR c:=by
    rw [List.getD_eq_getElem?_getD,List.getElem?_eq_getElem hi]
    exact List.getElem_mem hi
  have e:ordR c=ordN c 181:=by simp [ordR,hv]
  generalize (ordR c).getD i 0=x at *
  rw [e] at hm
  obtain ⟨m,h1,h2,_⟩:=ordN_mem.1 hm
  exact ⟨m,h1,h2⟩
theorem ref_Fold {v:V}{c:List En}(hg:HX glHp H)(hc:LstV enC H v c)(hsh:shortC c)(hlim:lim≤H.length)
    (hK:∀H',HX H H'→K (.tup [.agg (foldN c (ordR c) (ordR c).length).v,.int .i64 (valE c)]) H'):VCall tbl lim 7 [v] H K:=by
  refine VCall_fn tbl_at7 rfl ?_
  simp [vf7,hc.stor]
  refine ref_Validate hc hsh ?_
  by_cases hv:valE c=0
  case neg =>
    have e:ordR c=[]:=by simp [ordR,hv]
    rw [e] at hK
    have e2:∀c:List En,rd (some 4) (splice [V.int .i64 0,V.int .i64 0,V.int .i64 0,V.str ⟨#[]⟩] 0 [V.int .i64 0,V.int .i64 0,V.int .i64 0,V.str ⟨#[]⟩]) 0=some (.agg (foldN c [] 0).v):=fun _=>rfl
    simp [hv,e2 c]
    exact hK _ .refl
  simp [hv,hc.stor]
  refine ref_order hc hv (by omega) fun H1 w x1 ho => ?_
  have hos:=ho.sl
  have hol:=hos.len
  have hst:=hos.stor
  have hcell:=ord_cell hv
  have hll:=ordR_len (c:=c)
  generalize ordR c=o at *
  simp [hv,hst,hol]
  refine wLoop_up o.length (fun i fr L H'=>(fr 0=v∧fr 6=w∧fr 7=.int .i64 i∧fr 2=.lp 0 0∧fr 5=.lp 1 0)∧(∃X,L=Hs.zero.v :: (foldN c o i).v :: X)∧HX H1 H') ⟨by simp,⟨[],rfl⟩,HX.refl⟩ ?_
  rintro i hi fr L H' ⟨⟨f0,f6,f7,f2,f5⟩,⟨X,rfl⟩,x2⟩
  simp [f0,f6,f7,f2,f5,hol]
  refine cond_dec (fun ht => ?_) fun hfl => ?_
  · have ht:i<o.length:=by omega
    obtain ⟨m,hm,hmc⟩:=hcell i ht
    have hc2:=hc.mono (x1.trans x2)
    have hos2:=hos.mono x2
    have a1:=hos2.addr (i:=(i:Int)) (by omega)
    have a2:=hos2.load ht (L:=Hs.zero.v :: (foldN c o i).v :: X)
    have a3:=hc2.at hmc
    have a4:=hc2.faddr (j:=5) hmc
    have a5:vload none (Hs.zero.v :: (foldN c o i).v :: X) H' (eptf 6 v m 5)=some (.str (c.getD m default).t):=(hc2.rd1 hmc (by omega)).trans rfl
    rw [hm] at a2
    simp only [Int.toNat_natCast] at a1
    have hts:=hsh.2 m hmc
    have hsm:=foldN_small (c:=c) (o:=o) i
    have hstep:foldN c o (i+1)=(foldN c o i).step (c.getD m default).t:=by simp only [foldN,hm,Int.toNat_natCast]
    generalize (c.getD m default).t=t at a5 hts hstep
    simp (disch:=omega) [f0,f6,f7,f2,f5,a1,a2,a3,a4,a5,Hs.rdv]
    refine ref_fold (hg.trans (x1.trans x2)) (by have:=(x1.trans x2).len;omega) hsm (by omega) (by omega) fun H2 x3 => ?_
    rw [←hstep]
    simp (disch:=omega) [f0,f6,f7,f2,f5,Hs.rdv,Hs.vlen,Hs.spl,wrap_i64]
    exact ⟨ht,x2.trans x3⟩
  have:i=o.length:=by omega
  subst this
  simp [f2,f5,Hs.rdv,Hs.vlen,Hs.spl]
  rw [←hv]
  exact hK _ (x1.trans x2)
theorem law_CardFolds {v:V}{c:List En}(hv:EnsV H v c∧c.length≤maxLen)(hg:HX glHp H)(hlim:lim≤H.length)(hK:∀H',K (.bool true) H'):VCall tbl lim 3 [v] H K:=by
  have ea:=hv.1.1
  refine VCall_fn tbl_at3 rfl ?_
  simp [vf3,ea.stor]
  refine law_Long ea ?_
  cases hl:longC c
  case true =>
    simp
    refine law_known hlim fun H' _ => ?_
    simp
    exact hK _
  have sa:=long_short hl
  simp [ea.stor]
  refine card_Fold hg ea sa (by omega) fun H1 x1 => ?_
  replace x1:HX H H1:=x1
  have l1:=x1.len
  simp [ea.stor,Hs.vlen,Hs.spl]
  refine ref_Fold (hg.trans x1) (ea.mono x1) sa (by omega) fun H2 x2 => ?_
  replace x2:HX H1 H2:=x2
  have l2:=x2.len
  generalize foldN c (ordR c) (ordR c).length=h
  obtain ⟨a,b,d,s⟩:=h
  have hv0:(Hs.mk a b d s).v=[.int .i64 a,.int .i64 b,.int .i64 d,.str s]:=rfl
  rw [hv0]
  have k:=veqS_t (rfl:s=s)
  simp [Hs.vlen,Hs.spl,hv0,sp_all,hr_a,hr_b,hr_c,hr_d,k]
  refine law_known (by omega) fun H' _ => ?_
  simp
  exact hK _
end
end Go.Proofs.YthfimpangfhliaaGreatDoor.Vm
namespace Go.Proofs.YthfimpangfhliaaGreatDoor.Vm
open Go Go.RowKit Go.ChangeShapes
set_option linter.unusedVariables false
set_option linter.unusedSimpArgs false
set_option maxRecDepth 100000
attribute [-simp] List.getD_eq_getElem?_getD
theorem Good.obj {ρ:Loc}{w:World}{k:Nat}(G:Good ρ (glHp.take k) w)(hU:GUp ρ k)(hk:k<glMap.length)(he:glMap[k]=(none,[])){r o:Nat}{C:Array Value}{el:TypeId}{fz:Nat×Nat}(h1:w.heap[r]? = some (.cells C el fz))(h2:o≤C.size) :
    ∃ρ',Good ρ' (glHp.take (k+1)) w∧GUp ρ' (k+1)∧(∀b y,ρ b=some y→ρ' b=some y)∧ρ' k=some (r,o,0):=by
  obtain ⟨ρ',_,a2,a3,a4⟩:=G.row (cap:=0) (cs:=[]) (o:=o) h1 (by omega) (Nat.le_refl _) (fun i hi=>by simp at hi)
  have hl:(glHp.take k).length=k:=by rw [List.length_take,glHp_len];omega
  have ht:=glHp_take hk
  rw [he] at ht
  rw [←ht] at a2
  rw [hl] at a4
  refine ⟨ρ',a2,fun j g cs hj e => ?_,a3,a4⟩
  by_cases hjk:j=k
  · subst hjk
    rw [List.getElem?_eq_getElem hk,he] at e
    cases e
  · exact a3 _ _ (hU j g cs (by omega) e)
theorem var_heap {P:Program}{W:World}{name:String}{g:Nat}{cs:Array Value}(hg:P.globalNamed name=some g)(hv:W.var? P name=some cs):∃el fz,W.heap[g]? = some (.cells cs el fz):=by
  simp only [World.var?,hg,Option.bind_some] at hv
  split at hv<;>simp_all
theorem cell_heap {W:World}{a:Addr}{v:Value}(h:W.cell? a=some v):a=⟨a.block,a.off,none⟩∧∃C el fz,W.heap[a.block]? = some (.cells C el fz)∧a.off≤C.size:=by
  unfold World.cell? at h
  split at h
  case h_2=>cases h
  rename_i C el fz hb
  split at h
  · cases h
  rename_i hs
  refine ⟨?_,C,el,fz,hb,Nat.le_of_lt (Array.getElem?_eq_some_iff.1 h).1⟩
  obtain ⟨b,o,s⟩:=a
  cases s with
  | none=>rfl
  | some x=>simp at hs
theorem row1_at {ρ:Loc}{t:TypeId}{b:Nat}{x:Value}(h:VR ρ (.ptr b 0) x):RowAt ρ [.iface t (.ptr b 0)] #[.iface t x] 0:=by
  intro i hi
  have:i=0:=by simp at hi;omega
  subst this
  exact ⟨.iface h,rfl⟩
def laidT:List (String×DataW Unit):=[("math/bits.deBruijn32tab",Rows.laid_math_bits_deBruijn32tab),("math/bits.deBruijn64tab",Rows.laid_math_bits_deBruijn64tab),("internal/strconv.uint64pow10",Rows.laid_internal_strconv_uint64pow10),("strconv.ErrRange",Rows.laid_strconv_ErrRange),("strconv.ErrSyntax",Rows.laid_strconv_ErrSyntax)]
theorem starE : "*" ++ "errors.errorString" = "*errors.errorString" := by decide
theorem rowE (u:TypeId)(h:Tryz.prog.typeName? 3 u=some "*errors.errorString"):u=139 :=
  typeName_ptr_named (nm := "errors.errorString") (by rw [starE];kernel_rfl) (by kernel_rfl) (by decide) u (by rw [starE];exact h)
def pow10R:List V:=(List.range 20).map fun i=>.int .u64 (10 ^ i:Nat)
theorem glMap_eq:glMap=[(some 3,pow10R),(none,[]),(none,[]),(some 1,[.iface 139 (.ptr 1 0)]),(some 2,[.iface 139 (.ptr 2 0)])]:=by kernel_rfl
theorem tx_start {W:World}(h:laidMetH Tryz.prog laidT W):∃ρ,Good ρ glHp W∧GRel ρ:=by
  rw [MakeChecks.laidMetH_plain _ _ _ (by kernel_rfl)] at h
  have hgp:Tryz.prog.globalNamed "internal/strconv.uint64pow10" = some 3:=by kernel_rfl
  have hgR:Tryz.prog.globalNamed "strconv.ErrRange" = some 2:=by kernel_rfl
  have hgS:Tryz.prog.globalNamed "strconv.ErrSyntax" = some 1:=by kernel_rfl
  have h3:=laidMet.tail (laidMet.tail h)
  have h5:=laidMet.tail h3
  have h6:=laidMet.tail h5
  obtain ⟨ps,⟨g',t',cs,fuel,p,q,hg',ht',hv,htr,_,_⟩,_⟩:=h3
  obtain rfl:=Option.some.inj (hgp.symm.trans hg')
  have eT:(Tryz.prog.globals[3]?).map (·.type)=some 143:=by kernel_rfl
  obtain rfl:=Option.some.inj (eT.symm.trans ht')
  have hlf:leaf Tryz.prog 8 143 Rows.laid_internal_strconv_uint64pow10 0=some ((List.range pow10R.length).zip pow10R):=by kernel_rfl
  obtain ⟨el1,fz1,a1,a2,a3⟩:=flat_var hgp hlf hv htr
  obtain ⟨aR,sR,vR,cR,_,_⟩:=laid_sentinel (tp:=139) (te:=141) (ts:=9) h5 hgR (ti:=71) (by kernel_rfl) Tryz.underlying71 rowE Tryz.underlying139 Tryz.underlying141 rfl rfl Tryz.underlying9 (by kernel_rfl) (by kernel_rfl)
  obtain ⟨aS,sS,vS,cS,_,_⟩:=laid_sentinel (tp:=139) (te:=141) (ts:=9) h6 hgS (ti:=71) (by kernel_rfl) Tryz.underlying71 rowE Tryz.underlying139 Tryz.underlying141 rfl rfl Tryz.underlying9 (by kernel_rfl) (by kernel_rfl)
  obtain ⟨elR,fzR,bR⟩:=var_heap hgR vR
  obtain ⟨elS,fzS,bS⟩:=var_heap hgS vS
  obtain ⟨eR,CR,tR,zR,oR,lR⟩:=cell_heap cR
  obtain ⟨eS,CS,tS,zS,oS,lS⟩:=cell_heap cS
  have hlen:glMap.length=5:=by rw [glMap_eq];rfl
  have e0:glMap[0]'(by omega)=(some 3,pow10R):=by simp only [glMap_eq];rfl
  have e1:glMap[1]'(by omega)=(none,[]):=by simp only [glMap_eq];rfl
  have e2:glMap[2]'(by omega)=(none,[]):=by simp only [glMap_eq];rfl
  have e3:glMap[3]'(by omega)=(some 1,[.iface 139 (.ptr 1 0)]):=by simp only [glMap_eq];rfl
  have e4:glMap[4]'(by omega)=(some 2,[.iface 139 (.ptr 2 0)]):=by simp only [glMap_eq];rfl
  have G0:Good (fun _=>none) (glHp.take 0) W:=Good.start
  obtain ⟨ρ1,c1,u1,m1,_⟩:=Good.var G0 (fun k _ _ hk=>absurd hk (by omega)) (k:=0) (by omega) a1 (by rw [e0];exact a2) (by rw [e0];exact a3 _) (fun g' e=>by rw [e0] at e;exact (Option.some.inj e).symm)
  obtain ⟨ρ2,c2,u2,m2,q2⟩:=Good.obj c1 u1 (by omega) e1 oS lS
  obtain ⟨ρ3,c3,u3,m3,q3⟩:=Good.obj c2 u2 (by omega) e2 oR lR
  have vS2:VR ρ3 (.ptr 1 0) (.pointer (some aS)):=by
    rw [eS];exact .ptr (m3 _ _ q2)
  have vR2:VR ρ3 (.ptr 2 0) (.pointer (some aR)):=by
    rw [eR];exact .ptr q3
  obtain ⟨ρ4,c4,u4,m4,_⟩:=Good.var c3 u3 (k:=3) (by omega) bS (by rw [e3];exact Nat.le_refl 1) (by rw [e3];exact row1_at vS2) (fun g' e=>by rw [e3] at e;exact (Option.some.inj e).symm)
  obtain ⟨ρ5,c5,u5,m5,_⟩:=Good.var c4 u4 (k:=4) (by omega) bR (by rw [e4];exact Nat.le_refl 1) (by rw [e4];exact row1_at (vR2.mono m4)) (fun g' e=>by rw [e4] at e;exact (Option.some.inj e).symm)
  rw [show (4+1)=glMap.length by omega] at c5 u5
  exact Good.vars c5 u5
noncomputable def witT (os:Os):World:=World.laidAll Tryz.prog os laidT
theorem witT_met (os:Os)(args:Array Value):laidMetH Tryz.prog laidT ((witT os).forCall (fun _ _=>0) ⟨#[],args,[]⟩).memory:=by
  rw [MakeChecks.laidMetH_plain _ _ _ (by kernel_rfl)]
  exact laidMet_laidAll _ (by kernel_rfl) (by kernel_rfl)
theorem witT_shaped (os:Os):(witT os).Shaped Tryz.prog:=World.shaped_of_ZipB (by kernel_rfl) (by kernel_rfl)
end Go.Proofs.YthfimpangfhliaaGreatDoor.Vm
