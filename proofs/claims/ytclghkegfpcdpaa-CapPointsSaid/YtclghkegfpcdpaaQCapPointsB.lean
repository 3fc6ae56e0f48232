/- Quicksort over the machine (int): rows that are sorted, insertion sort, medians. -/
import Derived.Test.YtclghkegfpcdpaaQCapPointsA
import Derived.Test.YtclghkegfpcdpaaVmTab
import Derived.Test.YtclghkegfpcdpaaVmMove
namespace Go.Proofs.Ytclghkegfpcdpaa.Vm
open Go
set_option maxRecDepth 100000
set_option linter.unusedSimpArgs false
set_option linter.unusedVariables false
attribute [-simp] List.getD_eq_getElem?_getD
theorem wLoop_post {T:Tbl}{lim:Nat}{body:VCode}{Q:VExit→St→Prop}{s:St}(id:Nat)(P:Fr→Lo→Hp→Prop)(h:wCode T lim (.loop body) (fun e s=>e=.exit id∧P s.fr s.L s.H) s)(hQ:∀fr L H,P fr L H→Q (.exit id) ⟨fr,L,H⟩):wCode T lim (.loop body) Q s:=by
  obtain ⟨n,e,s',h1,he,h2⟩:=h
  subst he
  exact ⟨n,_,s',h1,hQ _ _ _ h2⟩
abbrev EO:=Int
def cfI (x y:Int):Int:=x-y
def gO (l:List EO)(i:Nat):EO:=l.getD i default
def eO (x:EO):V:=.int .i64 x
def rowO (l:List EO):Blk:=.row (ints l) true
theorem stor_eO {x:EO}:stor (eO x)=true:=Eq.trans rfl rfl
attribute [simp] stor_eO
theorem so_addr {b n:Nat}{i:Int}(h:0≤i∧i<n):viaddrS 1 (.sl b 0 n 1) (.int .i64 i)=some (V.ptr b i.toNat):=by
  rw [viaddrS_in (by omega)];simp
theorem so_ld {H:Hp}{b:Nat}{l:List EO}(h:H[b]? = some (rowO l)){i:Nat}(hi:i<l.length){L:Lo}:vload none L H (V.ptr b i)=some (eO (gO l i)):=by
  rw [vload_ptr h,rd_ints hi];rfl
theorem so_st {lim:Nat}{H:Hp}{b:Nat}{l:List EO}(h:H[b]? = some (rowO l))(hlim:lim≤b){i:Nat}(hi:i<l.length){L:Lo}(x:EO):vstore lim L H (V.ptr b i) (eO x) 1=some (L,H.set b (rowO (l.set i x))):=by
  have:i+1≤l.length:=hi
  have h:H[b]? = some (.row (ints l) true):=h
  simp [eO,rowO,vstore,vstoreH,h,hlim,this,splice_ints_one hi]
structure SoS (b:Nat)(H0:Hp)(l0 l:List EO)(H:Hp):Prop where
  row:H[b]? = some (rowO l)
  len:H0.length≤H.length
  oth:∀b',b'<H0.length→b'≠b→H[b']? = H0[b']?
  perm:l.Perm l0
  blt:b<H0.length
section
variable {lim:Nat}{H H0:Hp}{K:V→Hp→Prop}{b:Nat}{l l0:List EO}
theorem SoS.n (h:SoS b H0 l0 l H):l.length=l0.length:=h.perm.length_eq
theorem SoS.start (hb:H[b]? = some (rowO l)):SoS b H l l H:=⟨hb,Nat.le_refl _,fun _ _ _=>rfl,.refl _,(List.getElem?_eq_some_iff.1 hb).1⟩
theorem SoS.lt (h:SoS b H0 l0 l H):b<H.length:=(List.getElem?_eq_some_iff.1 h.row).1
theorem SoS.grow {H':Hp}(h:SoS b H0 l0 l H)(x:HX H H'):SoS b H0 l0 l H' :=
  ⟨x.get h.row,Nat.le_trans h.len x.len,fun b' h1 h2=>(x.same (Nat.lt_of_lt_of_le h1 h.len)).trans (h.oth b' h1 h2),h.perm,h.blt⟩
theorem SoS.set {l':List EO}(h:SoS b H0 l0 l H)(hp:l'.Perm l0):SoS b H0 l0 l' (H.set b (rowO l')) :=
  ⟨by simp [h.lt],by simpa using h.len,fun b' h1 h2=>by rw [List.getElem?_set_ne (fun e=>h2 e.symm)];exact h.oth b' h1 h2,hp,h.blt⟩
theorem SoS.swap (h:SoS b H0 l0 l H){i j:Nat}(hi:i<l.length)(hj:j<l.length):SoS b H0 l0 (swp l i j) (H.set b (rowO (swp l i j))) :=
  h.set ((swp_perm (a:=0) (b:=l.length) ⟨Nat.zero_le _,hi⟩ ⟨Nat.zero_le _,hj⟩ (Nat.le_refl _)).perm.trans h.perm)
theorem SoS.aside (h:SoS b H0 l0 l H){s:Nat}{r:Blk}(hs:H0.length≤s):SoS b H0 l0 l (H.set s r):=by
  have:=h.blt
  exact ⟨by rw [List.getElem?_set_ne (by omega)];exact h.row,by simpa using h.len,fun b' h1 h2=>by rw [List.getElem?_set_ne (by omega)];exact h.oth b' h1 h2,h.perm,h.blt⟩
theorem SoS.mem (h:SoS b H0 l0 l H){i:Nat}(hi:i<l.length):gO l i∈l0:=by
  rw [gO,←h.perm.mem_iff,getD_of hi];exact List.getElem_mem hi
theorem so_less (hs:SoS b H0 l0 l H){i j:Nat}(hi:i<l.length)(hj:j<l.length){lim:Nat}{K:V→Hp→Prop}(hK:∀H',HX H H'→SoS b H0 l0 l H'→K (.bool (decide (cfI (gO l i) (gO l j)<0))) H') :
    VCall tbl lim 106 [eO (gO l i),eO (gO l j)] H K:=by
  have h0:=hK H HX.refl hs
  have e:∀x y:Int,decide (cfI x y<0)=decide (x<y):=fun x y=>by rw [decide_eq_decide];unfold cfI;omega
  have e:=e (gO l i) (gO l j)
  rw [e] at h0
  refine VCall_fn tbl_at106 rfl ?_
  simp [vf106,eO]
  refine VCall_fn tbl_at124 rfl ?_
  simp [vf124]
  exact h0
theorem so_w1 (h:SoS b H0 l0 l H)(hlim:lim≤b){i:Nat}(hi:i<l.length){L:Lo}(x:EO):vstore lim L H (V.ptr b i) (eO x) 1=some (L,H.set b (rowO (l.set i x))):=so_st h.row hlim hi x
theorem so_w2 (h:SoS b H0 l0 l H)(hlim:lim≤b){i j:Nat}(hj:j<l.length){L:Lo}:vstore lim L (H.set b (rowO (l.set i (gO l j)))) (V.ptr b j) (eO (gO l i)) 1=some (L,H.set b (rowO (swp l i j))):=by
  rw [so_st (l:=l.set i (gO l j)) (by simp [h.lt]) hlim (by simpa using hj),List.set_set];rfl
theorem so_isort (hs:SoS b H0 l0 l H) (hlim:lim≤b) (ho:Ordr cfI) {a e:Nat} (hae:a≤e∧e≤l0.length) (hl:l0.length≤100000)
    (hK:∀H' l',SoS b H0 l0 l' H'→PermR a e l l'→SortR cfI a e l'→K (.tup []) H'):VCall tbl lim 100 [.sl b 0 l0.length 1,.int .i64 a,.int .i64 e] H K:=by
  refine VCall_fn tbl_at100 rfl ?_
  have hn:=hs.n
  simp (disch:=omega) [vf100,wrap_i64]
  refine wLoop_up (e-(a+1)) (fun i fr L H'=>∃l',(fr 0=.sl b 0 l0.length 1∧fr 1=.int .i64 a∧fr 2=.int .i64 e∧fr 6=.int .i64 ((a+1+i:Nat):Int))∧L=[]∧SoS b H0 l0 l' H'∧PermR a e l l'∧SortR cfI a (min e (a+1+i)) l') ⟨l,by simp,rfl,hs,PermR.refl,fun p q h1 h2 h3=>by omega⟩ ?_
  rintro i hi fr L H' ⟨l',⟨f0,f1,f2,f6⟩,rfl,hr,hp,hs'⟩
  simp [f0,f1,f2,f6]
  refine cond_dec (fun ht => ?_) fun hfl => ?_
  · have ht:i<e-(a+1):=by omega
    rw [Nat.min_eq_right (by omega)] at hs'
    simp [f6]
    refine wLoop_m (n:=i+1) (fun m fr L H'=>∃l',(fr 0=.sl b 0 l0.length 1∧fr 1=.int .i64 a∧fr 2=.int .i64 e∧fr 6=.int .i64 ((a+1+i:Nat):Int)∧fr 7=.int .i64 ((a+m:Nat):Int))∧L=[]∧SoS b H0 l0 l' H'∧PermR a e l l'∧m≤i+1∧InsR cfI a (a+1+i) (a+m) l') ⟨l',by simp [f0,f1,f2,f6];omega,rfl,hr,hp,Nat.le_refl _,by rw [show a+(i+1)=a+1+i by omega];exact InsR.start hs'⟩ ?_
    clear f0 f1 f2 f6 hr hp hs' l'
    rintro m fr L H' ⟨l',⟨f0,f1,f2,f6,f7⟩,rfl,hr,hp,hm,hI⟩
    have hlen:=hp.len
    by_cases hm0:m=0
    · subst hm0
      have hs2:=hI.done ho (by omega) (by omega) (Or.inl rfl)
      simp (disch:=omega) [f0,f1,f2,f6,f7,wrap_i64]
      refine ⟨by omega,by omega,l',hr,hp,?_⟩
      rw [show a+1+(i+1)=a+1+i+1 by omega];exact hs2
    · have e1:((a:Int)+(m:Int)).toNat=a+m:=by omega
      have e2:((a:Int)+(m:Int)-1).toNat=a+m-1:=by omega
      have g1:=fun L=>so_ld hr.row (i:=a+m) (by omega) (L:=L)
      have g2:=fun L=>so_ld hr.row (i:=a+m-1) (by omega) (L:=L)
      have hgt:((a:Int)<(a:Int)+(m:Int))=True:=eq_true (by omega)
      simp (disch:=omega) [f0,f1,f2,f6,f7,hgt,wrap_i64,e1,e2,g1,g2,so_addr,-viaddrS_in,-vload_ptrO]
      refine so_less hr (i:=a+m) (j:=a+m-1) (by omega) (by omega) fun H2 x2 hr2 => ?_
      have g1:=fun L=>so_ld hr2.row (i:=a+m) (by omega) (L:=L)
      have g2:=fun L=>so_ld hr2.row (i:=a+m-1) (by omega) (L:=L)
      simp
      refine cond_dec (fun hlt => ?_) fun hlt => ?_
      · have w1:=fun L=>so_w1 hr2 hlim (i:=a+m) (by omega) (L:=L) (gO l' (a+m-1))
        have w2:=fun L=>so_w2 hr2 hlim (i:=a+m) (j:=a+m-1) (by omega) (L:=L)
        have hr4:=hr2.swap (i:=a+m) (j:=a+m-1) (by omega) (by omega)
        have hsw:=InsR.swap ho hI (by omega) (by omega) (by omega) hlt
        have hsw:InsR cfI a (a+1+i) (a+(m-1)) (swp l' (a+m) (a+m-1)):=by
          have e3:a+(m-1)=a+m-1:=by omega
          rw [e3];exact hsw
        have hps:=hp.trans (swp_perm (l:=l') (i:=a+m) (j:=a+m-1) (a:=a) (b:=e) ⟨by omega,by omega⟩ ⟨by omega,by omega⟩ (by omega))
        simp (disch:=omega) [f0,f1,f2,f6,f7,wrap_i64,e1,e2,g1,g2,w1,w2,so_addr,-viaddrS_in,-vstore,-vload_ptrO]
        exact ⟨m-1,by omega,by omega,_,hr4,hps,by omega,hsw⟩
      · have hs2:=hI.done ho (by omega) (by omega) (Or.inr hlt)
        simp (disch:=omega) [f0,f1,f2,f6,f7,wrap_i64]
        refine ⟨by omega,by omega,l',hr2,hp,?_⟩
        rw [show a+1+(i+1)=a+1+i+1 by omega];exact hs2
  · have:e≤a+1+i:=by omega
    rw [Nat.min_eq_left this] at hs'
    simp
    exact hK _ _ hr hp hs'
theorem sw_ld {s:Nat}{w:Int}(h:H[s]? = some (.row [.int .i64 w] true)){L:Lo}:vload none L H (.ptr s 0)=some (.int .i64 w):=by
  rw [vload_ptr h];rfl
theorem sw_st {s:Nat}{w z:Int}(h:H[s]? = some (.row [.int .i64 w] true))(hl:lim≤s){L:Lo}:vstore lim L H (.ptr s 0) (.int .i64 z) 1=some (L,H.set s (.row [.int .i64 z] true)):=by
  simp [vstore,vstoreH,h,hl,splice]
theorem so_order2 {s x y:Nat}{w:Int}(hs:SoS b H0 l0 l H)(hlim:lim≤b)(hsw:H[s]? = some (.row [.int .i64 w] true))(hs0:H0.length≤s)(hx:x<l0.length)(hy:y<l0.length)
    (hK:∀H' w' x' y',SoS b H0 l0 l H'→H'[s]? = some (.row [.int .i64 w'] true)→((x'=x∧y'=y)∨(x'=y∧y'=x))→K (.tup [.int .i64 (x':Nat),.int .i64 (y':Nat)]) H') :
    VCall tbl lim 128 [.sl b 0 l0.length 1,.int .i64 x,.int .i64 y,.ptr s 0] H K:=by
  refine VCall_fn tbl_at128 rfl ?_
  have hn:=hs.n
  have g1:=fun L=>so_ld hs.row (i:=x) (by omega) (L:=L)
  have g2:=fun L=>so_ld hs.row (i:=y) (by omega) (L:=L)
  simp (disch:=omega) [vf128,g1,g2,so_addr,-viaddrS_in,-vload_ptrO]
  refine so_less hs (i:=y) (j:=x) (by omega) (by omega) fun H2 x2 hs2 => ?_
  have hsw2:=x2.get hsw
  have hbl:=hs.blt
  simp
  refine cond_dec (fun hlt => ?_) fun hlt => ?_
  · have ld:=fun L=>sw_ld (L:=L) hsw2
    have st:=fun L z=>sw_st (lim:=lim) (L:=L) (z:=z) hsw2 (by omega)
    simp [ld,st,-vstore,-vload_ptrO]
    exact hK _ _ y x (hs2.aside hs0) (by rw [List.getElem?_set_self (List.getElem?_eq_some_iff.1 hsw2).1]) (Or.inr ⟨rfl,rfl⟩)
  · simp
    exact hK _ _ x y hs2 hsw2 (Or.inl ⟨rfl,rfl⟩)
theorem so_median {s x y z:Nat}{w:Int}(hs:SoS b H0 l0 l H)(hlim:lim≤b)(hsw:H[s]? = some (.row [.int .i64 w] true))(hs0:H0.length≤s)(hx:x<l0.length)(hy:y<l0.length)(hz:z<l0.length)
    (hK:∀H' w' r,SoS b H0 l0 l H'→H'[s]? = some (.row [.int .i64 w'] true)→(r=x∨r=y∨r=z)→K (.int .i64 (r:Nat)) H') :
    VCall tbl lim 123 [.sl b 0 l0.length 1,.int .i64 x,.int .i64 y,.int .i64 z,.ptr s 0] H K:=by
  refine VCall_fn tbl_at123 rfl ?_
  simp [vf123]
  refine so_order2 hs hlim   hsw hs0 hx hy fun H1 w1 x1 y1 hs1 hsw1 h1 => ?_
  simp []
  refine so_order2 hs1 hlim   hsw1 hs0 (x:=y1) (y:=z) (by omega) hz fun H2 w2 x2 y2 hs2 hsw2 h2 => ?_
  simp []
  refine so_order2 hs2 hlim   hsw2 hs0 (x:=x1) (y:=x2) (by omega) (by omega) fun H3 w3 x3 y3 hs3 hsw3 h3 => ?_
  simp
  exact hK _ _ _ hs3 hsw3 (by omega)
theorem so_medianAdj {s x:Nat}{w:Int}(hs:SoS b H0 l0 l H)(hlim:lim≤b)(hsw:H[s]? = some (.row [.int .i64 w] true))(hs0:H0.length≤s)(hx:0<x∧x+1<l0.length)(hl:l0.length≤100000)
    (hK:∀H' w' r,SoS b H0 l0 l H'→H'[s]? = some (.row [.int .i64 w'] true)→(x-1≤r∧r≤x+1)→K (.int .i64 (r:Nat)) H') :
    VCall tbl lim 122 [.sl b 0 l0.length 1,.int .i64 x,.ptr s 0] H K:=by
  refine VCall_fn tbl_at122 rfl ?_
  have e1:(x:Int)-1=((x-1:Nat):Int):=by omega
  have e2:(x:Int)+1=((x+1:Nat):Int):=by omega
  simp (disch:=omega) [vf122,wrap_i64]
  rw [e1,e2]
  refine so_median hs hlim   hsw hs0 (x:=x-1) (y:=x) (z:=x+1) (by omega) (by omega) (by omega) fun H1 w1 r hs1 hsw1 h1 => ?_
  simp
  exact hK _ _ _ hs1 hsw1 (by omega)
theorem so_reverse (hs:SoS b H0 l0 l H)(hlim:lim≤b){a e:Nat}(hae:a<e∧e≤l0.length)(hl:l0.length≤100000)
    (hK:∀H' l',SoS b H0 l0 l' H'→PermR a e l l'→K (.tup []) H'):VCall tbl lim 104 [.sl b 0 l0.length 1,.int .i64 a,.int .i64 e] H K:=by
  refine VCall_fn tbl_at104 rfl ?_
  have hn:=hs.n
  simp (disch:=omega) [vf104,wrap_i64]
  refine wLoop_up (e-a) (fun i fr L H'=>∃l',(fr 0=.sl b 0 l0.length 1∧fr 6=.int .i64 ((a+i:Nat):Int)∧fr 7=.int .i64 ((e-1:Nat)-(i:Nat):Int))∧L=[]∧SoS b H0 l0 l' H'∧PermR a e l l') ⟨l,by simp;omega,rfl,hs,PermR.refl⟩ ?_
  rintro i hi fr L H' ⟨l',⟨f0,f6,f7⟩,rfl,hr,hp⟩
  have hlen:=hp.len
  simp [f0,f6,f7]
  refine cond_dec (fun ht => ?_) fun hfl => ?_
  · have e1:((a:Int)+(i:Int)).toNat=a+i:=by omega
    have e2:(((e-1:Nat):Int)-(i:Int)).toNat=e-1-i:=by omega
    have g1:=fun L=>so_ld hr.row (i:=a+i) (by omega) (L:=L)
    have g2:=fun L=>so_ld hr.row (i:=e-1-i) (by omega) (L:=L)
    have w1:=fun L=>so_w1 hr hlim (i:=a+i) (by omega) (L:=L) (gO l' (e-1-i))
    have w2:=fun L=>so_w2 hr hlim (i:=a+i) (j:=e-1-i) (by omega) (L:=L)
    have hr4:=hr.swap (i:=a+i) (j:=e-1-i) (by omega) (by omega)
    have hps:=hp.trans (swp_perm (l:=l') (i:=a+i) (j:=e-1-i) (a:=a) (b:=e) ⟨by omega,by omega⟩ ⟨by omega,by omega⟩ (by omega))
    simp (disch:=omega) [f0,f6,f7,wrap_i64,e1,e2,g1,g2,w1,w2,so_addr,-viaddrS_in,-vstore,-vload_ptrO]
    exact ⟨by omega,by omega,_,hr4,hps⟩
  · simp
    exact hK _ _ hr hp
end
end Go.Proofs.Ytclghkegfpcdpaa.Vm
namespace Go.Proofs.Ytclghkegfpcdpaa.Vm
open Go
set_option maxRecDepth 100000
set_option maxHeartbeats 1000000
set_option linter.unusedSimpArgs false
set_option linter.unusedVariables false
attribute [-simp] List.getD_eq_getElem?_getD
section
variable {lim:Nat}{H H0:Hp}{K:V→Hp→Prop}{b:Nat}{l l0:List EO}
theorem so_sift (hs:SoS b H0 l0 l H) (hlim:lim≤b) (ho:Ordr cfI) {f lo hi:Nat} (hf:f+hi≤l0.length∧lo<hi+1) (hl:l0.length≤100000) (hp:HpR cfI f (lo+1) hi l)
    (hK:∀H' l',SoS b H0 l0 l' H'→PermR f (f+hi) l l'→HpR cfI f lo hi l'→K (.tup []) H') :
    VCall tbl lim 119 [.sl b 0 l0.length 1,.int .i64 lo,.int .i64 hi,.int .i64 f] H K:=by
  refine VCall_fn tbl_at119 rfl ?_
  have hn:=hs.n
  simp (disch:=omega) [vf119,wrap_i64]
  refine wLoop_m (n:=hi+1-lo) (fun m fr L H'=>∃l' r,(fr 0=.sl b 0 l0.length 1∧fr 2=.int .i64 hi∧fr 3=.int .i64 f∧fr 8=.int .i64 (r:Nat))∧L=[]∧SoS b H0 l0 l' H'∧PermR f (f+hi) l l'∧SfI cfI f lo hi r l'∧r≤hi∧m=hi+1-r) ⟨l,lo,by simp,rfl,hs,PermR.refl,SfI.start hp,by omega,rfl⟩ ?_
  rintro m fr L H' ⟨l',r,⟨f0,f2,f3,f8⟩,rfl,hr,hpp,hI,hrh,hm⟩
  have hlen:=hpp.len
  simp (disch:=omega) [f0,f2,f3,f8,wrap_i64]
  refine cond_dec (fun ht => ?_) fun ht => ?_
  · simp
    exact hK _ _ hr hpp (hI.end1 (by omega))
  have h1:2*r+1<hi:=by omega
  have e1:((f:Int)+(2*(r:Int)+1)).toNat=f+(2*r+1):=by omega
  have e2:((f:Int)+(2*(r:Int)+1)+1).toNat=f+(2*r+1+1):=by omega
  have e3:((f:Int)+(r:Int)).toNat=f+r:=by omega
  have e4:((f:Int)+(2*(r:Int)+1+1)).toNat=f+(2*r+1+1):=by omega
  have g1:=fun L=>so_ld hr.row (i:=f+(2*r+1)) (by omega) (L:=L)
  by_cases h2:2*r+1+1<hi
  · have g2:=fun L=>so_ld hr.row (i:=f+(2*r+1+1)) (by omega) (L:=L)
    have hgt:(2*(r:Int)+1+1<(hi:Int))=True:=eq_true (by omega)
    simp (disch:=omega) [f0,f2,f3,f8,hgt,wrap_i64,e1,e2,g1,g2,so_addr,-viaddrS_in,-vload_ptrO]
    refine so_less hr (i:=f+(2*r+1)) (j:=f+(2*r+1+1)) (by omega) (by omega) fun H2 x2 hr2 => ?_
    simp
    refine cond_dec (fun hlt => ?_) fun hlt => ?_
    · have ch0:=ChR.two ho h2 hlt
      have ch:ChR cfI f hi r (2*r+1+1) l':=ch0
      have hcr:=ch.rng
      have g3:=fun L=>so_ld hr2.row (i:=f+r) (by omega) (L:=L)
      have g4:=fun L=>so_ld hr2.row (i:=f+(2*r+1+1)) (by omega) (L:=L)
      simp (disch:=omega) [f0,f2,f3,f8,wrap_i64,e1,e2,e3,e4,g3,g4,so_addr,-viaddrS_in,-vload_ptrO]
      refine so_less hr2 (i:=f+r) (j:=f+(2*r+1+1)) (by omega) (by omega) fun H3 x3 hr3 => ?_
      simp
      refine cond_ndec (fun hlt => ?_) fun hlt => ?_
      · simp
        exact hK _ _ hr3 hpp (hI.end2 ho ch hlt)
      · have g3:=fun L=>so_ld hr3.row (i:=f+r) (by omega) (L:=L)
        have g4:=fun L=>so_ld hr3.row (i:=f+(2*r+1+1)) (by omega) (L:=L)
        have w1:=fun L=>so_w1 hr3 hlim (i:=f+r) (by omega) (L:=L) (gO l' (f+(2*r+1+1)))
        have w2:=fun L=>so_w2 hr3 hlim (i:=f+r) (j:=f+(2*r+1+1)) (by omega) (L:=L)
        have hr4:=hr3.swap (i:=f+r) (j:=f+(2*r+1+1)) (by omega) (by omega)
        have hps:=hpp.trans (swp_perm (l:=l') (i:=f+r) (j:=f+(2*r+1+1)) (a:=f) (b:=f+hi) ⟨by omega,by omega⟩ ⟨by omega,by omega⟩ (by omega))
        have hI2:=hI.step ho ch (by omega) hlt
        simp (disch:=omega) [f0,f2,f3,f8,wrap_i64,e1,e2,e3,e4,g3,g4,w1,w2,so_addr,-viaddrS_in,-vstore,-vload_ptrO]
        exact ⟨hi+1-(2*r+1+1),by omega,_,2*r+1+1,by omega,hr4,hps,hI2,by omega,rfl⟩
    · have ch0:=ChR.one ho (hi:=hi) (l:=l') (f:=f) h1 (fun h=>hlt h.2)
      have ch:ChR cfI f hi r (2*r+1) l':=ch0
      have hcr:=ch.rng
      have g3:=fun L=>so_ld hr2.row (i:=f+r) (by omega) (L:=L)
      have g4:=fun L=>so_ld hr2.row (i:=f+(2*r+1)) (by omega) (L:=L)
      simp (disch:=omega) [f0,f2,f3,f8,wrap_i64,e1,e2,e3,e4,g3,g4,so_addr,-viaddrS_in,-vload_ptrO]
      refine so_less hr2 (i:=f+r) (j:=f+(2*r+1)) (by omega) (by omega) fun H3 x3 hr3 => ?_
      simp
      refine cond_ndec (fun hlt => ?_) fun hlt => ?_
      · simp
        exact hK _ _ hr3 hpp (hI.end2 ho ch hlt)
      · have g3:=fun L=>so_ld hr3.row (i:=f+r) (by omega) (L:=L)
        have g4:=fun L=>so_ld hr3.row (i:=f+(2*r+1)) (by omega) (L:=L)
        have w1:=fun L=>so_w1 hr3 hlim (i:=f+r) (by omega) (L:=L) (gO l' (f+(2*r+1)))
        have w2:=fun L=>so_w2 hr3 hlim (i:=f+r) (j:=f+(2*r+1)) (by omega) (L:=L)
        have hr4:=hr3.swap (i:=f+r) (j:=f+(2*r+1)) (by omega) (by omega)
        have hps:=hpp.trans (swp_perm (l:=l') (i:=f+r) (j:=f+(2*r+1)) (a:=f) (b:=f+hi) ⟨by omega,by omega⟩ ⟨by omega,by omega⟩ (by omega))
        have hI2:=hI.step ho ch (by omega) hlt
        simp (disch:=omega) [f0,f2,f3,f8,wrap_i64,e1,e2,e3,e4,g3,g4,w1,w2,so_addr,-viaddrS_in,-vstore,-vload_ptrO]
        exact ⟨hi+1-(2*r+1),by omega,_,2*r+1,by omega,hr4,hps,hI2,by omega,rfl⟩
  · have ch0:=ChR.one ho (hi:=hi) (l:=l') (f:=f) h1 (fun h=>h2 h.1)
    have hgd:decide (2*(r:Int)+1+1<(hi:Int))=false:=decide_eq_false (by omega)
    simp (disch:=omega) [f0,f2,f3,f8,hgd,wrap_i64,-viaddrS_in]
    have ch:ChR cfI f hi r (2*r+1) l':=ch0
    have hcr:=ch.rng
    have g3:=fun L=>so_ld hr.row (i:=f+r) (by omega) (L:=L)
    have g4:=fun L=>so_ld hr.row (i:=f+(2*r+1)) (by omega) (L:=L)
    simp (disch:=omega) [f0,f2,f3,f8,wrap_i64,e1,e2,e3,e4,g3,g4,so_addr,-viaddrS_in,-vload_ptrO]
    refine so_less hr (i:=f+r) (j:=f+(2*r+1)) (by omega) (by omega) fun H3 x3 hr3 => ?_
    simp
    refine cond_ndec (fun hlt => ?_) fun hlt => ?_
    · simp
      exact hK _ _ hr3 hpp (hI.end2 ho ch hlt)
    · have g3:=fun L=>so_ld hr3.row (i:=f+r) (by omega) (L:=L)
      have g4:=fun L=>so_ld hr3.row (i:=f+(2*r+1)) (by omega) (L:=L)
      have w1:=fun L=>so_w1 hr3 hlim (i:=f+r) (by omega) (L:=L) (gO l' (f+(2*r+1)))
      have w2:=fun L=>so_w2 hr3 hlim (i:=f+r) (j:=f+(2*r+1)) (by omega) (L:=L)
      have hr4:=hr3.swap (i:=f+r) (j:=f+(2*r+1)) (by omega) (by omega)
      have hps:=hpp.trans (swp_perm (l:=l') (i:=f+r) (j:=f+(2*r+1)) (a:=f) (b:=f+hi) ⟨by omega,by omega⟩ ⟨by omega,by omega⟩ (by omega))
      have hI2:=hI.step ho ch (by omega) hlt
      simp (disch:=omega) [f0,f2,f3,f8,wrap_i64,e1,e2,e3,e4,g3,g4,w1,w2,so_addr,-viaddrS_in,-vstore,-vload_ptrO]
      exact ⟨hi+1-(2*r+1),by omega,_,2*r+1,by omega,hr4,hps,hI2,by omega,rfl⟩
theorem so_heap (hs:SoS b H0 l0 l H)(hlim:lim≤b)(ho:Ordr cfI){a e:Nat}(hae:a<e∧e≤l0.length)(hl:l0.length≤100000)
    (hK:∀H' l',SoS b H0 l0 l' H'→PermR a e l l'→SortR cfI a e l'→K (.tup []) H'):VCall tbl lim 101 [.sl b 0 l0.length 1,.int .i64 a,.int .i64 e] H K:=by
  refine VCall_fn tbl_at101 rfl ?_
  have hn:=hs.n
  obtain ⟨d,rfl⟩:∃d,e=a+d:=⟨e-a,by omega⟩
  have ed:((a+d:Nat):Int)-(a:Int)=(d:Int):=by omega
  have e0:(a:Int)+(d:Int)-(a:Int)=(d:Int):=by omega
  have eq2:((d:Int)-1).tdiv 2=(((d-1) / 2:Nat):Int):=by
    have:(d:Int)-1=((d-1:Nat):Int):=by omega
    rw [this];exact tdiv_nat _ 2
  simp (disch:=omega) [vf101,wrap_i64,ed,e0,eq2]
  refine wLoop_post 0 (fun fr L H'=>∃l',(fr 0=.sl b 0 l0.length 1∧fr 6=.int .i64 a∧fr 7=.int .i64 0∧fr 8=.int .i64 d)∧L=[]∧SoS b H0 l0 l' H'∧PermR a (a+d) l l'∧HpR cfI a 0 d l') ?_ ?_
  · refine wLoop_m (n:=(d-1) / 2+1) (fun m fr L H'=>∃l',(fr 0=.sl b 0 l0.length 1∧fr 6=.int .i64 a∧fr 7=.int .i64 0∧fr 8=.int .i64 d∧fr 9=.int .i64 ((m:Nat)-1:Int))∧L=[]∧SoS b H0 l0 l' H'∧PermR a (a+d) l l'∧HpR cfI a m d l'∧m≤(d-1) / 2+1) ⟨l,by simp,rfl,hs,PermR.refl,HpR.none,Nat.le_refl _⟩ ?_
    rintro m fr L H' ⟨l',⟨f0,f6,f7,f8,f9⟩,rfl,hr,hp,hH,hm⟩
    have hlen:=hp.len
    simp [f0,f6,f7,f8,f9]
    refine cond_dec (fun ht => ?_) fun ht => ?_
    · obtain ⟨k,rfl⟩:∃k,m=k+1:=⟨m-1,by omega⟩
      have e1:((k+1:Nat):Int)-1=(k:Int):=by omega
      have e2:(k:Int)+1-1=(k:Int):=by omega
      simp [f0,f6,f7,f8,f9,e1,e2]
      refine so_sift hr hlim   ho (f:=a) (lo:=k) (hi:=d) (by omega) hl hH fun H2 l2 hr2 hp2 hH2 => ?_
      simp (disch:=omega) [f0,f6,f7,f8,f9,e1,e2,wrap_i64]
      exact ⟨k,by omega,by omega,l2,hr2,hp.trans hp2,hH2,by omega⟩
    · have:m=0:=by omega
      subst this
      simp [f0,f6,f7,f8]
      exact ⟨l',hr,hp,hH⟩
  rintro fr L H' ⟨l',⟨f0,f6,f7,f8⟩,rfl,hr,hp,hH⟩
  simp (disch:=omega) [f0,f6,f7,f8,wrap_i64]
  refine wLoop_m (n:=d) (fun m fr L H'=>∃l',(fr 0=.sl b 0 l0.length 1∧fr 6=.int .i64 a∧fr 7=.int .i64 0∧fr 8=.int .i64 d∧fr 10=.int .i64 ((m:Nat)-1:Int))∧L=[]∧SoS b H0 l0 l' H'∧PermR a (a+d) l l'∧HpR cfI a 0 m l'∧OutR cfI a (a+d) a (a+m) l'∧m≤d) ⟨l',by simp [f0,f6,f7,f8],rfl,hr,hp,hH,OutR.start (by omega),Nat.le_refl _⟩ ?_
  clear f0 f6 f7 f8 hr hp hH l'
  rintro m fr L H' ⟨l',⟨f0,f6,f7,f8,f10⟩,rfl,hr,hp,hH,hO,hm⟩
  have hlen:=hp.len
  simp [f0,f6,f7,f8,f10]
  refine cond_dec (fun ht => ?_) fun ht => ?_
  · obtain ⟨k,rfl⟩:∃k,m=k+1:=⟨m-1,by omega⟩
    have e1:((k+1:Nat):Int)-1=(k:Int):=by omega
    have e2:(k:Int)+1-1=(k:Int):=by omega
    have e3:((a:Int)+(k:Int)).toNat=a+k:=by omega
    have g1:=fun L=>so_ld hr.row (i:=a) (by omega) (L:=L)
    have g2:=fun L=>so_ld hr.row (i:=a+k) (by omega) (L:=L)
    have w1:=fun L=>so_w1 hr hlim (i:=a) (by omega) (L:=L) (gO l' (a+k))
    have w2:=fun L=>so_w2 hr hlim (i:=a) (j:=a+k) (by omega) (L:=L)
    have hr4:=hr.swap (i:=a) (j:=a+k) (by omega) (by omega)
    have hps:=hp.trans (swp_perm (l:=l') (i:=a) (j:=a+k) (a:=a) (b:=a+d) ⟨by omega,by omega⟩ ⟨by omega,by omega⟩ (by omega))
    obtain ⟨hH1,hO1⟩:=hH.pop ho hO (by omega)
    simp (disch:=omega) [f0,f6,f7,f8,f10,e1,e2,e3,wrap_i64,g1,g2,w1,w2,so_addr,-viaddrS_in,-vstore,-vload_ptrO]
    refine so_sift hr4 hlim   ho (f:=a) (lo:=0) (hi:=k) (by omega) hl hH1 fun H2 l2 hr2 hp2 hH2 => ?_
    simp (disch:=omega) [f0,f6,f7,f8,f10,e1,e2,wrap_i64]
    exact ⟨k,by omega,by omega,l2,hr2,hps.trans (hp2.wide (Nat.le_refl _) (by omega)),hH2,hO1.perm hp2 (by rw [swp_len];omega),by omega⟩
  · have:m=0:=by omega
    subst this
    simp
    exact hK _ _ hr hp (hO.sort fun p q h1 h2 h3=>by omega)
theorem so_part (hs:SoS b H0 l0 l H) (hlim:lim≤b) (ho:Ordr cfI) {a e v:Nat} (hae:a≤v∧v<e∧e≤l0.length) (hl:l0.length≤100000)
    (hK:∀H' l' m ok,SoS b H0 l0 l' H'→PermR a e l l'→PartR cfI a e m l'→K (.tup [.int .i64 (m:Nat),.bool ok]) H'):VCall tbl lim 108 [.sl b 0 l0.length 1,.int .i64 a,.int .i64 e,.int .i64 v] H K:=by
  refine VCall_fn tbl_at108 rfl ?_
  have hn:=hs.n
  have g1:=fun L=>so_ld hs.row (i:=a) (by omega) (L:=L)
  have g2:=fun L=>so_ld hs.row (i:=v) (by omega) (L:=L)
  have w1:=fun L=>so_w1 hs hlim (i:=a) (by omega) (L:=L) (gO l v)
  have w2:=fun L=>so_w2 hs hlim (i:=a) (j:=v) (by omega) (L:=L)
  have hs1:=hs.swap (i:=a) (j:=v) (by omega) (by omega)
  have hp1:PermR a e l (swp l a v):=swp_perm ⟨by omega,by omega⟩ ⟨by omega,by omega⟩ (by omega)
  have e0:(e:Int)-1=((e-1:Nat):Int):=by omega
  simp (disch:=omega) [vf108,wrap_i64,g1,g2,w1,w2,so_addr,e0,-viaddrS_in,-vstore,-vload_ptrO]
  refine wLoop_post 0 (fun fr L H'=>∃l' i j,(fr 0=.sl b 0 l0.length 1∧fr 1=.int .i64 a∧fr 10=.int .i64 (i:Nat)∧fr 11=.int .i64 (j:Nat))∧L=[]∧SoS b H0 l0 l' H'∧PermR a e l l'∧PtI cfI a e i j l'∧j+1-i≤(e-a)∧(i≤j→¬cfI (gO l' i) (gO l' a)<0)) ?_ ?_
  · refine wLoop_m (n:=(e-a)) (fun m fr L H'=>∃l' i j,(fr 0=.sl b 0 l0.length 1∧fr 1=.int .i64 a∧fr 10=.int .i64 (i:Nat)∧fr 11=.int .i64 (j:Nat))∧L=[]∧SoS b H0 l0 l' H'∧PermR a e l l'∧PtI cfI a e i j l'∧j+1-i≤m∧m≤(e-a)) ⟨swp l a v,a+1,e-1,by simp,rfl,hs1,hp1,PtI.start (by omega),by omega,Nat.le_refl _⟩ ?_
    rintro m fr L H' ⟨l',i,j,⟨f0,f1,f10,f11⟩,rfl,hr,hp,hI,hm,hm2⟩
    have hrg:=hI.rng
    have hlen:=hp.len
    by_cases hij:i≤j
    · have hgt:((i:Int)≤(j:Int))=True:=eq_true (by omega)
      have g1:=fun L=>so_ld hr.row (i:=i) (by omega) (L:=L)
      have g2:=fun L=>so_ld hr.row (i:=a) (by omega) (L:=L)
      simp (disch:=omega) [f0,f1,f10,f11,hgt,wrap_i64,g1,g2,so_addr,-viaddrS_in,-vload_ptrO]
      refine so_less hr (i:=i) (j:=a) (by omega) (by omega) fun H2 x2 hr2 => ?_
      simp
      refine cond_dec (fun hlt => ?_) fun hlt => ?_
      · simp (disch:=omega) [f0,f1,f10,f11,wrap_i64]
        exact ⟨m-1,by omega,l',i+1,j,by omega,hr2,hp,hI.up hij hlt,by omega,by omega⟩
      · simp [f0,f1,f10,f11]
        exact ⟨l',i,j,by omega,hr2,hp,hI,by omega,fun _=>by omega⟩
    · have hgt:((i:Int)≤(j:Int))=False:=eq_false (by omega)
      simp (disch:=omega) [f0,f1,f10,f11,hgt]
      exact ⟨l',i,j,by omega,hr,hp,hI,by omega,fun h=>absurd h hij⟩
  rintro fr L H' ⟨l',i,j,⟨f0,f1,f10,f11⟩,rfl,hr,hp,hI,hm,hup⟩
  simp [f0,f1,f10,f11]
  refine wLoop_post 2 (fun fr L H'=>∃l' i j,(fr 0=.sl b 0 l0.length 1∧fr 1=.int .i64 a∧fr 10=.int .i64 (i:Nat)∧fr 11=.int .i64 (j:Nat))∧L=[]∧SoS b H0 l0 l' H'∧PermR a e l l'∧PtI cfI a e i j l'∧j+1-i≤(e-a)∧(i≤j→¬cfI (gO l' i) (gO l' a)<0)∧(i≤j→cfI (gO l' j) (gO l' a)<0)) ?_ ?_
  · refine wLoop_m (n:=(e-a)) (fun m fr L H'=>∃l' i j,(fr 0=.sl b 0 l0.length 1∧fr 1=.int .i64 a∧fr 10=.int .i64 (i:Nat)∧fr 11=.int .i64 (j:Nat))∧L=[]∧SoS b H0 l0 l' H'∧PermR a e l l'∧PtI cfI a e i j l'∧(i≤j→¬cfI (gO l' i) (gO l' a)<0)∧j+1-i≤m∧m≤(e-a)) ⟨l',i,j,by simp [f0,f1,f10,f11],rfl,hr,hp,hI,hup,hm,Nat.le_refl _⟩ ?_
    clear f0 f1 f10 f11 hr hp hI hup hm l' i j
    rintro m fr L H' ⟨l',i,j,⟨f0,f1,f10,f11⟩,rfl,hr,hp,hI,hup,hm,hm2⟩
    have hrg:=hI.rng
    have hlen:=hp.len
    by_cases hij:i≤j
    · have hgt:((i:Int)≤(j:Int))=True:=eq_true (by omega)
      have g1:=fun L=>so_ld hr.row (i:=j) (by omega) (L:=L)
      have g2:=fun L=>so_ld hr.row (i:=a) (by omega) (L:=L)
      simp (disch:=omega) [f0,f1,f10,f11,hgt,wrap_i64,g1,g2,so_addr,-viaddrS_in,-vload_ptrO]
      refine so_less hr (i:=j) (j:=a) (by omega) (by omega) fun H2 x2 hr2 => ?_
      simp
      refine cond_ndec (fun hlt => ?_) fun hlt => ?_
      · have e1:(j:Int)-1=((j-1:Nat):Int):=by omega
        simp (disch:=omega) [f0,f1,f10,f11,wrap_i64,e1]
        exact ⟨m-1,by omega,l',i,j-1,by omega,hr2,hp,hI.down hij hlt,fun h=>by have:=hup (by omega);omega,by omega,by omega⟩
      · simp [f0,f1,f10,f11]
        exact ⟨l',i,j,by omega,hr2,hp,hI,by omega,fun h=>by have:=hup h;omega,fun _=>by omega⟩
    · have hgt:((i:Int)≤(j:Int))=False:=eq_false (by omega)
      simp (disch:=omega) [f0,f1,f10,f11,hgt]
      exact ⟨l',i,j,by omega,hr,hp,hI,by omega,fun h=>absurd h hij,fun h=>absurd h hij⟩
  clear f0 f1 f10 f11 hr hp hI hup hm l' i j
  rintro fr L H' ⟨l',i,j,⟨f0,f1,f10,f11⟩,rfl,hr,hp,hI,hm,hup,hdn⟩
  have hrg:=hI.rng
  have hlen:=hp.len
  by_cases hij:i≤j
  · have hgt:((j:Int)<(i:Int))=False:=eq_false (by omega)
    have hi0:=hup hij
    have hj0:=hdn hij
    have g1:=fun L=>so_ld hr.row (i:=i) (by omega) (L:=L)
    have g2:=fun L=>so_ld hr.row (i:=j) (by omega) (L:=L)
    have w1:=fun L=>so_w1 hr hlim (i:=i) (by omega) (L:=L) (gO l' j)
    have w2:=fun L=>so_w2 hr hlim (i:=i) (j:=j) (by omega) (L:=L)
    have hr4:=hr.swap (i:=i) (j:=j) (by omega) (by omega)
    have hps:=hp.trans (swp_perm (l:=l') (i:=i) (j:=j) (a:=a) (b:=e) ⟨by omega,by omega⟩ ⟨by omega,by omega⟩ (by omega))
    have hI2:=hI.swap ho hij (by omega) hi0 hj0
    have hrg2:=hI2.rng
    have e1:(j:Int)-1=((j-1:Nat):Int):=by omega
    simp (disch:=omega) [f0,f1,f10,f11,hgt,e1,wrap_i64,g1,g2,w1,w2,so_addr,-viaddrS_in,-vstore,-vload_ptrO]
    refine wLoop_m (n:=(e-a)) (fun m fr L H'=>∃l' i j,(fr 0=.sl b 0 l0.length 1∧fr 1=.int .i64 a∧fr 10=.int .i64 (i:Nat)∧fr 11=.int .i64 (j:Nat))∧L=[]∧SoS b H0 l0 l' H'∧PermR a e l l'∧PtI cfI a e i j l'∧j+1-i≤m∧m≤(e-a)) ⟨swp l' i j,i+1,j-1,by simp [f0,f1,f10,f11],rfl,hr4,hps,hI2,by omega,Nat.le_refl _⟩ ?_
    clear f0 f1 f10 f11 hr hp hI hup hdn hm hrg hlen hij hgt hi0 hj0 g1 g2 w1 w2 hr4 hps hI2 hrg2 e1 l' i j
    rintro n fr L H' ⟨l',i,j,⟨f0,f1,f10,f11⟩,rfl,hr,hp,hI,hm,hn2⟩
    simp [f0,f1,f10,f11]
    refine wLoop_post 6 (fun fr L H'=>∃l' i j,(fr 0=.sl b 0 l0.length 1∧fr 1=.int .i64 a∧fr 10=.int .i64 (i:Nat)∧fr 11=.int .i64 (j:Nat))∧L=[]∧SoS b H0 l0 l' H'∧PermR a e l l'∧PtI cfI a e i j l'∧j+1-i≤n∧(i≤j→¬cfI (gO l' i) (gO l' a)<0)) ?_ ?_
    · refine wLoop_m (n:=n) (fun m fr L H'=>∃l' i j,(fr 0=.sl b 0 l0.length 1∧fr 1=.int .i64 a∧fr 10=.int .i64 (i:Nat)∧fr 11=.int .i64 (j:Nat))∧L=[]∧SoS b H0 l0 l' H'∧PermR a e l l'∧PtI cfI a e i j l'∧j+1-i≤m∧m≤n) ⟨l',i,j,by simp [f0,f1,f10,f11],rfl,hr,hp,hI,hm,Nat.le_refl _⟩ ?_
      clear f0 f1 f10 f11 hr hp hI hm l' i j
      rintro m fr L H' ⟨l',i,j,⟨f0,f1,f10,f11⟩,rfl,hr,hp,hI,hm,hm2⟩
      have hrg:=hI.rng
      have hlen:=hp.len
      by_cases hij:i≤j
      · have hgt:((i:Int)≤(j:Int))=True:=eq_true (by omega)
        have g1:=fun L=>so_ld hr.row (i:=i) (by omega) (L:=L)
        have g2:=fun L=>so_ld hr.row (i:=a) (by omega) (L:=L)
        simp (disch:=omega) [f0,f1,f10,f11,hgt,wrap_i64,g1,g2,so_addr,-viaddrS_in,-vload_ptrO]
        refine so_less hr (i:=i) (j:=a) (by omega) (by omega) fun H2 x2 hr2 => ?_
        simp
        refine cond_dec (fun hlt => ?_) fun hlt => ?_
        · simp (disch:=omega) [f0,f1,f10,f11,wrap_i64]
          exact ⟨m-1,by omega,l',i+1,j,by omega,hr2,hp,hI.up hij hlt,by omega,by omega⟩
        · simp [f0,f1,f10,f11]
          exact ⟨l',i,j,by omega,hr2,hp,hI,by omega,fun _=>by omega⟩
      · have hgt:((i:Int)≤(j:Int))=False:=eq_false (by omega)
        simp (disch:=omega) [f0,f1,f10,f11,hgt]
        exact ⟨l',i,j,by omega,hr,hp,hI,by omega,fun h=>absurd h hij⟩
    clear f0 f1 f10 f11 hr hp hI hm l' i j
    rintro fr L H' ⟨l',i,j,⟨f0,f1,f10,f11⟩,rfl,hr,hp,hI,hm,hup⟩
    simp [f0,f1,f10,f11]
    refine wLoop_post 8 (fun fr L H'=>∃l' i j,(fr 0=.sl b 0 l0.length 1∧fr 1=.int .i64 a∧fr 10=.int .i64 (i:Nat)∧fr 11=.int .i64 (j:Nat))∧L=[]∧SoS b H0 l0 l' H'∧PermR a e l l'∧PtI cfI a e i j l'∧j+1-i≤n∧(i≤j→¬cfI (gO l' i) (gO l' a)<0)∧(i≤j→cfI (gO l' j) (gO l' a)<0)) ?_ ?_
    · refine wLoop_m (n:=n) (fun m fr L H'=>∃l' i j,(fr 0=.sl b 0 l0.length 1∧fr 1=.int .i64 a∧fr 10=.int .i64 (i:Nat)∧fr 11=.int .i64 (j:Nat))∧L=[]∧SoS b H0 l0 l' H'∧PermR a e l l'∧PtI cfI a e i j l'∧(i≤j→¬cfI (gO l' i) (gO l' a)<0)∧j+1-i≤m∧m≤n) ⟨l',i,j,by simp [f0,f1,f10,f11],rfl,hr,hp,hI,hup,hm,Nat.le_refl _⟩ ?_
      clear f0 f1 f10 f11 hr hp hI hup hm l' i j
      rintro m fr L H' ⟨l',i,j,⟨f0,f1,f10,f11⟩,rfl,hr,hp,hI,hup,hm,hm2⟩
      have hrg:=hI.rng
      have hlen:=hp.len
      by_cases hij:i≤j
      · have hgt:((i:Int)≤(j:Int))=True:=eq_true (by omega)
        have g1:=fun L=>so_ld hr.row (i:=j) (by omega) (L:=L)
        have g2:=fun L=>so_ld hr.row (i:=a) (by omega) (L:=L)
        simp (disch:=omega) [f0,f1,f10,f11,hgt,wrap_i64,g1,g2,so_addr,-viaddrS_in,-vload_ptrO]
        refine so_less hr (i:=j) (j:=a) (by omega) (by omega) fun H2 x2 hr2 => ?_
        simp
        refine cond_ndec (fun hlt => ?_) fun hlt => ?_
        · have e1:(j:Int)-1=((j-1:Nat):Int):=by omega
          simp (disch:=omega) [f0,f1,f10,f11,wrap_i64,e1]
          exact ⟨m-1,by omega,l',i,j-1,by omega,hr2,hp,hI.down hij hlt,fun h=>by have:=hup (by omega);omega,by omega,by omega⟩
        · simp [f0,f1,f10,f11]
          exact ⟨l',i,j,by omega,hr2,hp,hI,by omega,fun h=>by have:=hup h;omega,fun _=>by omega⟩
      · have hgt:((i:Int)≤(j:Int))=False:=eq_false (by omega)
        simp (disch:=omega) [f0,f1,f10,f11,hgt]
        exact ⟨l',i,j,by omega,hr,hp,hI,by omega,fun h=>absurd h hij,fun h=>absurd h hij⟩
    clear f0 f1 f10 f11 hr hp hI hup hm l' i j
    rintro fr L H' ⟨l',i,j,⟨f0,f1,f10,f11⟩,rfl,hr,hp,hI,hm,hup,hdn⟩
    have hrg:=hI.rng
    have hlen:=hp.len
    by_cases hij:i≤j
    · have hgt:((j:Int)<(i:Int))=False:=eq_false (by omega)
      have hi0:=hup hij
      have hj0:=hdn hij
      have g1:=fun L=>so_ld hr.row (i:=i) (by omega) (L:=L)
      have g2:=fun L=>so_ld hr.row (i:=j) (by omega) (L:=L)
      have w1:=fun L=>so_w1 hr hlim (i:=i) (by omega) (L:=L) (gO l' j)
      have w2:=fun L=>so_w2 hr hlim (i:=i) (j:=j) (by omega) (L:=L)
      have hr4:=hr.swap (i:=i) (j:=j) (by omega) (by omega)
      have hps:=hp.trans (swp_perm (l:=l') (i:=i) (j:=j) (a:=a) (b:=e) ⟨by omega,by omega⟩ ⟨by omega,by omega⟩ (by omega))
      have hI2:=hI.swap ho hij (by omega) hi0 hj0
      have hrg2:=hI2.rng
      have e1:(j:Int)-1=((j-1:Nat):Int):=by omega
      simp (disch:=omega) [f0,f1,f10,f11,hgt,e1,wrap_i64,g1,g2,w1,w2,so_addr,-viaddrS_in,-vstore,-vload_ptrO]
      exact ⟨n-1,by omega,_,i+1,j-1,by omega,hr4,hps,hI2,by omega,by omega⟩
    · have hgt:((j:Int)<(i:Int))=True:=eq_true (by omega)
      have hij2:¬i≤j:=hij
      have g1:=fun L=>so_ld hr.row (i:=j) (by omega) (L:=L)
      have g2:=fun L=>so_ld hr.row (i:=a) (by omega) (L:=L)
      have w1:=fun L=>so_w1 hr hlim (i:=j) (by omega) (L:=L) (gO l' a)
      have w2:=fun L=>so_w2 hr hlim (i:=j) (j:=a) (by omega) (L:=L)
      have hr4:=hr.swap (i:=j) (j:=a) (by omega) (by omega)
      have hps:=hp.trans (swp_perm (l:=l') (i:=j) (j:=a) (a:=a) (b:=e) ⟨by omega,by omega⟩ ⟨by omega,by omega⟩ (by omega))
      simp (disch:=omega) [f0,f1,f10,f11,hgt,wrap_i64,g1,g2,w1,w2,so_addr,-viaddrS_in,-vstore,-vload_ptrO]
      exact hK _ _ j false hr4 hps (hI.done ho hij2 (by omega))
  · have hgt:((j:Int)<(i:Int))=True:=eq_true (by omega)
    have hij2:¬i≤j:=hij
    have g1:=fun L=>so_ld hr.row (i:=j) (by omega) (L:=L)
    have g2:=fun L=>so_ld hr.row (i:=a) (by omega) (L:=L)
    have w1:=fun L=>so_w1 hr hlim (i:=j) (by omega) (L:=L) (gO l' a)
    have w2:=fun L=>so_w2 hr hlim (i:=j) (j:=a) (by omega) (L:=L)
    have hr4:=hr.swap (i:=j) (j:=a) (by omega) (by omega)
    have hps:=hp.trans (swp_perm (l:=l') (i:=j) (j:=a) (a:=a) (b:=e) ⟨by omega,by omega⟩ ⟨by omega,by omega⟩ (by omega))
    simp (disch:=omega) [f0,f1,f10,f11,hgt,wrap_i64,g1,g2,w1,w2,so_addr,-viaddrS_in,-vstore,-vload_ptrO]
    exact hK _ _ j true hr4 hps (hI.done ho hij2 (by omega))
end
end Go.Proofs.Ytclghkegfpcdpaa.Vm
namespace Go.Proofs.Ytclghkegfpcdpaa.Vm
open Go
set_option maxRecDepth 100000
set_option maxHeartbeats 1000000
set_option linter.unusedSimpArgs false
set_option linter.unusedVariables false
attribute [-simp] List.getD_eq_getElem?_getD
section
variable {T:Tbl}{lim:Nat}
theorem wVal_mon {o:VOper}{s:St}{K K':V→Lo→Hp→Prop}(h:wVal T lim o s K)(hk:∀v L H,K v L H→K' v L H):wVal T lim o s K':=by
  unfold wVal at h ⊢
  split
  · rename_i hw
    rw [if_pos hw] at h
    split
    · rename_i h1;rw [h1] at h;exact hk _ _ _ h
    · rename_i h1;rw [h1] at h;exact h.mono fun v H=>hk _ _ _
    · rename_i h1;rw [h1] at h;exact h
  · rename_i hw
    rw [if_neg hw] at h;exact hk _ _ _ h
theorem wOps_mon:∀{l:List VOper} {s:St} {K K':St→Prop},wOps T lim l K s→(∀s,K s→K' s)→wOps T lim l K' s
  | [],s,K,K',h,hk=>hk _ h
  | o :: l,s,K,K',h,hk=>wVal_mon h fun _ _ _ h2=>wOps_mon h2 hk
theorem wHead_mon:∀{l:List VOper} {k:Nat} {acc:List (Nat×Nat)} {s:St} {K K':St→Prop},wHead T k l acc K s→(∀s,K s→K' s)→wHead T k l acc K' s
  | [],k,acc,s,K,K',h,hk=>hk _ h
  | o :: l,k,acc,s,K,K',h,hk=>by
    simp only [wHead] at h ⊢
    split
    · rename_i h1;rw [h1] at h;exact h
    · rename_i h1;rw [h1] at h;exact wVal_mon h fun _ _ _ h2=>wHead_mon h2 hk
theorem wHeadS_mon:∀{l:List VOper} {k:Nat} {acc:List (Nat×Nat)} {hp:HpAcc} {s:St} {K K':St→Prop},wHeadS T lim k l acc hp K s→(∀s,K s→K' s)→wHeadS T lim k l acc hp K' s
  | [],k,acc,hp,s,K,K',h,hk=>hk _ h
  | o :: l,k,acc,hp,s,K,K',h,hk=>by
    simp only [wHeadS] at h ⊢
    split
    · rename_i h1;rw [h1] at h;exact h
    · rename_i h1;rw [h1] at h;exact wVal_mon h fun _ _ _ h2=>wHeadS_mon h2 hk
theorem wCode_mon:∀{c:VCode} {Q Q':VExit→St→Prop} {s:St},wCode T lim c Q s→(∀e s,Q e s→Q' e s)→wCode T lim c Q' s
  | .skip,Q,Q',s,h,hq=>hq _ _ h
  | .reg ops,Q,Q',s,h,hq=>wOps_mon h fun s=>hq _ s
  | .draw hd t,Q,Q',s,h,hq=>wHead_mon h fun s h2=>wOps_mon h2 fun s=>hq _ s
  | .drawS hd t,Q,Q',s,h,hq=>wHeadS_mon h fun s h2=>wOps_mon h2 fun s=>hq _ s
  | .seq a b,Q,Q',s,h,hq=>wCode_mon (c:=a) h fun e s h2=>by
    cases e with
    | normal=>exact wCode_mon (c:=b) h2 hq
    | exit id=>exact hq _ _ h2
    | ret=>exact hq _ _ h2
  | .cond c a b,Q,Q',s,h,hq=>by
    simp only [wCode] at h ⊢
    split
    · rename_i h1;rw [h1] at h;exact wCode_mon (c:=a) h hq
    · rename_i h1;rw [h1] at h;exact wCode_mon (c:=b) h hq
    · rename_i h1 h2
      split at h
      · rename_i h3;exact absurd h3 h1
      · rename_i h3;exact absurd h3 h2
      · exact h
  | .block id body,Q,Q',s,h,hq=>wCode_mon (c:=body) h fun e s h2=>by
    cases e with
    | normal=>exact hq _ _ h2
    | exit id' =>
      simp only [blockQ] at h2 ⊢
      split
      · rename_i h3;rw [if_pos h3] at h2;exact hq _ _ h2
      · rename_i h3;rw [if_neg h3] at h2;exact hq _ _ h2
    | ret=>exact hq _ _ h2
  | .loop body,Q,Q',s,h,hq=>by
    obtain ⟨n,e,s',h1,h2⟩:=h
    exact ⟨n,e,s',h1,hq _ _ h2⟩
  | .scope body,Q,Q',s,h,hq=>wCode_mon (c:=body) h hq
  | .exit id,Q,Q',s,h,hq=>hq _ _ h
  | .ret,Q,Q',s,h,hq=>hq _ _ h
  | .stuck,Q,Q',s,h,hq=>h
  | .rangeF gg f ps nt,Q,Q',s,h,hq=>by
    simp only [wCode] at h ⊢
    split
    · rename_i h1
      rw [h1] at h
      exact ⟨h.1,h.2.mono fun _ H2 ⟨f2,ps2,fr2,h3,h4⟩=>⟨f2,ps2,fr2,h3,hq _ _ h4⟩⟩
    · rename_i h1
      split at h
      · rename_i h3;exact absurd h3 (h1 _ _ _)
      · exact h
theorem wCond_join {c:Bool}{X Y:VCode}{Q:VExit→St→Prop}{s:St}(P:Fr→Lo→Hp→Prop)(hX:c=true→wCode T lim X (seqQ (fun s'=>P s'.fr s'.L s'.H) Q) s)(hY:c=false→wCode T lim Y (seqQ (fun s'=>P s'.fr s'.L s'.H) Q) s)
    (hR:∀fr L H,P fr L H→Q .normal ⟨fr,L,H⟩):wCond T lim (.bool c) X Y Q s:=by
  have hm:∀e s,seqQ (fun s'=>P s'.fr s'.L s'.H) Q e s→Q e s:=fun e s h=>by
    cases e with
    | normal=>exact hR _ _ _ h
    | exit id=>exact h
    | ret=>exact h
  cases c with
  | true=>exact wCode_mon (hX rfl) hm
  | false=>exact wCode_mon (hY rfl) hm
theorem wSeq_join {A B:VCode}{Q:VExit→St→Prop}{s:St}(P:Fr→Lo→Hp→Prop)(hA:wCode T lim A (seqQ (fun s'=>P s'.fr s'.L s'.H) Q) s)(hR:∀fr L H,P fr L H→wCode T lim B Q ⟨fr,L,H⟩):wCode T lim (.seq A B) Q s :=
  wCode_mon (c:=A) hA fun e s h=>by
    cases e with
    | normal=>exact hR _ _ _ h
    | exit id=>exact h
    | ret=>exact h
end
section
variable {lim:Nat}{H H0:Hp}{K:V→Hp→Prop}{b:Nat}{l l0:List EO}
theorem so_partEq (hs:SoS b H0 l0 l H) (hlim:lim≤b) (ho:Ordr cfI) {a e v:Nat} (hae:a≤v∧v<e∧e≤l0.length) (hl:l0.length≤100000)
    (hmin:∀k,a≤k→k<e→leC cfI (l.getD v default) (l.getD k default))
    (hK:∀H' l' m,SoS b H0 l0 l' H'→PermR a e l l'→(a<m∧m≤e)→(∀p q,a≤p→p<m→p<q→q<e→leC cfI (l'.getD p default) (l'.getD q default))→K (.int .i64 (m:Nat)) H'):VCall tbl lim 107 [.sl b 0 l0.length 1,.int .i64 a,.int .i64 e,.int .i64 v] H K:=by
  refine VCall_fn tbl_at107 rfl ?_
  have hn:=hs.n
  have g1:=fun L=>so_ld hs.row (i:=a) (by omega) (L:=L)
  have g2:=fun L=>so_ld hs.row (i:=v) (by omega) (L:=L)
  have w1:=fun L=>so_w1 hs hlim (i:=a) (by omega) (L:=L) (gO l v)
  have w2:=fun L=>so_w2 hs hlim (i:=a) (j:=v) (by omega) (L:=L)
  have hs1:=hs.swap (i:=a) (j:=v) (by omega) (by omega)
  have hp1:PermR a e l (swp l a v):=swp_perm ⟨by omega,by omega⟩ ⟨by omega,by omega⟩ (by omega)
  have e0:(e:Int)-1=((e-1:Nat):Int):=by omega
  have hm1:=least_swp (cf:=cfI) (l:=l) (a:=a) (b:=e) (v:=v) (by omega) (by omega) hmin
  simp (disch:=omega) [vf107,wrap_i64,g1,g2,w1,w2,so_addr,e0,-viaddrS_in,-vstore,-vload_ptrO]
  refine wLoop_m (n:=(e-a)) (fun m fr L H'=>∃l' i j,(fr 0=.sl b 0 l0.length 1∧fr 1=.int .i64 a∧fr 9=.int .i64 (i:Nat)∧fr 10=.int .i64 (j:Nat))∧L=[]∧SoS b H0 l0 l' H'∧PermR a e l l'∧PeI cfI a e i j l'∧j+1-i≤m∧m≤(e-a)) ⟨swp l a v,a+1,e-1,by simp,rfl,hs1,hp1,PeI.start (by omega) hm1,by omega,Nat.le_refl _⟩ ?_
  rintro n fr L H' ⟨l',i,j,⟨f0,f1,f9,f10⟩,rfl,hr,hp,hI,hm,hn2⟩
  simp [f0,f1,f9,f10]
  refine wLoop_post 2 (fun fr L H'=>∃l' i j,(fr 0=.sl b 0 l0.length 1∧fr 1=.int .i64 a∧fr 9=.int .i64 (i:Nat)∧fr 10=.int .i64 (j:Nat))∧L=[]∧SoS b H0 l0 l' H'∧PermR a e l l'∧PeI cfI a e i j l'∧j+1-i≤n∧(i≤j→cfI (gO l' a) (gO l' i)<0)) ?_ ?_
  · refine wLoop_m (n:=n) (fun m fr L H'=>∃l' i j,(fr 0=.sl b 0 l0.length 1∧fr 1=.int .i64 a∧fr 9=.int .i64 (i:Nat)∧fr 10=.int .i64 (j:Nat))∧L=[]∧SoS b H0 l0 l' H'∧PermR a e l l'∧PeI cfI a e i j l'∧j+1-i≤m∧m≤n) ⟨l',i,j,by simp [f0,f1,f9,f10],rfl,hr,hp,hI,hm,Nat.le_refl _⟩ ?_
    clear f0 f1 f9 f10 hr hp hI hm l' i j
    rintro m fr L H' ⟨l',i,j,⟨f0,f1,f9,f10⟩,rfl,hr,hp,hI,hm,hm2⟩
    have hrg:=hI.rng
    have hlen:=hp.len
    by_cases hij:i≤j
    · have hgt:((i:Int)≤(j:Int))=True:=eq_true (by omega)
      have g1:=fun L=>so_ld hr.row (i:=a) (by omega) (L:=L)
      have g2:=fun L=>so_ld hr.row (i:=i) (by omega) (L:=L)
      simp (disch:=omega) [f0,f1,f9,f10,hgt,wrap_i64,g1,g2,so_addr,-viaddrS_in,-vload_ptrO]
      refine so_less hr (i:=a) (j:=i) (by omega) (by omega) fun H2 x2 hr2 => ?_
      simp
      refine cond_ndec (fun hlt => ?_) fun hlt => ?_
      · simp (disch:=omega) [f0,f1,f9,f10,wrap_i64]
        exact ⟨m-1,by omega,l',i+1,j,by omega,hr2,hp,hI.up hij hlt,by omega,by omega⟩
      · simp [f0,f1,f9,f10]
        exact ⟨l',i,j,by omega,hr2,hp,hI,by omega,fun _=>hlt⟩
    · have hgt:((i:Int)≤(j:Int))=False:=eq_false (by omega)
      simp (disch:=omega) [f0,f1,f9,f10,hgt]
      exact ⟨l',i,j,by omega,hr,hp,hI,by omega,fun h=>absurd h hij⟩
  clear f0 f1 f9 f10 hr hp hI hm l' i j
  rintro fr L H' ⟨l',i,j,⟨f0,f1,f9,f10⟩,rfl,hr,hp,hI,hm,hup⟩
  simp [f0,f1,f9,f10]
  refine wLoop_post 4 (fun fr L H'=>∃l' i j,(fr 0=.sl b 0 l0.length 1∧fr 1=.int .i64 a∧fr 9=.int .i64 (i:Nat)∧fr 10=.int .i64 (j:Nat))∧L=[]∧SoS b H0 l0 l' H'∧PermR a e l l'∧PeI cfI a e i j l'∧j+1-i≤n∧(i≤j→cfI (gO l' a) (gO l' i)<0)∧(i≤j→¬cfI (gO l' a) (gO l' j)<0)) ?_ ?_
  · refine wLoop_m (n:=n) (fun m fr L H'=>∃l' i j,(fr 0=.sl b 0 l0.length 1∧fr 1=.int .i64 a∧fr 9=.int .i64 (i:Nat)∧fr 10=.int .i64 (j:Nat))∧L=[]∧SoS b H0 l0 l' H'∧PermR a e l l'∧PeI cfI a e i j l'∧(i≤j→cfI (gO l' a) (gO l' i)<0)∧j+1-i≤m∧m≤n) ⟨l',i,j,by simp [f0,f1,f9,f10],rfl,hr,hp,hI,hup,hm,Nat.le_refl _⟩ ?_
    clear f0 f1 f9 f10 hr hp hI hup hm l' i j
    rintro m fr L H' ⟨l',i,j,⟨f0,f1,f9,f10⟩,rfl,hr,hp,hI,hup,hm,hm2⟩
    have hrg:=hI.rng
    have hlen:=hp.len
    by_cases hij:i≤j
    · have hgt:((i:Int)≤(j:Int))=True:=eq_true (by omega)
      have g1:=fun L=>so_ld hr.row (i:=a) (by omega) (L:=L)
      have g2:=fun L=>so_ld hr.row (i:=j) (by omega) (L:=L)
      simp (disch:=omega) [f0,f1,f9,f10,hgt,wrap_i64,g1,g2,so_addr,-viaddrS_in,-vload_ptrO]
      refine so_less hr (i:=a) (j:=j) (by omega) (by omega) fun H2 x2 hr2 => ?_
      simp
      refine cond_dec (fun hlt => ?_) fun hlt => ?_
      · have e1:(j:Int)-1=((j-1:Nat):Int):=by omega
        simp (disch:=omega) [f0,f1,f9,f10,e1,wrap_i64]
        exact ⟨m-1,by omega,l',i,j-1,by omega,hr2,hp,hI.down hij,fun h=>hup (by omega),by omega,by omega⟩
      · simp [f0,f1,f9,f10]
        exact ⟨l',i,j,by omega,hr2,hp,hI,by omega,hup,fun _=>by omega⟩
    · have hgt:((i:Int)≤(j:Int))=False:=eq_false (by omega)
      simp (disch:=omega) [f0,f1,f9,f10,hgt]
      exact ⟨l',i,j,by omega,hr,hp,hI,by omega,fun h=>absurd h hij,fun h=>absurd h hij⟩
  clear f0 f1 f9 f10 hr hp hI hup hm l' i j
  rintro fr L H' ⟨l',i,j,⟨f0,f1,f9,f10⟩,rfl,hr,hp,hI,hm,hup,hdn⟩
  have hrg:=hI.rng
  have hlen:=hp.len
  by_cases hij:i≤j
  · have hgt:((j:Int)<(i:Int))=False:=eq_false (by omega)
    have hi0:=hup hij
    have hj0:=hdn hij
    have g1:=fun L=>so_ld hr.row (i:=i) (by omega) (L:=L)
    have g2:=fun L=>so_ld hr.row (i:=j) (by omega) (L:=L)
    have w1:=fun L=>so_w1 hr hlim (i:=i) (by omega) (L:=L) (gO l' j)
    have w2:=fun L=>so_w2 hr hlim (i:=i) (j:=j) (by omega) (L:=L)
    have hr4:=hr.swap (i:=i) (j:=j) (by omega) (by omega)
    have hps:=hp.trans (swp_perm (l:=l') (i:=i) (j:=j) (a:=a) (b:=e) ⟨by omega,by omega⟩ ⟨by omega,by omega⟩ (by omega))
    have hI2:=hI.swap ho hij (by omega) hi0 hj0
    have hrg2:=hI2.rng
    have e1:(j:Int)-1=((j-1:Nat):Int):=by omega
    simp (disch:=omega) [f0,f1,f9,f10,hgt,e1,wrap_i64,g1,g2,w1,w2,so_addr,-viaddrS_in,-vstore,-vload_ptrO]
    exact ⟨n-1,by omega,_,i+1,j-1,by omega,hr4,hps,hI2,by omega,by omega⟩
  · have hgt:((j:Int)<(i:Int))=True:=eq_true (by omega)
    simp [f0,f1,f9,f10,hgt]
    exact hK _ _ i hr hp (by omega) (hI.done ho)
end
end Go.Proofs.Ytclghkegfpcdpaa.Vm
namespace Go.Proofs.Ytclghkegfpcdpaa.Vm
open Go
set_option maxRecDepth 100000
set_option maxHeartbeats 1000000
set_option linter.unusedSimpArgs false
set_option linter.unusedVariables false
attribute [-simp] List.getD_eq_getElem?_getD
section
variable {lim:Nat}{H H0:Hp}{K:V→Hp→Prop}{b:Nat}{l l0:List EO}
theorem so_pis (hs:SoS b H0 l0 l H) (hlim:lim≤b) (ho:Ordr cfI) {a e:Nat} (hae:a<e∧e≤l0.length) (hl:l0.length≤100000) (hg:GdR cfI a e l)
    (hK:∀H' l' ok,SoS b H0 l0 l' H'→PermR a e l l'→(ok=true→SortR cfI a e l')→K (.bool ok) H'):VCall tbl lim 105 [.sl b 0 l0.length 1,.int .i64 a,.int .i64 e] H K:=by
  refine VCall_fn tbl_at105 rfl ?_
  have hn:=hs.n
  simp (disch:=omega) [vf105,wrap_i64]
  refine wLoop_up 5 (fun c fr L H'=>∃l' i,(fr 0=.sl b 0 l0.length 1∧fr 1=.int .i64 a∧fr 2=.int .i64 e∧fr 7=.int .i64 (i:Nat)∧fr 8=.int .i64 (c:Nat))∧L=[]∧SoS b H0 l0 l' H'∧PermR a e l l'∧(a+1≤i∧i≤e)∧SortR cfI a i l') ⟨l,a+1,by simp,rfl,hs,PermR.refl,by omega,SortR.one (by omega)⟩ ?_
  rintro c hc5 fr L H' ⟨l',i,⟨f0,f1,f2,f7,f8⟩,rfl,hr,hp,hi,hso⟩
  simp [f0,f1,f2,f7,f8]
  refine cond_dec (fun ht => ?_) fun ht => ?_
  case refine_2 =>
    simp
    exact hK _ _ false hr hp (fun h=>by cases h)
  simp [f0,f1,f2,f7,f8]
  refine wLoop_post 2 (fun fr L H'=>∃l' i,(fr 0=.sl b 0 l0.length 1∧fr 1=.int .i64 a∧fr 2=.int .i64 e∧fr 7=.int .i64 (i:Nat)∧fr 8=.int .i64 (c:Nat))∧L=[]∧SoS b H0 l0 l' H'∧PermR a e l l'∧(a+1≤i∧i≤e)∧SortR cfI a i l'∧(i<e→cfI (gO l' i) (gO l' (i-1))<0)) ?_ ?_
  · refine wLoop_m (n:=e-i) (fun m fr L H'=>∃l' i,(fr 0=.sl b 0 l0.length 1∧fr 1=.int .i64 a∧fr 2=.int .i64 e∧fr 7=.int .i64 (i:Nat)∧fr 8=.int .i64 (c:Nat))∧L=[]∧SoS b H0 l0 l' H'∧PermR a e l l'∧(a+1≤i∧i≤e)∧SortR cfI a i l'∧m=e-i) ⟨l',i,by simp [f0,f1,f2,f7,f8],rfl,hr,hp,hi,hso,rfl⟩ ?_
    clear f0 f1 f2 f7 f8 hr hp hi hso l' i
    rintro m fr L H' ⟨l',i,⟨f0,f1,f2,f7,f8⟩,rfl,hr,hp,hi,hso,hm⟩
    have hlen:=hp.len
    by_cases hie:i<e
    · have hgt:((i:Int)<(e:Int))=True:=eq_true (by omega)
      have e1:((i:Int)-1).toNat=i-1:=by omega
      have g1:=fun L=>so_ld hr.row (i:=i) (by omega) (L:=L)
      have g2:=fun L=>so_ld hr.row (i:=i-1) (by omega) (L:=L)
      simp (disch:=omega) [f0,f1,f2,f7,f8,hgt,e1,wrap_i64,g1,g2,so_addr,-viaddrS_in,-vload_ptrO]
      refine so_less hr (i:=i) (j:=i-1) (by omega) (by omega) fun H2 x2 hr2 => ?_
      simp
      refine cond_ndec (fun hlt => ?_) fun hlt => ?_
      · simp (disch:=omega) [f0,f1,f2,f7,f8,wrap_i64]
        exact ⟨m-1,by omega,l',i+1,by omega,hr2,hp,by omega,hso.next ho (by omega) hlt,by omega⟩
      · simp [f0,f1,f2,f7,f8]
        exact ⟨l',i,by omega,hr2,hp,by omega,hso,fun _=>hlt⟩
    · have hgt:((i:Int)<(e:Int))=False:=eq_false (by omega)
      simp (disch:=omega) [f0,f1,f2,f7,f8,hgt]
      exact ⟨l',i,by omega,hr,hp,by omega,hso,fun h=>absurd h hie⟩
  clear f0 f1 f2 f7 f8 hr hp hi hso l' i
  rintro fr L H' ⟨l',i,⟨f0,f1,f2,f7,f8⟩,rfl,hr,hp,hi,hso,hlt⟩
  have hlen:=hp.len
  simp [f0,f1,f2,f7,f8]
  by_cases hie:i=e
  · subst hie
    simp
    exact hK _ _ true hr hp fun _=>hso
  have hie2:((i:Int)=(e:Int))=False:=eq_false (by omega)
  replace hlt:=hlt (by omega)
  simp (disch:=omega) [hie,hie2,f0,f1,f2,f7,f8,wrap_i64]
  refine cond_dec (fun h50 => ?_) fun h50 => ?_
  · simp
    exact hK _ _ false hr hp (fun h=>by cases h)
  have e1:((i:Int)-1).toNat=i-1:=by omega
  have g1:=fun L=>so_ld hr.row (i:=i) (by omega) (L:=L)
  have g2:=fun L=>so_ld hr.row (i:=i-1) (by omega) (L:=L)
  have w1:=fun L=>so_w1 hr hlim (i:=i) (by omega) (L:=L) (gO l' (i-1))
  have w2:=fun L=>so_w2 hr hlim (i:=i) (j:=i-1) (by omega) (L:=L)
  have hr4:=hr.swap (i:=i) (j:=i-1) (by omega) (by omega)
  have hps:=hp.trans (swp_perm (l:=l') (i:=i) (j:=i-1) (a:=a) (b:=e) ⟨by omega,by omega⟩ ⟨by omega,by omega⟩ (by omega))
  have hso1:SortR cfI a (i-1) (swp l' i (i-1)):=SortR.keep (fun p q h1 h2 h3=>hso p q h1 h2 (by omega)) fun k hk=>by rw [swp_get (by omega) (by omega),if_neg (by omega),if_neg (by omega)]
  simp (disch:=omega) [f0,f1,f2,f7,f8,e1,wrap_i64,g1,g2,w1,w2,so_addr,-viaddrS_in,-vstore,-vload_ptrO]
  generalize swp l' i (i-1)=l1 at *
  generalize H'.set b (rowO l1)=H1 at *
  clear g1 g2 w1 w2 hr hp hso hlt hlen
  refine wCond_join (fun fr L H'=>∃l',(fr 0=.sl b 0 l0.length 1∧fr 1=.int .i64 a∧fr 2=.int .i64 e∧fr 7=.int .i64 (i:Nat)∧fr 8=.int .i64 (c:Nat))∧L=[]∧SoS b H0 l0 l' H'∧PermR a e l l'∧SortR cfI a i l') (fun h2 => ?_) (fun h2 => ?_) ?_
  · simp (disch:=omega) [f0,f1,f2,f7,f8,wrap_i64]
    refine wLoop_m (n:=i-1) (fun m fr L H'=>∃l',(fr 0=.sl b 0 l0.length 1∧fr 1=.int .i64 a∧fr 2=.int .i64 e∧fr 7=.int .i64 (i:Nat)∧fr 8=.int .i64 (c:Nat)∧fr 9=.int .i64 (m:Nat))∧L=[]∧SoS b H0 l0 l' H'∧PermR a e l l'∧InsR cfI a (i-1) m l'∧a≤m∧m≤i-1) ⟨l1,by simp [f0,f1,f2,f7,f8];omega,rfl,hr4,hps,InsR.start hso1,by omega,Nat.le_refl _⟩ ?_
    clear f0 f1 f2 f7 f8
    rintro m fr L H' ⟨l',⟨f0,f1,f2,f7,f8,f9⟩,rfl,hr,hp,hI,ha,hm⟩
    have hlen:=hp.len
    simp [f0,f1,f2,f7,f8,f9]
    refine cond_dec (fun h1 => ?_) fun h1 => ?_
    · have e2:((m:Int)-1).toNat=m-1:=by omega
      have g1:=fun L=>so_ld hr.row (i:=m) (by omega) (L:=L)
      have g2:=fun L=>so_ld hr.row (i:=m-1) (by omega) (L:=L)
      simp (disch:=omega) [f0,f1,f2,f7,f8,f9,e2,wrap_i64,g1,g2,so_addr,-viaddrS_in,-vload_ptrO]
      refine so_less hr (i:=m) (j:=m-1) (by omega) (by omega) fun H2 x2 hr2 => ?_
      simp
      refine cond_ndec (fun hlt => ?_) fun hlt => ?_
      · have hd:=hI.done ho ha hm (Or.inr hlt)
        rw [show i-1+1=i by omega] at hd
        simp [f0,f1,f2,f7,f8]
        exact ⟨l',hr2,hp,hd⟩
      · have ham:a<m:=by
          apply Classical.byContradiction
          intro hn2
          have:m=a:=by omega
          subst this
          exact hg.perm hp (Nat.le_refl _) (Nat.le_refl _) (by omega) (by omega) m (Nat.le_refl _) (by omega) hlt
        have g1:=fun L=>so_ld hr2.row (i:=m) (by omega) (L:=L)
        have g2:=fun L=>so_ld hr2.row (i:=m-1) (by omega) (L:=L)
        have w1:=fun L=>so_w1 hr2 hlim (i:=m) (by omega) (L:=L) (gO l' (m-1))
        have w2:=fun L=>so_w2 hr2 hlim (i:=m) (j:=m-1) (by omega) (L:=L)
        have hr5:=hr2.swap (i:=m) (j:=m-1) (by omega) (by omega)
        have hsw:=InsR.swap ho hI (by omega) (by omega) (by omega) hlt
        have hps5:=hp.trans (swp_perm (l:=l') (i:=m) (j:=m-1) (a:=a) (b:=e) ⟨by omega,by omega⟩ ⟨by omega,by omega⟩ (by omega))
        have e3:(m:Int)-1=((m-1:Nat):Int):=by omega
        simp (disch:=omega) [f0,f1,f2,f7,f8,f9,e2,wrap_i64,g1,g2,w1,w2,so_addr,-viaddrS_in,-vstore,-vload_ptrO]
        exact ⟨m-1,by omega,by omega,swp l' m (m-1),hr5,hps5,hsw,by omega,by omega⟩
    · have hd:=hI.done ho ha hm (Or.inl (by omega))
      rw [show i-1+1=i by omega] at hd
      simp [f0,f1,f2,f7,f8]
      exact ⟨l',hr,hp,hd⟩
  · simp [f0,f1,f2,f7,f8]
    exact ⟨l1,hr4,hps,SortR.one (by simp at h2;omega)⟩
  clear f0 f1 f2 f7 f8 hr4 hps hso1 l1 H1
  rintro fr L H' ⟨l',⟨f0,f1,f2,f7,f8⟩,rfl,hr,hp,hso⟩
  simp (disch:=omega) [f0,f1,f2,f7,f8,wrap_i64]
  refine wCond_join (fun fr L H'=>∃l',(fr 0=.sl b 0 l0.length 1∧fr 1=.int .i64 a∧fr 2=.int .i64 e∧fr 7=.int .i64 (i:Nat)∧fr 8=.int .i64 (c:Nat))∧L=[]∧SoS b H0 l0 l' H'∧PermR a e l l'∧SortR cfI a i l') (fun h2 => ?_) (fun h2 => ?_) ?_
  · simp (disch:=omega) [f0,f1,f2,f7,f8,wrap_i64]
    refine wLoop_up (e-(i+1)) (fun m fr L H'=>∃l',(fr 0=.sl b 0 l0.length 1∧fr 1=.int .i64 a∧fr 2=.int .i64 e∧fr 7=.int .i64 (i:Nat)∧fr 8=.int .i64 (c:Nat)∧fr 10=.int .i64 ((i+1+m:Nat):Int))∧L=[]∧SoS b H0 l0 l' H'∧PermR a e l l'∧SortR cfI a i l') ⟨l',by simp [f0,f1,f2,f7,f8],rfl,hr,hp,hso⟩ ?_
    clear f0 f1 f2 f7 f8 hr hp hso l'
    rintro m hm fr L H' ⟨l',⟨f0,f1,f2,f7,f8,f10⟩,rfl,hr,hp,hso⟩
    have hlen:=hp.len
    simp [f0,f1,f2,f7,f8,f10]
    refine cond_dec (fun h1 => ?_) fun h1 => ?_
    · have e2:((i:Int)+1+(m:Int)).toNat=i+1+m:=by omega
      have e3:((i:Int)+1+(m:Int)-1).toNat=i+m:=by omega
      have g1:=fun L=>so_ld hr.row (i:=i+1+m) (by omega) (L:=L)
      have g2:=fun L=>so_ld hr.row (i:=i+m) (by omega) (L:=L)
      simp (disch:=omega) [f0,f1,f2,f7,f8,f10,e2,e3,wrap_i64,g1,g2,so_addr,-viaddrS_in,-vload_ptrO]
      refine so_less hr (i:=i+1+m) (j:=i+m) (by omega) (by omega) fun H2 x2 hr2 => ?_
      simp
      refine cond_ndec (fun hlt => ?_) fun hlt => ?_
      · simp [f0,f1,f2,f7,f8]
        exact ⟨l',hr2,hp,hso⟩
      · have g1:=fun L=>so_ld hr2.row (i:=i+1+m) (by omega) (L:=L)
        have g2:=fun L=>so_ld hr2.row (i:=i+m) (by omega) (L:=L)
        have w1:=fun L=>so_w1 hr2 hlim (i:=i+1+m) (by omega) (L:=L) (gO l' (i+m))
        have w2:=fun L=>so_w2 hr2 hlim (i:=i+1+m) (j:=i+m) (by omega) (L:=L)
        have hr5:=hr2.swap (i:=i+1+m) (j:=i+m) (by omega) (by omega)
        have hps5:=hp.trans (swp_perm (l:=l') (i:=i+1+m) (j:=i+m) (a:=a) (b:=e) ⟨by omega,by omega⟩ ⟨by omega,by omega⟩ (by omega))
        have hso5:SortR cfI a i (swp l' (i+1+m) (i+m)):=hso.keep fun k hk=>by rw [swp_get (by omega) (by omega),if_neg (by omega),if_neg (by omega)]
        simp (disch:=omega) [f0,f1,f2,f7,f8,f10,e2,e3,wrap_i64,g1,g2,w1,w2,so_addr,-viaddrS_in,-vstore,-vload_ptrO]
        exact ⟨by omega,by omega,_,hr5,hps5,hso5⟩
    · simp [f0,f1,f2,f7,f8]
      exact ⟨l',hr,hp,hso⟩
  · simp [f0,f1,f2,f7,f8]
    exact ⟨l',hr,hp,hso⟩
  clear f0 f1 f2 f7 f8 hr hp hso l'
  rintro fr L H' ⟨l',⟨f0,f1,f2,f7,f8⟩,rfl,hr,hp,hso⟩
  simp (disch:=omega) [f0,f1,f2,f7,f8,wrap_i64]
  exact ⟨by omega,l',i,by omega,hr,hp,by omega,hso⟩
def powChk (r:Option (V×Hp))(x:Nat):Bool:=match r with
  | some (.int .u64 m,[])=>decide (0≤m∧(x:Int)<m∧m≤2*(x:Int))||decide (x=0)
  | _=>false
def lenChk (r:Option (V×Hp)):Bool:=match r with
  | some (.int .i64 m,[])=>decide (0≤m∧m≤100)
  | _=>false
theorem pow_all:(List.range 256).all (fun x=>powChk (evFn (cloT tbl) 60 0 120 [.int .i64 x] []) x)=true:=by kernel_rfl
theorem len_all:(List.range 256).all (fun x=>lenChk (evFn (cloT tbl) 60 0 98 [.int .u64 x] []))=true:=by kernel_rfl
theorem so_pow {x:Nat}(hx:0<x∧x<256)(hlim:lim≤H.length)(hK:∀m:Nat,x<m→m≤2*x→K (.int .u64 m) H):VCall tbl lim 120 [.int .i64 x] H K:=by
  have h:=List.all_eq_true.1 pow_all x (List.mem_range.2 hx.2)
  cases hr:evFn (cloT tbl) 60 0 120 [.int .i64 x] [] with
  | none=>rw [hr] at h;cases h
  | some r =>
    obtain ⟨v,H1⟩:=r
    rw [hr] at h
    unfold powChk at h
    split at h
    · rename_i m he
      cases he
      have:=evFn_sh (G:=H) tbl 60 0 lim _ _ [] _ _ (by omega) hr
      have e:shH H []=H:=by simp [shH]
      rw [e] at this
      simp at h
      refine ⟨60,.int .u64 m,H,by simpa [shs,sh] using this,?_⟩
      have e2:m=((m.toNat:Nat):Int):=by omega
      rw [e2]
      exact hK _ (by omega) (by omega)
    · cases h
theorem so_bits {x:Nat}(hx:x<256)(hlim:lim≤H.length)(hK:∀m:Nat,m≤100→K (.int .i64 m) H):VCall tbl lim 98 [.int .u64 x] H K:=by
  have h:=List.all_eq_true.1 len_all x (List.mem_range.2 hx)
  cases hr:evFn (cloT tbl) 60 0 98 [.int .u64 x] [] with
  | none=>rw [hr] at h;cases h
  | some r =>
    obtain ⟨v,H1⟩:=r
    rw [hr] at h
    unfold lenChk at h
    split at h
    · rename_i m he
      cases he
      have:=evFn_sh (G:=H) tbl 60 0 lim _ _ [] _ _ (by omega) hr
      have e:shH H []=H:=by simp [shH]
      rw [e] at this
      simp at h
      refine ⟨60,.int .i64 m,H,by simpa [shs,sh] using this,?_⟩
      have e2:m=((m.toNat:Nat):Int):=by omega
      rw [e2]
      exact hK _ (by omega)
    · cases h
theorem shl_u {a:Int}:vbin .shl (.int .u64 a) (.int .u64 13)=some (.int .u64 (IntKind.wrap .u64 (a*2 ^ 13))):=Eq.trans rfl rfl
theorem shl_u2 {a:Int}:vbin .shl (.int .u64 a) (.int .u64 17)=some (.int .u64 (IntKind.wrap .u64 (a*2 ^ 17))):=Eq.trans rfl rfl
theorem shr_u {a:Int}:vbin .shr (.int .u64 a) (.int .u64 7)=some (.int .u64 (a.fdiv (2 ^ 7))):=Eq.trans rfl rfl
theorem su_ld {s:Nat}{w:Int}(h:H[s]? = some (.row [.int .u64 w] true)){L:Lo}:vload none L H (.ptr s 0)=some (.int .u64 w):=by
  rw [vload_ptr h];rfl
theorem su_st {s:Nat}{r:Blk}{z w:Int}(h:H[s]? = some (.row [.int .u64 w] true))(hl:lim≤s){L:Lo}:vstore lim L H (.ptr s 0) (.int .u64 z) 1=some (L,H.set s (.row [.int .u64 z] true)):=by
  simp [vstore,vstoreH,h,hl,splice]
theorem so_next {s:Nat}{w:Int}(h:H[s]? = some (.row [.int .u64 w] true))(hl:lim≤s)(hK:∀z,K (.int .u64 z) (H.set s (.row [.int .u64 z] true))):VCall tbl lim 121 [.ptr s 0] H K:=by
  refine VCall_fn tbl_at121 rfl ?_
  have hb:=(List.getElem?_eq_some_iff.1 h).1
  have ld:=fun L=>su_ld h (L:=L)
  have st:=fun L z=>su_st (lim:=lim) (r:=.row [] true) h hl (L:=L) (z:=z)
  have row:∀z,(H.set s (.row [.int .u64 z] true))[s]? = some (.row [.int .u64 z] true):=fun z=>by simp [hb]
  have ld2:=fun z L=>su_ld (row z) (L:=L)
  have st2:∀y z L,vstore lim L (H.set s (.row [.int .u64 y] true)) (.ptr s 0) (.int .u64 z) 1=some (L,H.set s (.row [.int .u64 z] true)):=fun y z L=>by
    rw [su_st (r:=.row [] true) (row y) hl,List.set_set]
  simp [vf121,ld,st,ld2,st2,shl_u,shl_u2,shr_u,vbin_xor,-vstore,-vload_ptrO]
  exact hK _
end
end Go.Proofs.Ytclghkegfpcdpaa.Vm
namespace Go.Proofs.Ytclghkegfpcdpaa.Vm
open Go
set_option maxRecDepth 100000
set_option maxHeartbeats 1000000
set_option linter.unusedSimpArgs false
set_option linter.unusedVariables false
attribute [-simp] List.getD_eq_getElem?_getD
theorem and_lt {x:Int}{m:Nat}(hm:0<m∧m<1000):∃o:Nat,o<m∧vbin .and (.int .u64 x) (.int .u64 ((m:Int)-1))=some (.int .u64 o):=by
  have h2:(BitVec.ofInt 64 ((m:Int)-1)).toNat=m-1:=by
    rw [BitVec.toNat_ofInt];omega
  have h1:(BitVec.ofInt 64 x &&& BitVec.ofInt 64 ((m:Int)-1)).toNat≤m-1:=by
    rw [BitVec.toNat_and,h2];exact Nat.and_le_right
  refine ⟨(BitVec.ofInt 64 x &&& BitVec.ofInt 64 ((m:Int)-1)).toNat,by omega,?_⟩
  rw [vbin_and]
  have:IntKind.wrap .u64 (((BitVec.ofInt (IntKind.bits .u64) x &&& BitVec.ofInt (IntKind.bits .u64) ((m:Int)-1)).toNat:Nat):Int)=((BitVec.ofInt 64 x &&& BitVec.ofInt 64 ((m:Int)-1)).toNat:Nat):=by
    show IntKind.wrap .u64 (((BitVec.ofInt 64 x &&& BitVec.ofInt 64 ((m:Int)-1)).toNat:Nat):Int)=_
    generalize (BitVec.ofInt 64 x &&& BitVec.ofInt 64 ((m:Int)-1)).toNat=o at *
    simp [IntKind.wrap,IntKind.bits,IntKind.signed];omega
  rw [this]
theorem wrap_u64 {n:Int}(h:0≤n∧n<1000000):IntKind.wrap .u64 n=n:=by
  simp [IntKind.wrap,IntKind.bits,IntKind.signed];omega
section
variable {lim:Nat}{H H0:Hp}{K:V→Hp→Prop}{b:Nat}{l l0:List EO}
theorem so_break (hs:SoS b H0 l0 l H)(hlim:lim≤b){a e:Nat}(hae:a+8≤e∧e≤l0.length)(hl:l0.length<256)
    (hK:∀H' l',SoS b H0 l0 l' H'→PermR a e l l'→K (.tup []) H'):VCall tbl lim 102 [.sl b 0 l0.length 1,.int .i64 a,.int .i64 e] H K:=by
  refine VCall_fn tbl_at102 rfl ?_
  have hn:=hs.n
  have hb:=hs.blt
  have hle:=hs.len
  obtain ⟨d,rfl⟩:∃d,e=a+d:=⟨e-a,by omega⟩
  have e0:(a:Int)+(d:Int)-(a:Int)=(d:Int):=by omega
  have e8:((8:Int)≤(d:Int))=True:=eq_true (by omega)
  have eq4:(d:Int).tdiv 4=((d / 4:Nat):Int):=tdiv_nat _ 4
  have hd4:2*(d / 4)≤d / 2∧2≤d / 4∧4*(d / 4)≤d:=by omega
  have wu:∀k:Nat,k<256→IntKind.wrap .u64 (k:Int)=k:=fun k hk=>wrap_u64 (by omega)
  have stn:∀L,vstore lim L (H++[Blk.row [V.int .u64 0] true]) (.ptr H.length 0) (.int .u64 d) 1=some (L,H++[Blk.row [V.int .u64 d] true]):=fun L=>by
    rw [su_st (r:=.row [] true) (w:=0) (by simp) (by omega)];simp
  simp (disch:=omega) [vf102,wrap_i64,e0,e8,eq4,wu,stn,-vstore]
  have row1:(H++[Blk.row [V.int .u64 d] true])[H.length]? = some (.row [.int .u64 d] true):=by simp
  have hs1:SoS b H0 l0 l (H++[Blk.row [V.int .u64 d] true]):=hs.grow HX.push
  have hl1:H.length<(H++[Blk.row [V.int .u64 d] true]).length:=by simp
  generalize H++[Blk.row [V.int .u64 d] true]=H1 at *
  refine so_pow (x:=d) (by omega) (by omega) fun m hm1 hm2 => ?_
  simp (disch:=omega) [wrap_i64,e0,e8,eq4]
  refine wLoop_up 3 (fun i fr L H'=>∃l' w,(fr 0=.sl b 0 l0.length 1∧fr 1=.int .i64 a∧fr 6=.int .i64 d∧fr 7=.ptr H.length 0∧fr 8=.int .u64 m∧fr 9=.int .i64 ((a+(d / 4*2-1)+i:Nat):Int))∧L=[]∧SoS b H0 l0 l' H'∧H'[H.length]? = some (.row [.int .u64 w] true)∧PermR a (a+d) l l') ⟨l,d,by simp;omega,rfl,hs1,row1,PermR.refl⟩ ?_
  rintro i hi fr L H' ⟨l',w,⟨f0,f1,f6,f7,f8,f9⟩,rfl,hr,hw,hp⟩
  have hlen:=hp.len
  simp (disch:=omega) [f0,f1,f6,f7,f8,f9,eq4,wrap_i64]
  refine cond_dec (fun ht => ?_) fun ht => ?_
  · have hi2:i<3:=by omega
    simp [f0,f1,f6,f7,f8,f9]
    refine so_next hw (by omega) fun z => ?_
    have hr2:=hr.aside (s:=H.length) (r:=.row [.int .u64 z] true) hle
    have hw2:(H'.set H.length (.row [.int .u64 z] true))[H.length]? = some (.row [.int .u64 z] true):=by
      rw [List.getElem?_set_self (List.getElem?_eq_some_iff.1 hw).1]
    generalize H'.set H.length (.row [.int .u64 z] true)=H2 at *
    obtain ⟨o,ho,hand⟩:=and_lt (x:=z) (m:=m) (by omega)
    have wm:IntKind.wrap .u64 ((m:Int)-1)=(m:Int)-1:=wrap_u64 (by omega)
    simp (disch:=omega) [f0,f1,f6,f7,f8,f9,wm,hand,wrap_i64]
    refine wCond_join (fun fr L H'=>∃o:Nat,(fr 0=.sl b 0 l0.length 1∧fr 1=.int .i64 a∧fr 6=.int .i64 d∧fr 7=.ptr H.length 0∧fr 8=.int .u64 m∧fr 9=.int .i64 ((a+(d / 4*2-1)+i:Nat):Int)∧fr 10=.int .i64 (o:Nat))∧L=[]∧H'=H2∧o<d) (fun h => ?_) (fun h => ?_) ?_
    · simp at h
      simp (disch:=omega) [f0,f1,f6,f7,f8,f9,wrap_i64]
      exact ⟨o-d,by omega,by omega⟩
    · simp at h
      simp [f0,f1,f6,f7,f8,f9]
      exact ⟨o,rfl,by omega⟩
    clear f0 f1 f6 f7 f8 f9
    rintro fr L H3 ⟨q,⟨f0,f1,f6,f7,f8,f9,f10⟩,rfl,rfl,hq⟩
    have e1:((a:Int)+((d / 4*2-1:Nat):Int)+(i:Int)).toNat=a+(d / 4*2-1)+i:=by omega
    have e2:((a:Int)+(q:Int)).toNat=a+q:=by omega
    have g1:=fun L=>so_ld hr2.row (i:=a+(d / 4*2-1)+i) (by omega) (L:=L)
    have g2:=fun L=>so_ld hr2.row (i:=a+q) (by omega) (L:=L)
    have w1:=fun L=>so_w1 hr2 hlim (i:=a+(d / 4*2-1)+i) (by omega) (L:=L) (gO l' (a+q))
    have w2:=fun L=>so_w2 hr2 hlim (i:=a+(d / 4*2-1)+i) (j:=a+q) (by omega) (L:=L)
    have hr5:=hr2.swap (i:=a+(d / 4*2-1)+i) (j:=a+q) (by omega) (by omega)
    have hps5:=hp.trans (swp_perm (l:=l') (i:=a+(d / 4*2-1)+i) (j:=a+q) (a:=a) (b:=a+d) ⟨by omega,by omega⟩ ⟨by omega,by omega⟩ (by omega))
    have hw5:(H3.set b (rowO (swp l' (a+(d / 4*2-1)+i) (a+q))))[H.length]? = some (.row [.int .u64 z] true):=by
      rw [List.getElem?_set_ne (by omega)];exact hw2
    simp (disch:=omega) [f0,f1,f6,f7,f8,f9,f10,e1,e2,wrap_i64,g1,g2,w1,w2,so_addr,-viaddrS_in,-vstore,-vload_ptrO]
    exact ⟨by omega,by omega,_,hr5,⟨z,hw2⟩,hps5⟩
  · simp
    exact hK _ _ hr hp
theorem so_choose (hs:SoS b H0 l0 l H)(hlim:lim≤b){a e:Nat}(hae:a+8≤e∧e≤l0.length)(hl:l0.length≤100000)
    (hK:∀H' (v h:Nat),SoS b H0 l0 l H'→(a≤v∧v<e)→K (.tup [.int .i64 (v:Nat),.int .i64 (h:Nat)]) H'):VCall tbl lim 103 [.sl b 0 l0.length 1,.int .i64 a,.int .i64 e] H K:=by
  refine VCall_fn tbl_at103 rfl ?_
  have hn:=hs.n
  have hb:=hs.blt
  have hle:=hs.len
  obtain ⟨d,rfl⟩:∃d,e=a+d:=⟨e-a,by omega⟩
  have e0:(a:Int)+(d:Int)-(a:Int)=(d:Int):=by omega
  have e8:((8:Int)≤(d:Int))=True:=eq_true (by omega)
  obtain ⟨q,eq4,hd4⟩:∃q:Nat,(d:Int).tdiv 4=(q:Int)∧4*q≤d∧d≤4*q+3:=⟨d / 4,tdiv_nat _ 4,by omega,by omega⟩
  simp (disch:=omega) [vf103,wrap_i64,e0,e8,eq4]
  have row1:(H++[Blk.row [V.int .i64 0] true])[H.length]? = some (.row [.int .i64 0] true):=by simp
  have hs1:SoS b H0 l0 l (H++[Blk.row [V.int .i64 0] true]):=hs.grow HX.push
  generalize H++[Blk.row [V.int .i64 0] true]=H1 at *
  generalize H.length=sw at *
  refine wCond_join (fun fr L H'=>∃i j k w,(fr 0=.sl b 0 l0.length 1∧fr 9=.ptr sw 0∧fr 10=.int .i64 (i:Nat)∧fr 11=.int .i64 (j:Nat)∧fr 12=.int .i64 (k:Nat))∧L=[]∧SoS b H0 l0 l H'∧H'[sw]? = some (.row [.int .i64 w] true)∧(a≤i∧i<a+d)∧(a≤j∧j<a+d)∧a≤k∧k<a+d) (fun h => ?_) (fun h => ?_) ?_
  · simp at h
    have c1:(a:Int)+(q:Int)=((a+q:Nat):Int):=by omega
    have c2:(a:Int)+(q:Int)*2=((a+q*2:Nat):Int):=by omega
    have c3:(a:Int)+(q:Int)*3=((a+q*3:Nat):Int):=by omega
    simp only [c1,c2,c3]
    generalize hi:a+q=i at *
    generalize hj:a+q*2=j at *
    generalize hk:a+q*3=k at *
    simp []
    refine so_medianAdj hs1 hlim   row1 hle (x:=i) (by omega) hl fun H2 w2 r2 hs2 row2 h2 => ?_
    simp []
    refine so_medianAdj hs2 hlim   row2 hle (x:=j) (by omega) hl fun H3 w3 r3 hs3 row3 h3 => ?_
    simp []
    refine so_medianAdj hs3 hlim   row3 hle (x:=k) (by omega) hl fun H4 w4 r4 hs4 row4 h4 => ?_
    simp
    exact ⟨r2,r3,r4,by omega,hs4,⟨w4,row4⟩,by omega,by omega,by omega,by omega⟩
  · simp
    exact ⟨a+q,a+q*2,a+q*3,by omega,hs1,⟨0,row1⟩,by omega,by omega,by omega,by omega⟩
  rintro fr L H2 ⟨i,j,k,w,⟨f0,f9,f10,f11,f12⟩,rfl,hs2,row2,hi,hj,hk⟩
  simp [f0,f9,f10,f11,f12]
  refine so_median hs2 hlim   row2 hle (x:=i) (y:=j) (z:=k) (by omega) (by omega) (by omega) fun H3 w3 r hs3 row3 h3 => ?_
  have ld:=fun L=>sw_ld row3 (L:=L)
  simp [f0,f9,f10,f11,f12,ld,-vload_ptrO]
  refine cond_dec (fun h => ?_) fun h => ?_
  · simp
    exact hK _ r 1 hs3 (by omega)
  simp
  refine cond_dec (fun h => ?_) fun h => ?_
  · simp
    exact hK _ r 2 hs3 (by omega)
  · simp
    exact hK _ r 0 hs3 (by omega)
theorem so_pdq (ho:Ordr cfI) (hlim:lim≤b) (hl:l0.length<256):∀(n:Nat) {H:Hp} {l:List EO} {a e:Nat} {lm:Nat} {K:V→Hp→Prop},e-a≤n→SoS b H0 l0 l H→(a≤e∧e≤l0.length)→lm≤1000→GdR cfI a e l →
    (∀H' l',SoS b H0 l0 l' H'→PermR a e l l'→SortR cfI a e l'→K (.tup []) H')→VCall tbl lim 97 [.sl b 0 l0.length 1,.int .i64 a,.int .i64 e,.int .i64 lm] H K:=by
  intro n
  induction n using Nat.strongRecOn with
  | ind n ih =>
  intro H l a e lm K hn hs hae hlm hg hK
  have hb:=hs.blt
  refine VCall_fn tbl_at97 rfl ?_
  have hln:=hs.n
  simp [vf97]
  refine wLoop_m (n:=e-a) (fun m fr L H'=>∃l' a' e' lm wb wp,(fr 0=.sl b 0 l0.length 1∧fr 1=.int .i64 (a':Nat)∧fr 2=.int .i64 (e':Nat)∧fr 3=.int .i64 (lm:Nat)∧fr 8=.bool wb∧fr 9=.bool wp)∧L=[]∧SoS b H0 l0 l' H'∧PermR a e l l'∧OutR cfI a e a' e' l'∧GdR cfI a' e' l'∧lm≤1000∧m=e'-a'∧m≤e-a) ⟨l,a,e,lm,true,true,by simp,rfl,hs,PermR.refl,OutR.start hae.1,hg,hlm,rfl,Nat.le_refl _⟩ ?_
  clear hs hg hlm
  rintro m fr L H1 ⟨l1,x,y,lm1,wb,wp,⟨f0,f1,f2,f3,f8,f9⟩,rfl,hs,hp,hO,hg,hlm,hm,hm2⟩
  have hlen:=hp.len
  have hrg:=hO.rng
  have e0:(y:Int)-(x:Int)=((y-x:Nat):Int):=by omega
  simp (disch:=omega) [f0,f1,f2,f3,f8,f9,wrap_i64]
  refine cond_dec (fun h12 => ?_) fun h12 => ?_
  · simp [f0,f1,f2,f3,f8,f9]
    refine so_isort hs hlim   ho (a:=x) (e:=y) (by omega) (by omega) fun H2 l2 hs2 hp2 hso2 => ?_
    simp
    exact hK _ _ hs2 (hp.trans (hp2.wide hrg.1 hrg.2.2)) ((hO.perm hp2 (by omega)).sort hso2)
  simp [f0,f1,f2,f3,f8,f9]
  by_cases hz:lm1=0
  · subst hz
    simp [f0,f1,f2,f3,f8,f9]
    refine so_heap hs hlim   ho (a:=x) (e:=y) (by omega) (by omega) fun H2 l2 hs2 hp2 hso2 => ?_
    simp
    exact hK _ _ hs2 (hp.trans (hp2.wide hrg.1 hrg.2.2)) ((hO.perm hp2 (by omega)).sort hso2)
  simp [f0,f1,f2,f3,f8,f9,hz]
  refine wCond_join (fun fr L H'=>∃l' lm,(fr 0=.sl b 0 l0.length 1∧fr 1=.int .i64 x∧fr 2=.int .i64 y∧fr 3=.int .i64 (lm:Nat)∧fr 8=.bool wb∧fr 9=.bool wp∧fr 10=.int .i64 ((y:Int)-(x:Int)))∧L=[]∧SoS b H0 l0 l' H'∧PermR a e l l'∧OutR cfI a e x y l'∧GdR cfI x y l'∧lm≤1000) (fun h => ?_) (fun h => ?_) ?_
  · simp [f0,f1,f2,f3,f8,f9]
    refine so_break hs hlim (a:=x) (e:=y) (by omega) (by omega) fun H2 l2 hs2 hp2 => ?_
    have e1:(lm1:Int)-1=((lm1-1:Nat):Int):=by omega
    simp (disch:=omega) [f0,f1,f2,f3,f8,f9,wrap_i64,e1]
    exact ⟨l2,lm1-1,by omega,hs2,hp.trans (hp2.wide hrg.1 hrg.2.2),hO.perm hp2 (by omega),hg.perm hp2 (Nat.le_refl _) (Nat.le_refl _) (by omega),by omega⟩
  · simp [f0,f1,f2,f3,f8,f9]
    exact ⟨l1,lm1,by omega,hs,hp,hO,hg,by omega⟩
  clear f0 f1 f2 f3 f8 f9 hs hp hO hg hlen hlm hz
  rintro fr L H2 ⟨l2,lm2,⟨f0,f1,f2,f3,f8,f9,f10⟩,rfl,hs,hp,hO,hg,hlm⟩
  have hlen:=hp.len
  simp [f0,f1,f2,f3,f8,f9,f10]
  refine so_choose hs hlim   (a:=x) (e:=y) (by omega) (by omega) fun H3 v hint hs3 hv => ?_
  simp [f0,f1,f2,f3,f8,f9,f10]
  refine wCond_join (fun fr L H'=>∃l' v hint,(fr 0=.sl b 0 l0.length 1∧fr 1=.int .i64 x∧fr 2=.int .i64 y∧fr 3=.int .i64 (lm2:Nat)∧fr 8=.bool wb∧fr 9=.bool wp∧fr 10=.int .i64 ((y:Int)-(x:Int))∧fr 11=.int .i64 (v:Nat)∧fr 12=.int .i64 (hint:Nat))∧L=[]∧SoS b H0 l0 l' H'∧PermR a e l l'∧OutR cfI a e x y l'∧GdR cfI x y l'∧x≤v∧v<y) (fun h => ?_) (fun h => ?_) ?_
  · simp [f0,f1,f2,f3,f8,f9]
    refine so_reverse hs3 hlim (a:=x) (e:=y) (by omega) (by omega) fun H4 l4 hs4 hp4 => ?_
    simp (disch:=omega) [f0,f1,f2,f3,f8,f9,f10,wrap_i64]
    exact ⟨l4,(y-1)-(v-x),⟨by omega,1,rfl⟩,hs4,hp.trans (hp4.wide hrg.1 hrg.2.2),hO.perm hp4 (by omega),hg.perm hp4 (Nat.le_refl _) (Nat.le_refl _) (by omega),by omega,by omega⟩
  · simp [f0,f1,f2,f3,f8,f9,f10]
    exact ⟨l2,v,⟨rfl,hint,rfl⟩,hs3,hp,hO,hg,by omega,by omega⟩
  clear f0 f1 f2 f3 f8 f9 f10 hs hs3 hp hO hg hlen hv
  rintro fr L H4 ⟨l4,v,hint,⟨f0,f1,f2,f3,f8,f9,f10,f11,f12⟩,rfl,hs,hp,hO,hg,hv⟩
  have hlen:=hp.len
  rw [seqQ_normal]
  refine wSeq_join (fun fr L H'=>∃l' wb wp,(fr 0=.sl b 0 l0.length 1∧fr 1=.int .i64 x∧fr 2=.int .i64 y∧fr 3=.int .i64 (lm2:Nat)∧fr 10=.int .i64 ((y:Int)-(x:Int))∧fr 11=.int .i64 (v:Nat)∧fr 8=.bool wb∧fr 9=.bool wp)∧L=[]∧SoS b H0 l0 l' H'∧PermR a e l l'∧OutR cfI a e x y l'∧GdR cfI x y l') ?_ ?_
  · have pis:∀(fr:Fr),fr 0=.sl b 0 l0.length 1→True:=fun _ _=>trivial
    by_cases hh:wb=true∧wp=true∧hint=1
    · obtain ⟨rfl,rfl,rfl⟩:=hh
      simp [f0,f1,f2,f3,f8,f9,f10,f11,f12]
      refine so_pis hs hlim   ho (a:=x) (e:=y) (by omega) (by omega) hg fun H5 l5 ok hs5 hp5 hso5 => ?_
      cases ok with
      | true =>
        simp
        exact hK _ _ hs5 (hp.trans (hp5.wide hrg.1 hrg.2.2)) ((hO.perm hp5 (by omega)).sort (hso5 rfl))
      | false =>
        simp [f0,f1,f2,f3,f8,f9,f10,f11,f12]
        exact ⟨l5,hs5,hp.trans (hp5.wide hrg.1 hrg.2.2),hO.perm hp5 (by omega),hg.perm hp5 (Nat.le_refl _) (Nat.le_refl _) (by omega)⟩
    · have fin:∃l',SoS b H0 l0 l' H4∧PermR a e l l'∧OutR cfI a e x y l'∧GdR cfI x y l':=⟨l4,hs,hp,hO,hg⟩
      cases wb with
      | false =>
        simp [f0,f1,f2,f3,f8,f9,f10,f11,f12]
        exact fin
      | true =>
        cases wp with
        | false =>
          simp [f0,f1,f2,f3,f8,f9,f10,f11,f12]
          exact fin
        | true =>
          have h1:((hint:Int)=1)=False:=eq_false (by simp at hh;omega)
          simp [f0,f1,f2,f3,f8,f9,f10,f11,f12,h1]
          exact fin
  clear f0 f1 f2 f3 f8 f9 f10 f11 f12 hs hp hO hg hlen
  rintro fr L H5 ⟨l5,wb,wp,⟨f0,f1,f2,f3,f10,f11,f8,f9⟩,rfl,hs,hp,hO,hg⟩
  have hlen:=hp.len
  refine wSeq_join (fun fr L H'=>∃l' wb wp,(fr 0=.sl b 0 l0.length 1∧fr 1=.int .i64 x∧fr 2=.int .i64 y∧fr 3=.int .i64 (lm2:Nat)∧fr 10=.int .i64 ((y:Int)-(x:Int))∧fr 11=.int .i64 (v:Nat)∧fr 8=.bool wb∧fr 9=.bool wp)∧L=[]∧SoS b H0 l0 l' H'∧PermR a e l l'∧OutR cfI a e x y l'∧GdR cfI x y l') ?_ ?_
  · by_cases hx0:x=0
    · have h0:(0<x)=False:=eq_false (by omega)
      simp [f0,f1,f2,f3,f8,f9,f10,f11,h0]
      exact ⟨l5,hs,hp,hO,hg⟩
    · have h0:(0<x)=True:=eq_true (by omega)
      have e1:((x:Int)-1).toNat=x-1:=by omega
      have g1:=fun L=>so_ld hs.row (i:=x-1) (by omega) (L:=L)
      have g2:=fun L=>so_ld hs.row (i:=v) (by omega) (L:=L)
      simp (disch:=omega) [f0,f1,f2,f3,f8,f9,f10,f11,h0,e1,wrap_i64,g1,g2,so_addr,-viaddrS_in,-vload_ptrO]
      refine so_less hs (i:=x-1) (j:=v) (by omega) (by omega) fun H6 x6 hs6 => ?_
      simp
      refine cond_ndec (fun hlt => ?_) fun hlt => ?_
      · simp [f0,f1,f2,f3,f8,f9,f10,f11]
        refine so_partEq hs6 hlim   ho (a:=x) (e:=y) (v:=v) (by omega) (by omega) (hg.least ho (by omega) hlt) fun H7 l7 q hs7 hp7 hq heq => ?_
        have hO7:=(hO.perm hp7 (by omega)).equal (m:=q) (by omega) heq
        simp [f0,f1,f2,f3,f8,f9,f10,f11]
        exact ⟨y-q,by omega,l7,q,y,lm2,by omega,hs7,hp.trans (hp7.wide hrg.1 hrg.2.2),hO7,hO7.guard (by omega),by omega,rfl,by omega⟩
      · simp [f0,f1,f2,f3,f8,f9,f10,f11]
        exact ⟨l5,hs6,hp,hO,hg⟩
  clear f0 f1 f2 f3 f8 f9 f10 f11 hs hp hO hg hlen
  rintro fr L H6 ⟨l6,wb,wp,⟨f0,f1,f2,f3,f10,f11,f8,f9⟩,rfl,hs,hp,hO,hg⟩
  have hlen:=hp.len
  simp [f0,f1,f2,f3,f8,f9,f10,f11]
  refine so_part hs hlim   ho (a:=x) (e:=y) (v:=v) (by omega) (by omega) fun H7 l7 q ok hs7 hp7 hq => ?_
  have hqr:=hq.rng
  have hO7:=hO.perm hp7 (by omega)
  have hp77:=hp.trans (hp7.wide hrg.1 hrg.2.2)
  have hl7:=hp77.len
  simp (disch:=omega) [f0,f1,f2,f3,f8,f9,f10,f11,wrap_i64]
  refine cond_dec (fun hlr => ?_) fun hlr => ?_
  · simp [f0,f1,f2,f3,f8,f9,f10,f11]
    refine ih (q-x) (by omega) (Nat.le_refl _) hs7 (by omega) hlm ((hg.perm hp7 (Nat.le_refl _) (Nat.le_refl _) (by omega)).less (by omega)) fun H8 l8 hs8 hp8 hso8 => ?_
    have hO8:=hO7.left ho hq hp8 hso8 (by omega)
    simp (disch:=omega) [f0,f1,f2,f3,f8,f9,f10,f11,wrap_i64]
    exact ⟨y-(q+1),by omega,l8,q+1,y,lm2,by omega,hs8,hp77.trans (hp8.wide (by omega) (by omega)),hO8,hO8.guard (by omega),by omega,rfl,by omega⟩
  · have e1:(q:Int)+1=((q+1:Nat):Int):=by omega
    simp (disch:=omega) [f0,f1,f2,f3,f8,f9,f10,f11,wrap_i64]
    rw [e1]
    refine ih (y-(q+1)) (by omega) (Nat.le_refl _) hs7 (by omega) hlm (fun _ k h1 h2=>hq.hi k (by omega) h2) fun H8 l8 hs8 hp8 hso8 => ?_
    have hO8:=hO7.right ho hq hp8 hso8 (by omega)
    simp (disch:=omega) [f0,f1,f2,f3,f8,f9,f10,f11,wrap_i64]
    exact ⟨q-x,by omega,l8,x,q,lm2,by omega,hs8,hp77.trans (hp8.wide (by omega) (by omega)),hO8,((hg.perm hp7 (Nat.le_refl _) (Nat.le_refl _) (by omega)).perm hp8 (by omega) (Nat.le_refl _) (by omega)).less (by omega),by omega,rfl,by omega⟩
theorem so_sort (hb:H[b]? = some (rowO l))(hlim:lim≤b)(ho:Ordr cfI)(hl:l.length<256)
    (hK:∀H' l',SoS b H l l' H'→SortR cfI 0 l.length l'→K (.tup []) H'):VCall tbl lim 87 [.sl b 0 l.length 1] H K:=by
  refine VCall_fn tbl_at87 rfl ?_
  have hbl:=(List.getElem?_eq_some_iff.1 hb).1
  have wu:IntKind.wrap .u64 (l.length:Int)=(l.length:Int):=wrap_u64 (by omega)
  simp [vf87,wu]
  refine so_bits (x:=l.length) hl (by omega) fun m hm => ?_
  simp []
  refine so_pdq (a:=0) (e:=l.length)  ho  hlim hl l.length (by omega) (SoS.start hb) (by omega) (by omega) (fun h=>by omega) fun H' l' hs hp hso => ?_
  simp
  exact hK _ _ hs hso
end
end Go.Proofs.Ytclghkegfpcdpaa.Vm
namespace Go.Proofs.Ytclghkegfpcdpaa.Vm
open Go
set_option maxRecDepth 100000
set_option linter.unusedSimpArgs false
set_option linter.unusedVariables false
attribute [-simp] List.getD_eq_getElem?_getD
structure Pnt where
  v:V
  i:Bool
  a:Int
  d:Int
  k:Int
  deriving Inhabited
def Pnt.cells (e:Pnt):List V:=[e.v,.bool e.i,.int .i64 e.a,.int .i64 e.d]
def pntC:Cod Pnt 4:=⟨Pnt.cells,fun _=>rfl⟩
abbrev EQ:=Pnt
def gE (l:List EQ)(i:Nat):EQ:=l.getD i default
def eV (x:EQ):V:=.agg x.cells
def rowB (l:List EQ):Blk:=.row (pntC.all l) true
theorem stor_eV {x:EQ}:stor (eV x)=true:=Eq.trans rfl rfl
attribute [simp] stor_eV
theorem sq_addr {b n:Nat}{i:Int}(h:0≤i∧i<n):viaddrS 4 (.sl b 0 n 4) (.int .i64 i)=some (V.ptr b (i.toNat*4)):=by
  rw [viaddrS_in (by omega),Nat.zero_add]
theorem sq_ld {H:Hp}{b:Nat}{l:List EQ}(h:H[b]? = some (rowB l)){i:Nat}(hi:i<l.length){L:Lo}:vload (some 4) L H (V.ptr b (i*4))=some (eV (gE l i)):=by
  have o:OwnT 0 pntC H (.sl b 0 l.length 4) l:=.row (Nat.zero_le _) h
  have:=o.lst.load hi (L:=L)
  rw [show ept 4 (.sl b 0 l.length 4) i=.ptr b (0+i*4) from rfl,Nat.zero_add] at this
  exact this
theorem sq_st {lim:Nat}{H:Hp}{b:Nat}{l:List EQ}(h:H[b]? = some (rowB l))(hlim:lim≤b){i:Nat}(hi:i<l.length){L:Lo}(x:EQ):vstore lim L H (V.ptr b (i*4)) (eV x) 4=some (L,H.set b (rowB (l.set i x))):=by
  have o:OwnT b pntC H (.sl b 0 l.length 4) l:=.row (Nat.le_refl _) h
  have:=o.store (lim:=lim) (i:=i) (j:=0) (x:=eV x) (y:=x) (L:=L) (sz:=4) hlim hi rfl rfl (by omega) (by
    show x.cells=splice (l.getD i default).cells 0 x.cells
    simp [Pnt.cells,splice])
  rw [show eptf 4 (.sl b 0 l.length 4) i 0=.ptr b (0+i*4+0) from rfl,Nat.zero_add,Nat.add_zero] at this
  exact this
structure SqS (b:Nat)(H0:Hp)(l0 l:List EQ)(H:Hp):Prop where
  row:H[b]? = some (rowB l)
  len:H0.length≤H.length
  oth:∀b',b'<H0.length→b'≠b→H[b']? = H0[b']?
  perm:l.Perm l0
  blt:b<H0.length
def CmpQ (b g:Nat)(fs cs:List V)(H0:Hp)(l0:List EQ)(cf:EQ→EQ→Int):Prop :=
  ∀(H:Hp) (lim:Nat) (x y:EQ) (K:V→Hp→Prop),x∈l0→y∈l0→H0.length≤H.length→(∀b',b'<H0.length→b'≠b→H[b']? = H0[b']?)→(∀H',HX H H'→K (.int .i64 (cf x y)) H')→VCall tbl lim g (fs++eV x :: eV y :: cs) H K
section
variable {lim:Nat}{H H0:Hp}{K:V→Hp→Prop}{b g:Nat}{l l0:List EQ}{cf:EQ→EQ→Int}{fs cs:List V}
theorem SqS.n (h:SqS b H0 l0 l H):l.length=l0.length:=h.perm.length_eq
theorem SqS.start (hb:H[b]? = some (rowB l)):SqS b H l l H:=⟨hb,Nat.le_refl _,fun _ _ _=>rfl,.refl _,(List.getElem?_eq_some_iff.1 hb).1⟩
theorem SqS.lt (h:SqS b H0 l0 l H):b<H.length:=(List.getElem?_eq_some_iff.1 h.row).1
theorem SqS.grow {H':Hp}(h:SqS b H0 l0 l H)(x:HX H H'):SqS b H0 l0 l H' :=
  ⟨x.get h.row,Nat.le_trans h.len x.len,fun b' h1 h2=>(x.same (Nat.lt_of_lt_of_le h1 h.len)).trans (h.oth b' h1 h2),h.perm,h.blt⟩
theorem SqS.set {l':List EQ}(h:SqS b H0 l0 l H)(hp:l'.Perm l0):SqS b H0 l0 l' (H.set b (rowB l')) :=
  ⟨by simp [h.lt],by simpa using h.len,fun b' h1 h2=>by rw [List.getElem?_set_ne (fun e=>h2 e.symm)];exact h.oth b' h1 h2,hp,h.blt⟩
theorem SqS.swap (h:SqS b H0 l0 l H){i j:Nat}(hi:i<l.length)(hj:j<l.length):SqS b H0 l0 (swp l i j) (H.set b (rowB (swp l i j))) :=
  h.set ((swp_perm (a:=0) (b:=l.length) ⟨Nat.zero_le _,hi⟩ ⟨Nat.zero_le _,hj⟩ (Nat.le_refl _)).perm.trans h.perm)
theorem SqS.aside (h:SqS b H0 l0 l H){s:Nat}{r:Blk}(hs:H0.length≤s):SqS b H0 l0 l (H.set s r):=by
  have:=h.blt
  exact ⟨by rw [List.getElem?_set_ne (by omega)];exact h.row,by simpa using h.len,fun b' h1 h2=>by rw [List.getElem?_set_ne (by omega)];exact h.oth b' h1 h2,h.perm,h.blt⟩
theorem SqS.mem (h:SqS b H0 l0 l H){i:Nat}(hi:i<l.length):gE l i∈l0:=by
  rw [gE,←h.perm.mem_iff,getD_of hi];exact List.getElem_mem hi
theorem CmpQ.at (hc:CmpQ b g fs cs H0 l0 cf)(hs:SqS b H0 l0 l H){i j:Nat}(hi:i<l.length)(hj:j<l.length){lim:Nat}{K:V→Hp→Prop}(hK:∀H',HX H H'→SqS b H0 l0 l H'→K (.int .i64 (cf (gE l i) (gE l j))) H') :
    VCall tbl lim g (fs++eV (gE l i) :: eV (gE l j) :: cs) H K :=
  hc H lim _ _ K (hs.mem hi) (hs.mem hj) hs.len hs.oth fun H' x=>hK H' x (hs.grow x)
theorem sq_w1 (h:SqS b H0 l0 l H)(hlim:lim≤b){i:Nat}(hi:i<l.length){L:Lo}(x:EQ):vstore lim L H (V.ptr b (i*4)) (eV x) 4=some (L,H.set b (rowB (l.set i x))):=sq_st h.row hlim hi x
theorem sq_w2 (h:SqS b H0 l0 l H)(hlim:lim≤b){i j:Nat}(hj:j<l.length){L:Lo}:vstore lim L (H.set b (rowB (l.set i (gE l j)))) (V.ptr b (j*4)) (eV (gE l i)) 4=some (L,H.set b (rowB (swp l i j))):=by
  rw [sq_st (l:=l.set i (gE l j)) (by simp [h.lt]) hlim (by simpa using hj),List.set_set];rfl
theorem sq_isort (hs:SqS b H0 l0 l H) (hlim:lim≤b) (hst:allStor fs=true∧allStor cs=true∧g≠3999999) (hc:CmpQ b g fs cs H0 l0 cf) (ho:Ordr cf) {a e:Nat} (hae:a≤e∧e≤l0.length) (hl:l0.length≤100000)
    (hK:∀H' l',SqS b H0 l0 l' H'→PermR a e l l'→SortR cf a e l'→K (.tup []) H'):VCall tbl lim 111 [.sl b 0 l0.length 4,.int .i64 a,.int .i64 e,.func (.func g) fs cs] H K:=by
  refine VCall_fn tbl_at111 rfl ?_
  have hn:=hs.n
  simp (disch:=omega) [vf111,wrap_i64]
  refine wLoop_up (e-(a+1)) (fun i fr L H'=>∃l',(fr 0=.sl b 0 l0.length 4∧fr 1=.int .i64 a∧fr 2=.int .i64 e∧fr 3=.func (.func g) fs cs∧fr 8=.int .i64 ((a+1+i:Nat):Int))∧L=[]∧SqS b H0 l0 l' H'∧PermR a e l l'∧SortR cf a (min e (a+1+i)) l') ⟨l,by simp,rfl,hs,PermR.refl,fun p q h1 h2 h3=>by omega⟩ ?_
  rintro i hi fr L H' ⟨l',⟨f0,f1,f2,f3,f8⟩,rfl,hr,hp,hs'⟩
  simp [f0,f1,f2,f3,f8]
  refine cond_dec (fun ht => ?_) fun hfl => ?_
  · have ht:i<e-(a+1):=by omega
    rw [Nat.min_eq_right (by omega)] at hs'
    simp [f8]
    refine wLoop_m (n:=i+1) (fun m fr L H'=>∃l',(fr 0=.sl b 0 l0.length 4∧fr 1=.int .i64 a∧fr 2=.int .i64 e∧fr 3=.func (.func g) fs cs∧fr 8=.int .i64 ((a+1+i:Nat):Int)∧fr 9=.int .i64 ((a+m:Nat):Int))∧L=[]∧SqS b H0 l0 l' H'∧PermR a e l l'∧m≤i+1∧InsR cf a (a+1+i) (a+m) l') ⟨l',by simp [f0,f1,f2,f3,f8];omega,rfl,hr,hp,Nat.le_refl _,by rw [show a+(i+1)=a+1+i by omega];exact InsR.start hs'⟩ ?_
    clear f0 f1 f2 f3 f8 hr hp hs' l'
    rintro m fr L H' ⟨l',⟨f0,f1,f2,f3,f8,f9⟩,rfl,hr,hp,hm,hI⟩
    have hlen:=hp.len
    by_cases hm0:m=0
    · subst hm0
      have hs2:=hI.done ho (by omega) (by omega) (Or.inl rfl)
      simp (disch:=omega) [f0,f1,f2,f3,f8,f9,wrap_i64]
      refine ⟨by omega,by omega,l',hr,hp,?_⟩
      rw [show a+1+(i+1)=a+1+i+1 by omega];exact hs2
    · have e1:((a:Int)+(m:Int)).toNat=a+m:=by omega
      have e2:((a:Int)+(m:Int)-1).toNat=a+m-1:=by omega
      have g1:=fun L=>sq_ld hr.row (i:=a+m) (by omega) (L:=L)
      have g2:=fun L=>sq_ld hr.row (i:=a+m-1) (by omega) (L:=L)
      have hgt:((a:Int)<(a:Int)+(m:Int))=True:=eq_true (by omega)
      simp (disch:=omega) [f0,f1,f2,f3,f8,f9,hgt,wrap_i64,e1,e2,g1,g2,hst,sq_addr,-viaddrS_in,-vload_ptrO]
      refine hc.at hr (i:=a+m) (j:=a+m-1) (by omega) (by omega) fun H2 x2 hr2 => ?_
      have g1:=fun L=>sq_ld hr2.row (i:=a+m) (by omega) (L:=L)
      have g2:=fun L=>sq_ld hr2.row (i:=a+m-1) (by omega) (L:=L)
      simp
      refine cond_dec (fun hlt => ?_) fun hlt => ?_
      · have w1:=fun L=>sq_w1 hr2 hlim (i:=a+m) (by omega) (L:=L) (gE l' (a+m-1))
        have w2:=fun L=>sq_w2 hr2 hlim (i:=a+m) (j:=a+m-1) (by omega) (L:=L)
        have hr4:=hr2.swap (i:=a+m) (j:=a+m-1) (by omega) (by omega)
        have hsw:=InsR.swap ho hI (by omega) (by omega) (by omega) hlt
        have hsw:InsR cf a (a+1+i) (a+(m-1)) (swp l' (a+m) (a+m-1)):=by
          have e3:a+(m-1)=a+m-1:=by omega
          rw [e3];exact hsw
        have hps:=hp.trans (swp_perm (l:=l') (i:=a+m) (j:=a+m-1) (a:=a) (b:=e) ⟨by omega,by omega⟩ ⟨by omega,by omega⟩ (by omega))
        simp (disch:=omega) [f0,f1,f2,f3,f8,f9,wrap_i64,e1,e2,g1,g2,w1,w2,sq_addr,-viaddrS_in,-vstore,-vload_ptrO]
        exact ⟨m-1,by omega,by omega,_,hr4,hps,by omega,hsw⟩
      · have hs2:=hI.done ho (by omega) (by omega) (Or.inr hlt)
        simp (disch:=omega) [f0,f1,f2,f3,f8,f9,wrap_i64]
        refine ⟨by omega,by omega,l',hr2,hp,?_⟩
        rw [show a+1+(i+1)=a+1+i+1 by omega];exact hs2
  · have:e≤a+1+i:=by omega
    rw [Nat.min_eq_left this] at hs'
    simp
    exact hK _ _ hr hp hs'
theorem sq_order2 {s x y:Nat}{w:Int}(hs:SqS b H0 l0 l H)(hlim:lim≤b)(hst:allStor fs=true∧allStor cs=true∧g≠3999999)(hc:CmpQ b g fs cs H0 l0 cf)(hsw:H[s]? = some (.row [.int .i64 w] true))(hs0:H0.length≤s)(hx:x<l0.length)(hy:y<l0.length)
    (hK:∀H' w' x' y',SqS b H0 l0 l H'→H'[s]? = some (.row [.int .i64 w'] true)→((x'=x∧y'=y)∨(x'=y∧y'=x))→K (.tup [.int .i64 (x':Nat),.int .i64 (y':Nat)]) H') :
    VCall tbl lim 129 [.sl b 0 l0.length 4,.int .i64 x,.int .i64 y,.ptr s 0,.func (.func g) fs cs] H K:=by
  refine VCall_fn tbl_at129 rfl ?_
  have hn:=hs.n
  have g1:=fun L=>sq_ld hs.row (i:=x) (by omega) (L:=L)
  have g2:=fun L=>sq_ld hs.row (i:=y) (by omega) (L:=L)
  simp (disch:=omega) [vf129,g1,g2,hst,sq_addr,-viaddrS_in,-vload_ptrO]
  refine hc.at hs (i:=y) (j:=x) (by omega) (by omega) fun H2 x2 hs2 => ?_
  have hsw2:=x2.get hsw
  have hbl:=hs.blt
  simp
  refine cond_dec (fun hlt => ?_) fun hlt => ?_
  · have ld:=fun L=>sw_ld (L:=L) hsw2
    have st:=fun L z=>sw_st (lim:=lim) (L:=L) (z:=z) hsw2 (by omega)
    simp [ld,st,-vstore,-vload_ptrO]
    exact hK _ _ y x (hs2.aside hs0) (by rw [List.getElem?_set_self (List.getElem?_eq_some_iff.1 hsw2).1]) (Or.inr ⟨rfl,rfl⟩)
  · simp
    exact hK _ _ x y hs2 hsw2 (Or.inl ⟨rfl,rfl⟩)
theorem sq_median {s x y z:Nat}{w:Int}(hs:SqS b H0 l0 l H)(hlim:lim≤b)(hst:allStor fs=true∧allStor cs=true∧g≠3999999)(hc:CmpQ b g fs cs H0 l0 cf)(hsw:H[s]? = some (.row [.int .i64 w] true))(hs0:H0.length≤s)(hx:x<l0.length)(hy:y<l0.length)(hz:z<l0.length)
    (hK:∀H' w' r,SqS b H0 l0 l H'→H'[s]? = some (.row [.int .i64 w'] true)→(r=x∨r=y∨r=z)→K (.int .i64 (r:Nat)) H') :
    VCall tbl lim 127 [.sl b 0 l0.length 4,.int .i64 x,.int .i64 y,.int .i64 z,.ptr s 0,.func (.func g) fs cs] H K:=by
  refine VCall_fn tbl_at127 rfl ?_
  simp [vf127,hst]
  refine sq_order2 hs hlim hst hc hsw hs0 hx hy fun H1 w1 x1 y1 hs1 hsw1 h1 => ?_
  simp [hst]
  refine sq_order2 hs1 hlim hst hc hsw1 hs0 (x:=y1) (y:=z) (by omega) hz fun H2 w2 x2 y2 hs2 hsw2 h2 => ?_
  simp [hst]
  refine sq_order2 hs2 hlim hst hc hsw2 hs0 (x:=x1) (y:=x2) (by omega) (by omega) fun H3 w3 x3 y3 hs3 hsw3 h3 => ?_
  simp
  exact hK _ _ _ hs3 hsw3 (by omega)
theorem sq_medianAdj {s x:Nat}{w:Int}(hs:SqS b H0 l0 l H)(hlim:lim≤b)(hst:allStor fs=true∧allStor cs=true∧g≠3999999)(hc:CmpQ b g fs cs H0 l0 cf)(hsw:H[s]? = some (.row [.int .i64 w] true))(hs0:H0.length≤s)(hx:0<x∧x+1<l0.length)(hl:l0.length≤100000)
    (hK:∀H' w' r,SqS b H0 l0 l H'→H'[s]? = some (.row [.int .i64 w'] true)→(x-1≤r∧r≤x+1)→K (.int .i64 (r:Nat)) H') :
    VCall tbl lim 126 [.sl b 0 l0.length 4,.int .i64 x,.ptr s 0,.func (.func g) fs cs] H K:=by
  refine VCall_fn tbl_at126 rfl ?_
  have e1:(x:Int)-1=((x-1:Nat):Int):=by omega
  have e2:(x:Int)+1=((x+1:Nat):Int):=by omega
  simp (disch:=omega) [vf126,hst,wrap_i64]
  rw [e1,e2]
  refine sq_median hs hlim hst hc hsw hs0 (x:=x-1) (y:=x) (z:=x+1) (by omega) (by omega) (by omega) fun H1 w1 r hs1 hsw1 h1 => ?_
  simp
  exact hK _ _ _ hs1 hsw1 (by omega)
theorem sq_reverse (hs:SqS b H0 l0 l H)(hlim:lim≤b){a e:Nat}{f:V}(hae:a<e∧e≤l0.length)(hl:l0.length≤100000)
    (hK:∀H' l',SqS b H0 l0 l' H'→PermR a e l l'→K (.tup []) H'):VCall tbl lim 115 [.sl b 0 l0.length 4,.int .i64 a,.int .i64 e,f] H K:=by
  refine VCall_fn tbl_at115 rfl ?_
  have hn:=hs.n
  simp (disch:=omega) [vf115,wrap_i64]
  refine wLoop_up (e-a) (fun i fr L H'=>∃l',(fr 0=.sl b 0 l0.length 4∧fr 8=.int .i64 ((a+i:Nat):Int)∧fr 9=.int .i64 ((e-1:Nat)-(i:Nat):Int))∧L=[]∧SqS b H0 l0 l' H'∧PermR a e l l') ⟨l,by simp;omega,rfl,hs,PermR.refl⟩ ?_
  rintro i hi fr L H' ⟨l',⟨f0,f8,f9⟩,rfl,hr,hp⟩
  have hlen:=hp.len
  simp [f0,f8,f9]
  refine cond_dec (fun ht => ?_) fun hfl => ?_
  · have e1:((a:Int)+(i:Int)).toNat=a+i:=by omega
    have e2:(((e-1:Nat):Int)-(i:Int)).toNat=e-1-i:=by omega
    have g1:=fun L=>sq_ld hr.row (i:=a+i) (by omega) (L:=L)
    have g2:=fun L=>sq_ld hr.row (i:=e-1-i) (by omega) (L:=L)
    have w1:=fun L=>sq_w1 hr hlim (i:=a+i) (by omega) (L:=L) (gE l' (e-1-i))
    have w2:=fun L=>sq_w2 hr hlim (i:=a+i) (j:=e-1-i) (by omega) (L:=L)
    have hr4:=hr.swap (i:=a+i) (j:=e-1-i) (by omega) (by omega)
    have hps:=hp.trans (swp_perm (l:=l') (i:=a+i) (j:=e-1-i) (a:=a) (b:=e) ⟨by omega,by omega⟩ ⟨by omega,by omega⟩ (by omega))
    simp (disch:=omega) [f0,f8,f9,wrap_i64,e1,e2,g1,g2,w1,w2,sq_addr,-viaddrS_in,-vstore,-vload_ptrO]
    exact ⟨by omega,by omega,_,hr4,hps⟩
  · simp
    exact hK _ _ hr hp
end
end Go.Proofs.Ytclghkegfpcdpaa.Vm
namespace Go.Proofs.Ytclghkegfpcdpaa.Vm
open Go
set_option maxRecDepth 100000
set_option maxHeartbeats 1000000
set_option linter.unusedSimpArgs false
set_option linter.unusedVariables false
attribute [-simp] List.getD_eq_getElem?_getD
section
variable {lim:Nat}{H H0:Hp}{K:V→Hp→Prop}{b g:Nat}{l l0:List EQ}{cf:EQ→EQ→Int}{fs cs:List V}
theorem sq_sift (hs:SqS b H0 l0 l H) (hlim:lim≤b) (hst:allStor fs=true∧allStor cs=true∧g≠3999999) (hc:CmpQ b g fs cs H0 l0 cf) (ho:Ordr cf) {f lo hi:Nat} (hf:f+hi≤l0.length∧lo<hi+1) (hl:l0.length≤100000) (hp:HpR cf f (lo+1) hi l)
    (hK:∀H' l',SqS b H0 l0 l' H'→PermR f (f+hi) l l'→HpR cf f lo hi l'→K (.tup []) H') :
    VCall tbl lim 125 [.sl b 0 l0.length 4,.int .i64 lo,.int .i64 hi,.int .i64 f,.func (.func g) fs cs] H K:=by
  refine VCall_fn tbl_at125 rfl ?_
  have hn:=hs.n
  simp (disch:=omega) [vf125,wrap_i64]
  refine wLoop_m (n:=hi+1-lo) (fun m fr L H'=>∃l' r,(fr 0=.sl b 0 l0.length 4∧fr 2=.int .i64 hi∧fr 3=.int .i64 f∧fr 4=.func (.func g) fs cs∧fr 10=.int .i64 (r:Nat))∧L=[]∧SqS b H0 l0 l' H'∧PermR f (f+hi) l l'∧SfI cf f lo hi r l'∧r≤hi∧m=hi+1-r) ⟨l,lo,by simp,rfl,hs,PermR.refl,SfI.start hp,by omega,rfl⟩ ?_
  rintro m fr L H' ⟨l',r,⟨f0,f2,f3,f4,f10⟩,rfl,hr,hpp,hI,hrh,hm⟩
  have hlen:=hpp.len
  simp (disch:=omega) [f0,f2,f3,f4,f10,wrap_i64]
  refine cond_dec (fun ht => ?_) fun ht => ?_
  · simp
    exact hK _ _ hr hpp (hI.end1 (by omega))
  have h1:2*r+1<hi:=by omega
  have e1:((f:Int)+(2*(r:Int)+1)).toNat=f+(2*r+1):=by omega
  have e2:((f:Int)+(2*(r:Int)+1)+1).toNat=f+(2*r+1+1):=by omega
  have e3:((f:Int)+(r:Int)).toNat=f+r:=by omega
  have e4:((f:Int)+(2*(r:Int)+1+1)).toNat=f+(2*r+1+1):=by omega
  have g1:=fun L=>sq_ld hr.row (i:=f+(2*r+1)) (by omega) (L:=L)
  by_cases h2:2*r+1+1<hi
  · have g2:=fun L=>sq_ld hr.row (i:=f+(2*r+1+1)) (by omega) (L:=L)
    have hgt:(2*(r:Int)+1+1<(hi:Int))=True:=eq_true (by omega)
    simp (disch:=omega) [f0,f2,f3,f4,f10,hgt,wrap_i64,e1,e2,g1,g2,hst,sq_addr,-viaddrS_in,-vload_ptrO]
    refine hc.at hr (i:=f+(2*r+1)) (j:=f+(2*r+1+1)) (by omega) (by omega) fun H2 x2 hr2 => ?_
    simp
    refine cond_dec (fun hlt => ?_) fun hlt => ?_
    · have ch0:=ChR.two ho h2 hlt
      have ch:ChR cf f hi r (2*r+1+1) l':=ch0
      have hcr:=ch.rng
      have g3:=fun L=>sq_ld hr2.row (i:=f+r) (by omega) (L:=L)
      have g4:=fun L=>sq_ld hr2.row (i:=f+(2*r+1+1)) (by omega) (L:=L)
      simp (disch:=omega) [f0,f2,f3,f4,f10,wrap_i64,e1,e2,e3,e4,g3,g4,hst,sq_addr,-viaddrS_in,-vload_ptrO]
      refine hc.at hr2 (i:=f+r) (j:=f+(2*r+1+1)) (by omega) (by omega) fun H3 x3 hr3 => ?_
      simp
      refine cond_ndec (fun hlt => ?_) fun hlt => ?_
      · simp
        exact hK _ _ hr3 hpp (hI.end2 ho ch hlt)
      · have g3:=fun L=>sq_ld hr3.row (i:=f+r) (by omega) (L:=L)
        have g4:=fun L=>sq_ld hr3.row (i:=f+(2*r+1+1)) (by omega) (L:=L)
        have w1:=fun L=>sq_w1 hr3 hlim (i:=f+r) (by omega) (L:=L) (gE l' (f+(2*r+1+1)))
        have w2:=fun L=>sq_w2 hr3 hlim (i:=f+r) (j:=f+(2*r+1+1)) (by omega) (L:=L)
        have hr4:=hr3.swap (i:=f+r) (j:=f+(2*r+1+1)) (by omega) (by omega)
        have hps:=hpp.trans (swp_perm (l:=l') (i:=f+r) (j:=f+(2*r+1+1)) (a:=f) (b:=f+hi) ⟨by omega,by omega⟩ ⟨by omega,by omega⟩ (by omega))
        have hI2:=hI.step ho ch (by omega) hlt
        simp (disch:=omega) [f0,f2,f3,f4,f10,wrap_i64,e1,e2,e3,e4,g3,g4,w1,w2,sq_addr,-viaddrS_in,-vstore,-vload_ptrO]
        exact ⟨hi+1-(2*r+1+1),by omega,_,2*r+1+1,by omega,hr4,hps,hI2,by omega,rfl⟩
    · have ch0:=ChR.one ho (hi:=hi) (l:=l') (f:=f) h1 (fun h=>hlt h.2)
      have ch:ChR cf f hi r (2*r+1) l':=ch0
      have hcr:=ch.rng
      have g3:=fun L=>sq_ld hr2.row (i:=f+r) (by omega) (L:=L)
      have g4:=fun L=>sq_ld hr2.row (i:=f+(2*r+1)) (by omega) (L:=L)
      simp (disch:=omega) [f0,f2,f3,f4,f10,wrap_i64,e1,e2,e3,e4,g3,g4,hst,sq_addr,-viaddrS_in,-vload_ptrO]
      refine hc.at hr2 (i:=f+r) (j:=f+(2*r+1)) (by omega) (by omega) fun H3 x3 hr3 => ?_
      simp
      refine cond_ndec (fun hlt => ?_) fun hlt => ?_
      · simp
        exact hK _ _ hr3 hpp (hI.end2 ho ch hlt)
      · have g3:=fun L=>sq_ld hr3.row (i:=f+r) (by omega) (L:=L)
        have g4:=fun L=>sq_ld hr3.row (i:=f+(2*r+1)) (by omega) (L:=L)
        have w1:=fun L=>sq_w1 hr3 hlim (i:=f+r) (by omega) (L:=L) (gE l' (f+(2*r+1)))
        have w2:=fun L=>sq_w2 hr3 hlim (i:=f+r) (j:=f+(2*r+1)) (by omega) (L:=L)
        have hr4:=hr3.swap (i:=f+r) (j:=f+(2*r+1)) (by omega) (by omega)
        have hps:=hpp.trans (swp_perm (l:=l') (i:=f+r) (j:=f+(2*r+1)) (a:=f) (b:=f+hi) ⟨by omega,by omega⟩ ⟨by omega,by omega⟩ (by omega))
        have hI2:=hI.step ho ch (by omega) hlt
        simp (disch:=omega) [f0,f2,f3,f4,f10,wrap_i64,e1,e2,e3,e4,g3,g4,w1,w2,sq_addr,-viaddrS_in,-vstore,-vload_ptrO]
        exact ⟨hi+1-(2*r+1),by omega,_,2*r+1,by omega,hr4,hps,hI2,by omega,rfl⟩
  · have ch0:=ChR.one ho (hi:=hi) (l:=l') (f:=f) h1 (fun h=>h2 h.1)
    have hgd:decide (2*(r:Int)+1+1<(hi:Int))=false:=decide_eq_false (by omega)
    simp (disch:=omega) [f0,f2,f3,f4,f10,hgd,wrap_i64,-viaddrS_in]
    have ch:ChR cf f hi r (2*r+1) l':=ch0
    have hcr:=ch.rng
    have g3:=fun L=>sq_ld hr.row (i:=f+r) (by omega) (L:=L)
    have g4:=fun L=>sq_ld hr.row (i:=f+(2*r+1)) (by omega) (L:=L)
    simp (disch:=omega) [f0,f2,f3,f4,f10,wrap_i64,e1,e2,e3,e4,g3,g4,hst,sq_addr,-viaddrS_in,-vload_ptrO]
    refine hc.at hr (i:=f+r) (j:=f+(2*r+1)) (by omega) (by omega) fun H3 x3 hr3 => ?_
    simp
    refine cond_ndec (fun hlt => ?_) fun hlt => ?_
    · simp
      exact hK _ _ hr3 hpp (hI.end2 ho ch hlt)
    · have g3:=fun L=>sq_ld hr3.row (i:=f+r) (by omega) (L:=L)
      have g4:=fun L=>sq_ld hr3.row (i:=f+(2*r+1)) (by omega) (L:=L)
      have w1:=fun L=>sq_w1 hr3 hlim (i:=f+r) (by omega) (L:=L) (gE l' (f+(2*r+1)))
      have w2:=fun L=>sq_w2 hr3 hlim (i:=f+r) (j:=f+(2*r+1)) (by omega) (L:=L)
      have hr4:=hr3.swap (i:=f+r) (j:=f+(2*r+1)) (by omega) (by omega)
      have hps:=hpp.trans (swp_perm (l:=l') (i:=f+r) (j:=f+(2*r+1)) (a:=f) (b:=f+hi) ⟨by omega,by omega⟩ ⟨by omega,by omega⟩ (by omega))
      have hI2:=hI.step ho ch (by omega) hlt
      simp (disch:=omega) [f0,f2,f3,f4,f10,wrap_i64,e1,e2,e3,e4,g3,g4,w1,w2,sq_addr,-viaddrS_in,-vstore,-vload_ptrO]
      exact ⟨hi+1-(2*r+1),by omega,_,2*r+1,by omega,hr4,hps,hI2,by omega,rfl⟩
theorem sq_heap (hs:SqS b H0 l0 l H)(hlim:lim≤b)(hst:allStor fs=true∧allStor cs=true∧g≠3999999)(hc:CmpQ b g fs cs H0 l0 cf)(ho:Ordr cf){a e:Nat}(hae:a<e∧e≤l0.length)(hl:l0.length≤100000)
    (hK:∀H' l',SqS b H0 l0 l' H'→PermR a e l l'→SortR cf a e l'→K (.tup []) H'):VCall tbl lim 112 [.sl b 0 l0.length 4,.int .i64 a,.int .i64 e,.func (.func g) fs cs] H K:=by
  refine VCall_fn tbl_at112 rfl ?_
  have hn:=hs.n
  obtain ⟨d,rfl⟩:∃d,e=a+d:=⟨e-a,by omega⟩
  have ed:((a+d:Nat):Int)-(a:Int)=(d:Int):=by omega
  have e0:(a:Int)+(d:Int)-(a:Int)=(d:Int):=by omega
  have eq2:((d:Int)-1).tdiv 2=(((d-1) / 2:Nat):Int):=by
    have:(d:Int)-1=((d-1:Nat):Int):=by omega
    rw [this];exact tdiv_nat _ 2
  simp (disch:=omega) [vf112,wrap_i64,ed,e0,eq2]
  refine wLoop_post 0 (fun fr L H'=>∃l',(fr 0=.sl b 0 l0.length 4∧fr 3=.func (.func g) fs cs∧fr 8=.int .i64 a∧fr 9=.int .i64 0∧fr 10=.int .i64 d)∧L=[]∧SqS b H0 l0 l' H'∧PermR a (a+d) l l'∧HpR cf a 0 d l') ?_ ?_
  · refine wLoop_m (n:=(d-1) / 2+1) (fun m fr L H'=>∃l',(fr 0=.sl b 0 l0.length 4∧fr 3=.func (.func g) fs cs∧fr 8=.int .i64 a∧fr 9=.int .i64 0∧fr 10=.int .i64 d∧fr 11=.int .i64 ((m:Nat)-1:Int))∧L=[]∧SqS b H0 l0 l' H'∧PermR a (a+d) l l'∧HpR cf a m d l'∧m≤(d-1) / 2+1) ⟨l,by simp,rfl,hs,PermR.refl,HpR.none,Nat.le_refl _⟩ ?_
    rintro m fr L H' ⟨l',⟨f0,f3,f8,f9,f10,f11⟩,rfl,hr,hp,hH,hm⟩
    have hlen:=hp.len
    simp [f0,f3,f8,f9,f10,f11]
    refine cond_dec (fun ht => ?_) fun ht => ?_
    · obtain ⟨k,rfl⟩:∃k,m=k+1:=⟨m-1,by omega⟩
      have e1:((k+1:Nat):Int)-1=(k:Int):=by omega
      have e2:(k:Int)+1-1=(k:Int):=by omega
      simp [f0,f3,f8,f9,f10,f11,e1,e2,hst]
      refine sq_sift hr hlim hst hc ho (f:=a) (lo:=k) (hi:=d) (by omega) hl hH fun H2 l2 hr2 hp2 hH2 => ?_
      simp (disch:=omega) [f0,f3,f8,f9,f10,f11,e1,e2,wrap_i64]
      exact ⟨k,by omega,by omega,l2,hr2,hp.trans hp2,hH2,by omega⟩
    · have:m=0:=by omega
      subst this
      simp [f0,f3,f8,f9,f10]
      exact ⟨l',hr,hp,hH⟩
  rintro fr L H' ⟨l',⟨f0,f3,f8,f9,f10⟩,rfl,hr,hp,hH⟩
  simp (disch:=omega) [f0,f3,f8,f9,f10,wrap_i64]
  refine wLoop_m (n:=d) (fun m fr L H'=>∃l',(fr 0=.sl b 0 l0.length 4∧fr 3=.func (.func g) fs cs∧fr 8=.int .i64 a∧fr 9=.int .i64 0∧fr 10=.int .i64 d∧fr 12=.int .i64 ((m:Nat)-1:Int))∧L=[]∧SqS b H0 l0 l' H'∧PermR a (a+d) l l'∧HpR cf a 0 m l'∧OutR cf a (a+d) a (a+m) l'∧m≤d) ⟨l',by simp [f0,f3,f8,f9,f10],rfl,hr,hp,hH,OutR.start (by omega),Nat.le_refl _⟩ ?_
  clear f0 f3 f8 f9 f10 hr hp hH l'
  rintro m fr L H' ⟨l',⟨f0,f3,f8,f9,f10,f12⟩,rfl,hr,hp,hH,hO,hm⟩
  have hlen:=hp.len
  simp [f0,f3,f8,f9,f10,f12]
  refine cond_dec (fun ht => ?_) fun ht => ?_
  · obtain ⟨k,rfl⟩:∃k,m=k+1:=⟨m-1,by omega⟩
    have e1:((k+1:Nat):Int)-1=(k:Int):=by omega
    have e2:(k:Int)+1-1=(k:Int):=by omega
    have e3:((a:Int)+(k:Int)).toNat=a+k:=by omega
    have g1:=fun L=>sq_ld hr.row (i:=a) (by omega) (L:=L)
    have g2:=fun L=>sq_ld hr.row (i:=a+k) (by omega) (L:=L)
    have w1:=fun L=>sq_w1 hr hlim (i:=a) (by omega) (L:=L) (gE l' (a+k))
    have w2:=fun L=>sq_w2 hr hlim (i:=a) (j:=a+k) (by omega) (L:=L)
    have hr4:=hr.swap (i:=a) (j:=a+k) (by omega) (by omega)
    have hps:=hp.trans (swp_perm (l:=l') (i:=a) (j:=a+k) (a:=a) (b:=a+d) ⟨by omega,by omega⟩ ⟨by omega,by omega⟩ (by omega))
    obtain ⟨hH1,hO1⟩:=hH.pop ho hO (by omega)
    simp (disch:=omega) [f0,f3,f8,f9,f10,f12,e1,e2,e3,wrap_i64,g1,g2,w1,w2,hst,sq_addr,-viaddrS_in,-vstore,-vload_ptrO]
    refine sq_sift hr4 hlim hst hc ho (f:=a) (lo:=0) (hi:=k) (by omega) hl hH1 fun H2 l2 hr2 hp2 hH2 => ?_
    simp (disch:=omega) [f0,f3,f8,f9,f10,f12,e1,e2,wrap_i64]
    exact ⟨k,by omega,by omega,l2,hr2,hps.trans (hp2.wide (Nat.le_refl _) (by omega)),hH2,hO1.perm hp2 (by rw [swp_len];omega),by omega⟩
  · have:m=0:=by omega
    subst this
    simp
    exact hK _ _ hr hp (hO.sort fun p q h1 h2 h3=>by omega)
theorem sq_part (hs:SqS b H0 l0 l H) (hlim:lim≤b) (hst:allStor fs=true∧allStor cs=true∧g≠3999999) (hc:CmpQ b g fs cs H0 l0 cf) (ho:Ordr cf) {a e v:Nat} (hae:a≤v∧v<e∧e≤l0.length) (hl:l0.length≤100000)
    (hK:∀H' l' m ok,SqS b H0 l0 l' H'→PermR a e l l'→PartR cf a e m l'→K (.tup [.int .i64 (m:Nat),.bool ok]) H'):VCall tbl lim 118 [.sl b 0 l0.length 4,.int .i64 a,.int .i64 e,.int .i64 v,.func (.func g) fs cs] H K:=by
  refine VCall_fn tbl_at118 rfl ?_
  have hn:=hs.n
  have g1:=fun L=>sq_ld hs.row (i:=a) (by omega) (L:=L)
  have g2:=fun L=>sq_ld hs.row (i:=v) (by omega) (L:=L)
  have w1:=fun L=>sq_w1 hs hlim (i:=a) (by omega) (L:=L) (gE l v)
  have w2:=fun L=>sq_w2 hs hlim (i:=a) (j:=v) (by omega) (L:=L)
  have hs1:=hs.swap (i:=a) (j:=v) (by omega) (by omega)
  have hp1:PermR a e l (swp l a v):=swp_perm ⟨by omega,by omega⟩ ⟨by omega,by omega⟩ (by omega)
  have e0:(e:Int)-1=((e-1:Nat):Int):=by omega
  simp (disch:=omega) [vf118,wrap_i64,g1,g2,w1,w2,hst,sq_addr,e0,-viaddrS_in,-vstore,-vload_ptrO]
  refine wLoop_post 0 (fun fr L H'=>∃l' i j,(fr 0=.sl b 0 l0.length 4∧fr 1=.int .i64 a∧fr 4=.func (.func g) fs cs∧fr 12=.int .i64 (i:Nat)∧fr 13=.int .i64 (j:Nat))∧L=[]∧SqS b H0 l0 l' H'∧PermR a e l l'∧PtI cf a e i j l'∧j+1-i≤(e-a)∧(i≤j→¬cf (gE l' i) (gE l' a)<0)) ?_ ?_
  · refine wLoop_m (n:=(e-a)) (fun m fr L H'=>∃l' i j,(fr 0=.sl b 0 l0.length 4∧fr 1=.int .i64 a∧fr 4=.func (.func g) fs cs∧fr 12=.int .i64 (i:Nat)∧fr 13=.int .i64 (j:Nat))∧L=[]∧SqS b H0 l0 l' H'∧PermR a e l l'∧PtI cf a e i j l'∧j+1-i≤m∧m≤(e-a)) ⟨swp l a v,a+1,e-1,by simp,rfl,hs1,hp1,PtI.start (by omega),by omega,Nat.le_refl _⟩ ?_
    rintro m fr L H' ⟨l',i,j,⟨f0,f1,f4,f12,f13⟩,rfl,hr,hp,hI,hm,hm2⟩
    have hrg:=hI.rng
    have hlen:=hp.len
    by_cases hij:i≤j
    · have hgt:((i:Int)≤(j:Int))=True:=eq_true (by omega)
      have g1:=fun L=>sq_ld hr.row (i:=i) (by omega) (L:=L)
      have g2:=fun L=>sq_ld hr.row (i:=a) (by omega) (L:=L)
      simp (disch:=omega) [f0,f1,f4,f12,f13,hgt,wrap_i64,g1,g2,hst,sq_addr,-viaddrS_in,-vload_ptrO]
      refine hc.at hr (i:=i) (j:=a) (by omega) (by omega) fun H2 x2 hr2 => ?_
      simp
      refine cond_dec (fun hlt => ?_) fun hlt => ?_
      · simp (disch:=omega) [f0,f1,f4,f12,f13,wrap_i64]
        exact ⟨m-1,by omega,l',i+1,j,by omega,hr2,hp,hI.up hij hlt,by omega,by omega⟩
      · simp [f0,f1,f4,f12,f13]
        exact ⟨l',i,j,by omega,hr2,hp,hI,by omega,fun _=>by omega⟩
    · have hgt:((i:Int)≤(j:Int))=False:=eq_false (by omega)
      simp (disch:=omega) [f0,f1,f4,f12,f13,hgt]
      exact ⟨l',i,j,by omega,hr,hp,hI,by omega,fun h=>absurd h hij⟩
  rintro fr L H' ⟨l',i,j,⟨f0,f1,f4,f12,f13⟩,rfl,hr,hp,hI,hm,hup⟩
  simp [f0,f1,f4,f12,f13]
  refine wLoop_post 2 (fun fr L H'=>∃l' i j,(fr 0=.sl b 0 l0.length 4∧fr 1=.int .i64 a∧fr 4=.func (.func g) fs cs∧fr 12=.int .i64 (i:Nat)∧fr 13=.int .i64 (j:Nat))∧L=[]∧SqS b H0 l0 l' H'∧PermR a e l l'∧PtI cf a e i j l'∧j+1-i≤(e-a)∧(i≤j→¬cf (gE l' i) (gE l' a)<0)∧(i≤j→cf (gE l' j) (gE l' a)<0)) ?_ ?_
  · refine wLoop_m (n:=(e-a)) (fun m fr L H'=>∃l' i j,(fr 0=.sl b 0 l0.length 4∧fr 1=.int .i64 a∧fr 4=.func (.func g) fs cs∧fr 12=.int .i64 (i:Nat)∧fr 13=.int .i64 (j:Nat))∧L=[]∧SqS b H0 l0 l' H'∧PermR a e l l'∧PtI cf a e i j l'∧(i≤j→¬cf (gE l' i) (gE l' a)<0)∧j+1-i≤m∧m≤(e-a)) ⟨l',i,j,by simp [f0,f1,f4,f12,f13],rfl,hr,hp,hI,hup,hm,Nat.le_refl _⟩ ?_
    clear f0 f1 f4 f12 f13 hr hp hI hup hm l' i j
    rintro m fr L H' ⟨l',i,j,⟨f0,f1,f4,f12,f13⟩,rfl,hr,hp,hI,hup,hm,hm2⟩
    have hrg:=hI.rng
    have hlen:=hp.len
    by_cases hij:i≤j
    · have hgt:((i:Int)≤(j:Int))=True:=eq_true (by omega)
      have g1:=fun L=>sq_ld hr.row (i:=j) (by omega) (L:=L)
      have g2:=fun L=>sq_ld hr.row (i:=a) (by omega) (L:=L)
      simp (disch:=omega) [f0,f1,f4,f12,f13,hgt,wrap_i64,g1,g2,hst,sq_addr,-viaddrS_in,-vload_ptrO]
      refine hc.at hr (i:=j) (j:=a) (by omega) (by omega) fun H2 x2 hr2 => ?_
      simp
      refine cond_ndec (fun hlt => ?_) fun hlt => ?_
      · have e1:(j:Int)-1=((j-1:Nat):Int):=by omega
        simp (disch:=omega) [f0,f1,f4,f12,f13,wrap_i64,e1]
        exact ⟨m-1,by omega,l',i,j-1,by omega,hr2,hp,hI.down hij hlt,fun h=>by have:=hup (by omega);omega,by omega,by omega⟩
      · simp [f0,f1,f4,f12,f13]
        exact ⟨l',i,j,by omega,hr2,hp,hI,by omega,fun h=>by have:=hup h;omega,fun _=>by omega⟩
    · have hgt:((i:Int)≤(j:Int))=False:=eq_false (by omega)
      simp (disch:=omega) [f0,f1,f4,f12,f13,hgt]
      exact ⟨l',i,j,by omega,hr,hp,hI,by omega,fun h=>absurd h hij,fun h=>absurd h hij⟩
  clear f0 f1 f4 f12 f13 hr hp hI hup hm l' i j
  rintro fr L H' ⟨l',i,j,⟨f0,f1,f4,f12,f13⟩,rfl,hr,hp,hI,hm,hup,hdn⟩
  have hrg:=hI.rng
  have hlen:=hp.len
  by_cases hij:i≤j
  · have hgt:((j:Int)<(i:Int))=False:=eq_false (by omega)
    have hi0:=hup hij
    have hj0:=hdn hij
    have g1:=fun L=>sq_ld hr.row (i:=i) (by omega) (L:=L)
    have g2:=fun L=>sq_ld hr.row (i:=j) (by omega) (L:=L)
    have w1:=fun L=>sq_w1 hr hlim (i:=i) (by omega) (L:=L) (gE l' j)
    have w2:=fun L=>sq_w2 hr hlim (i:=i) (j:=j) (by omega) (L:=L)
    have hr4:=hr.swap (i:=i) (j:=j) (by omega) (by omega)
    have hps:=hp.trans (swp_perm (l:=l') (i:=i) (j:=j) (a:=a) (b:=e) ⟨by omega,by omega⟩ ⟨by omega,by omega⟩ (by omega))
    have hI2:=hI.swap ho hij (by omega) hi0 hj0
    have hrg2:=hI2.rng
    have e1:(j:Int)-1=((j-1:Nat):Int):=by omega
    simp (disch:=omega) [f0,f1,f4,f12,f13,hgt,e1,wrap_i64,g1,g2,w1,w2,hst,sq_addr,-viaddrS_in,-vstore,-vload_ptrO]
    refine wLoop_m (n:=(e-a)) (fun m fr L H'=>∃l' i j,(fr 0=.sl b 0 l0.length 4∧fr 1=.int .i64 a∧fr 4=.func (.func g) fs cs∧fr 12=.int .i64 (i:Nat)∧fr 13=.int .i64 (j:Nat))∧L=[]∧SqS b H0 l0 l' H'∧PermR a e l l'∧PtI cf a e i j l'∧j+1-i≤m∧m≤(e-a)) ⟨swp l' i j,i+1,j-1,by simp [f0,f1,f4,f12,f13],rfl,hr4,hps,hI2,by omega,Nat.le_refl _⟩ ?_
    clear f0 f1 f4 f12 f13 hr hp hI hup hdn hm hrg hlen hij hgt hi0 hj0 g1 g2 w1 w2 hr4 hps hI2 hrg2 e1 l' i j
    rintro n fr L H' ⟨l',i,j,⟨f0,f1,f4,f12,f13⟩,rfl,hr,hp,hI,hm,hn2⟩
    simp [f0,f1,f4,f12,f13]
    refine wLoop_post 6 (fun fr L H'=>∃l' i j,(fr 0=.sl b 0 l0.length 4∧fr 1=.int .i64 a∧fr 4=.func (.func g) fs cs∧fr 12=.int .i64 (i:Nat)∧fr 13=.int .i64 (j:Nat))∧L=[]∧SqS b H0 l0 l' H'∧PermR a e l l'∧PtI cf a e i j l'∧j+1-i≤n∧(i≤j→¬cf (gE l' i) (gE l' a)<0)) ?_ ?_
    · refine wLoop_m (n:=n) (fun m fr L H'=>∃l' i j,(fr 0=.sl b 0 l0.length 4∧fr 1=.int .i64 a∧fr 4=.func (.func g) fs cs∧fr 12=.int .i64 (i:Nat)∧fr 13=.int .i64 (j:Nat))∧L=[]∧SqS b H0 l0 l' H'∧PermR a e l l'∧PtI cf a e i j l'∧j+1-i≤m∧m≤n) ⟨l',i,j,by simp [f0,f1,f4,f12,f13],rfl,hr,hp,hI,hm,Nat.le_refl _⟩ ?_
      clear f0 f1 f4 f12 f13 hr hp hI hm l' i j
      rintro m fr L H' ⟨l',i,j,⟨f0,f1,f4,f12,f13⟩,rfl,hr,hp,hI,hm,hm2⟩
      have hrg:=hI.rng
      have hlen:=hp.len
      by_cases hij:i≤j
      · have hgt:((i:Int)≤(j:Int))=True:=eq_true (by omega)
        have g1:=fun L=>sq_ld hr.row (i:=i) (by omega) (L:=L)
        have g2:=fun L=>sq_ld hr.row (i:=a) (by omega) (L:=L)
        simp (disch:=omega) [f0,f1,f4,f12,f13,hgt,wrap_i64,g1,g2,hst,sq_addr,-viaddrS_in,-vload_ptrO]
        refine hc.at hr (i:=i) (j:=a) (by omega) (by omega) fun H2 x2 hr2 => ?_
        simp
        refine cond_dec (fun hlt => ?_) fun hlt => ?_
        · simp (disch:=omega) [f0,f1,f4,f12,f13,wrap_i64]
          exact ⟨m-1,by omega,l',i+1,j,by omega,hr2,hp,hI.up hij hlt,by omega,by omega⟩
        · simp [f0,f1,f4,f12,f13]
          exact ⟨l',i,j,by omega,hr2,hp,hI,by omega,fun _=>by omega⟩
      · have hgt:((i:Int)≤(j:Int))=False:=eq_false (by omega)
        simp (disch:=omega) [f0,f1,f4,f12,f13,hgt]
        exact ⟨l',i,j,by omega,hr,hp,hI,by omega,fun h=>absurd h hij⟩
    clear f0 f1 f4 f12 f13 hr hp hI hm l' i j
    rintro fr L H' ⟨l',i,j,⟨f0,f1,f4,f12,f13⟩,rfl,hr,hp,hI,hm,hup⟩
    simp [f0,f1,f4,f12,f13]
    refine wLoop_post 8 (fun fr L H'=>∃l' i j,(fr 0=.sl b 0 l0.length 4∧fr 1=.int .i64 a∧fr 4=.func (.func g) fs cs∧fr 12=.int .i64 (i:Nat)∧fr 13=.int .i64 (j:Nat))∧L=[]∧SqS b H0 l0 l' H'∧PermR a e l l'∧PtI cf a e i j l'∧j+1-i≤n∧(i≤j→¬cf (gE l' i) (gE l' a)<0)∧(i≤j→cf (gE l' j) (gE l' a)<0)) ?_ ?_
    · refine wLoop_m (n:=n) (fun m fr L H'=>∃l' i j,(fr 0=.sl b 0 l0.length 4∧fr 1=.int .i64 a∧fr 4=.func (.func g) fs cs∧fr 12=.int .i64 (i:Nat)∧fr 13=.int .i64 (j:Nat))∧L=[]∧SqS b H0 l0 l' H'∧PermR a e l l'∧PtI cf a e i j l'∧(i≤j→¬cf (gE l' i) (gE l' a)<0)∧j+1-i≤m∧m≤n) ⟨l',i,j,by simp [f0,f1,f4,f12,f13],rfl,hr,hp,hI,hup,hm,Nat.le_refl _⟩ ?_
      clear f0 f1 f4 f12 f13 hr hp hI hup hm l' i j
      rintro m fr L H' ⟨l',i,j,⟨f0,f1,f4,f12,f13⟩,rfl,hr,hp,hI,hup,hm,hm2⟩
      have hrg:=hI.rng
      have hlen:=hp.len
      by_cases hij:i≤j
      · have hgt:((i:Int)≤(j:Int))=True:=eq_true (by omega)
        have g1:=fun L=>sq_ld hr.row (i:=j) (by omega) (L:=L)
        have g2:=fun L=>sq_ld hr.row (i:=a) (by omega) (L:=L)
        simp (disch:=omega) [f0,f1,f4,f12,f13,hgt,wrap_i64,g1,g2,hst,sq_addr,-viaddrS_in,-vload_ptrO]
        refine hc.at hr (i:=j) (j:=a) (by omega) (by omega) fun H2 x2 hr2 => ?_
        simp
        refine cond_ndec (fun hlt => ?_) fun hlt => ?_
        · have e1:(j:Int)-1=((j-1:Nat):Int):=by omega
          simp (disch:=omega) [f0,f1,f4,f12,f13,wrap_i64,e1]
          exact ⟨m-1,by omega,l',i,j-1,by omega,hr2,hp,hI.down hij hlt,fun h=>by have:=hup (by omega);omega,by omega,by omega⟩
        · simp [f0,f1,f4,f12,f13]
          exact ⟨l',i,j,by omega,hr2,hp,hI,by omega,fun h=>by have:=hup h;omega,fun _=>by omega⟩
      · have hgt:((i:Int)≤(j:Int))=False:=eq_false (by omega)
        simp (disch:=omega) [f0,f1,f4,f12,f13,hgt]
        exact ⟨l',i,j,by omega,hr,hp,hI,by omega,fun h=>absurd h hij,fun h=>absurd h hij⟩
    clear f0 f1 f4 f12 f13 hr hp hI hup hm l' i j
    rintro fr L H' ⟨l',i,j,⟨f0,f1,f4,f12,f13⟩,rfl,hr,hp,hI,hm,hup,hdn⟩
    have hrg:=hI.rng
    have hlen:=hp.len
    by_cases hij:i≤j
    · have hgt:((j:Int)<(i:Int))=False:=eq_false (by omega)
      have hi0:=hup hij
      have hj0:=hdn hij
      have g1:=fun L=>sq_ld hr.row (i:=i) (by omega) (L:=L)
      have g2:=fun L=>sq_ld hr.row (i:=j) (by omega) (L:=L)
      have w1:=fun L=>sq_w1 hr hlim (i:=i) (by omega) (L:=L) (gE l' j)
      have w2:=fun L=>sq_w2 hr hlim (i:=i) (j:=j) (by omega) (L:=L)
      have hr4:=hr.swap (i:=i) (j:=j) (by omega) (by omega)
      have hps:=hp.trans (swp_perm (l:=l') (i:=i) (j:=j) (a:=a) (b:=e) ⟨by omega,by omega⟩ ⟨by omega,by omega⟩ (by omega))
      have hI2:=hI.swap ho hij (by omega) hi0 hj0
      have hrg2:=hI2.rng
      have e1:(j:Int)-1=((j-1:Nat):Int):=by omega
      simp (disch:=omega) [f0,f1,f4,f12,f13,hgt,e1,wrap_i64,g1,g2,w1,w2,hst,sq_addr,-viaddrS_in,-vstore,-vload_ptrO]
      exact ⟨n-1,by omega,_,i+1,j-1,by omega,hr4,hps,hI2,by omega,by omega⟩
    · have hgt:((j:Int)<(i:Int))=True:=eq_true (by omega)
      have hij2:¬i≤j:=hij
      have g1:=fun L=>sq_ld hr.row (i:=j) (by omega) (L:=L)
      have g2:=fun L=>sq_ld hr.row (i:=a) (by omega) (L:=L)
      have w1:=fun L=>sq_w1 hr hlim (i:=j) (by omega) (L:=L) (gE l' a)
      have w2:=fun L=>sq_w2 hr hlim (i:=j) (j:=a) (by omega) (L:=L)
      have hr4:=hr.swap (i:=j) (j:=a) (by omega) (by omega)
      have hps:=hp.trans (swp_perm (l:=l') (i:=j) (j:=a) (a:=a) (b:=e) ⟨by omega,by omega⟩ ⟨by omega,by omega⟩ (by omega))
      simp (disch:=omega) [f0,f1,f4,f12,f13,hgt,wrap_i64,g1,g2,w1,w2,hst,sq_addr,-viaddrS_in,-vstore,-vload_ptrO]
      exact hK _ _ j false hr4 hps (hI.done ho hij2 (by omega))
  · have hgt:((j:Int)<(i:Int))=True:=eq_true (by omega)
    have hij2:¬i≤j:=hij
    have g1:=fun L=>sq_ld hr.row (i:=j) (by omega) (L:=L)
    have g2:=fun L=>sq_ld hr.row (i:=a) (by omega) (L:=L)
    have w1:=fun L=>sq_w1 hr hlim (i:=j) (by omega) (L:=L) (gE l' a)
    have w2:=fun L=>sq_w2 hr hlim (i:=j) (j:=a) (by omega) (L:=L)
    have hr4:=hr.swap (i:=j) (j:=a) (by omega) (by omega)
    have hps:=hp.trans (swp_perm (l:=l') (i:=j) (j:=a) (a:=a) (b:=e) ⟨by omega,by omega⟩ ⟨by omega,by omega⟩ (by omega))
    simp (disch:=omega) [f0,f1,f4,f12,f13,hgt,wrap_i64,g1,g2,w1,w2,hst,sq_addr,-viaddrS_in,-vstore,-vload_ptrO]
    exact hK _ _ j true hr4 hps (hI.done ho hij2 (by omega))
end
end Go.Proofs.Ytclghkegfpcdpaa.Vm
namespace Go.Proofs.Ytclghkegfpcdpaa.Vm
open Go
set_option maxRecDepth 100000
set_option maxHeartbeats 1000000
set_option linter.unusedSimpArgs false
set_option linter.unusedVariables false
attribute [-simp] List.getD_eq_getElem?_getD
section
variable {T:Tbl}{lim:Nat}
end
section
variable {lim:Nat}{H H0:Hp}{K:V→Hp→Prop}{b g:Nat}{l l0:List EQ}{cf:EQ→EQ→Int}{fs cs:List V}
theorem sq_partEq (hs:SqS b H0 l0 l H) (hlim:lim≤b) (hst:allStor fs=true∧allStor cs=true∧g≠3999999) (hc:CmpQ b g fs cs H0 l0 cf) (ho:Ordr cf) {a e v:Nat} (hae:a≤v∧v<e∧e≤l0.length) (hl:l0.length≤100000)
    (hmin:∀k,a≤k→k<e→leC cf (l.getD v default) (l.getD k default))
    (hK:∀H' l' m,SqS b H0 l0 l' H'→PermR a e l l'→(a<m∧m≤e)→(∀p q,a≤p→p<m→p<q→q<e→leC cf (l'.getD p default) (l'.getD q default))→K (.int .i64 (m:Nat)) H'):VCall tbl lim 117 [.sl b 0 l0.length 4,.int .i64 a,.int .i64 e,.int .i64 v,.func (.func g) fs cs] H K:=by
  refine VCall_fn tbl_at117 rfl ?_
  have hn:=hs.n
  have g1:=fun L=>sq_ld hs.row (i:=a) (by omega) (L:=L)
  have g2:=fun L=>sq_ld hs.row (i:=v) (by omega) (L:=L)
  have w1:=fun L=>sq_w1 hs hlim (i:=a) (by omega) (L:=L) (gE l v)
  have w2:=fun L=>sq_w2 hs hlim (i:=a) (j:=v) (by omega) (L:=L)
  have hs1:=hs.swap (i:=a) (j:=v) (by omega) (by omega)
  have hp1:PermR a e l (swp l a v):=swp_perm ⟨by omega,by omega⟩ ⟨by omega,by omega⟩ (by omega)
  have e0:(e:Int)-1=((e-1:Nat):Int):=by omega
  have hm1:=least_swp (cf:=cf) (l:=l) (a:=a) (b:=e) (v:=v) (by omega) (by omega) hmin
  simp (disch:=omega) [vf117,wrap_i64,g1,g2,w1,w2,hst,sq_addr,e0,-viaddrS_in,-vstore,-vload_ptrO]
  refine wLoop_m (n:=(e-a)) (fun m fr L H'=>∃l' i j,(fr 0=.sl b 0 l0.length 4∧fr 1=.int .i64 a∧fr 4=.func (.func g) fs cs∧fr 11=.int .i64 (i:Nat)∧fr 12=.int .i64 (j:Nat))∧L=[]∧SqS b H0 l0 l' H'∧PermR a e l l'∧PeI cf a e i j l'∧j+1-i≤m∧m≤(e-a)) ⟨swp l a v,a+1,e-1,by simp,rfl,hs1,hp1,PeI.start (by omega) hm1,by omega,Nat.le_refl _⟩ ?_
  rintro n fr L H' ⟨l',i,j,⟨f0,f1,f4,f11,f12⟩,rfl,hr,hp,hI,hm,hn2⟩
  simp [f0,f1,f4,f11,f12]
  refine wLoop_post 2 (fun fr L H'=>∃l' i j,(fr 0=.sl b 0 l0.length 4∧fr 1=.int .i64 a∧fr 4=.func (.func g) fs cs∧fr 11=.int .i64 (i:Nat)∧fr 12=.int .i64 (j:Nat))∧L=[]∧SqS b H0 l0 l' H'∧PermR a e l l'∧PeI cf a e i j l'∧j+1-i≤n∧(i≤j→cf (gE l' a) (gE l' i)<0)) ?_ ?_
  · refine wLoop_m (n:=n) (fun m fr L H'=>∃l' i j,(fr 0=.sl b 0 l0.length 4∧fr 1=.int .i64 a∧fr 4=.func (.func g) fs cs∧fr 11=.int .i64 (i:Nat)∧fr 12=.int .i64 (j:Nat))∧L=[]∧SqS b H0 l0 l' H'∧PermR a e l l'∧PeI cf a e i j l'∧j+1-i≤m∧m≤n) ⟨l',i,j,by simp [f0,f1,f4,f11,f12],rfl,hr,hp,hI,hm,Nat.le_refl _⟩ ?_
    clear f0 f1 f4 f11 f12 hr hp hI hm l' i j
    rintro m fr L H' ⟨l',i,j,⟨f0,f1,f4,f11,f12⟩,rfl,hr,hp,hI,hm,hm2⟩
    have hrg:=hI.rng
    have hlen:=hp.len
    by_cases hij:i≤j
    · have hgt:((i:Int)≤(j:Int))=True:=eq_true (by omega)
      have g1:=fun L=>sq_ld hr.row (i:=a) (by omega) (L:=L)
      have g2:=fun L=>sq_ld hr.row (i:=i) (by omega) (L:=L)
      simp (disch:=omega) [f0,f1,f4,f11,f12,hgt,wrap_i64,g1,g2,hst,sq_addr,-viaddrS_in,-vload_ptrO]
      refine hc.at hr (i:=a) (j:=i) (by omega) (by omega) fun H2 x2 hr2 => ?_
      simp
      refine cond_ndec (fun hlt => ?_) fun hlt => ?_
      · simp (disch:=omega) [f0,f1,f4,f11,f12,wrap_i64]
        exact ⟨m-1,by omega,l',i+1,j,by omega,hr2,hp,hI.up hij hlt,by omega,by omega⟩
      · simp [f0,f1,f4,f11,f12]
        exact ⟨l',i,j,by omega,hr2,hp,hI,by omega,fun _=>hlt⟩
    · have hgt:((i:Int)≤(j:Int))=False:=eq_false (by omega)
      simp (disch:=omega) [f0,f1,f4,f11,f12,hgt]
      exact ⟨l',i,j,by omega,hr,hp,hI,by omega,fun h=>absurd h hij⟩
  clear f0 f1 f4 f11 f12 hr hp hI hm l' i j
  rintro fr L H' ⟨l',i,j,⟨f0,f1,f4,f11,f12⟩,rfl,hr,hp,hI,hm,hup⟩
  simp [f0,f1,f4,f11,f12]
  refine wLoop_post 4 (fun fr L H'=>∃l' i j,(fr 0=.sl b 0 l0.length 4∧fr 1=.int .i64 a∧fr 4=.func (.func g) fs cs∧fr 11=.int .i64 (i:Nat)∧fr 12=.int .i64 (j:Nat))∧L=[]∧SqS b H0 l0 l' H'∧PermR a e l l'∧PeI cf a e i j l'∧j+1-i≤n∧(i≤j→cf (gE l' a) (gE l' i)<0)∧(i≤j→¬cf (gE l' a) (gE l' j)<0)) ?_ ?_
  · refine wLoop_m (n:=n) (fun m fr L H'=>∃l' i j,(fr 0=.sl b 0 l0.length 4∧fr 1=.int .i64 a∧fr 4=.func (.func g) fs cs∧fr 11=.int .i64 (i:Nat)∧fr 12=.int .i64 (j:Nat))∧L=[]∧SqS b H0 l0 l' H'∧PermR a e l l'∧PeI cf a e i j l'∧(i≤j→cf (gE l' a) (gE l' i)<0)∧j+1-i≤m∧m≤n) ⟨l',i,j,by simp [f0,f1,f4,f11,f12],rfl,hr,hp,hI,hup,hm,Nat.le_refl _⟩ ?_
    clear f0 f1 f4 f11 f12 hr hp hI hup hm l' i j
    rintro m fr L H' ⟨l',i,j,⟨f0,f1,f4,f11,f12⟩,rfl,hr,hp,hI,hup,hm,hm2⟩
    have hrg:=hI.rng
    have hlen:=hp.len
    by_cases hij:i≤j
    · have hgt:((i:Int)≤(j:Int))=True:=eq_true (by omega)
      have g1:=fun L=>sq_ld hr.row (i:=a) (by omega) (L:=L)
      have g2:=fun L=>sq_ld hr.row (i:=j) (by omega) (L:=L)
      simp (disch:=omega) [f0,f1,f4,f11,f12,hgt,wrap_i64,g1,g2,hst,sq_addr,-viaddrS_in,-vload_ptrO]
      refine hc.at hr (i:=a) (j:=j) (by omega) (by omega) fun H2 x2 hr2 => ?_
      simp
      refine cond_dec (fun hlt => ?_) fun hlt => ?_
      · have e1:(j:Int)-1=((j-1:Nat):Int):=by omega
        simp (disch:=omega) [f0,f1,f4,f11,f12,e1,wrap_i64]
        exact ⟨m-1,by omega,l',i,j-1,by omega,hr2,hp,hI.down hij,fun h=>hup (by omega),by omega,by omega⟩
      · simp [f0,f1,f4,f11,f12]
        exact ⟨l',i,j,by omega,hr2,hp,hI,by omega,hup,fun _=>by omega⟩
    · have hgt:((i:Int)≤(j:Int))=False:=eq_false (by omega)
      simp (disch:=omega) [f0,f1,f4,f11,f12,hgt]
      exact ⟨l',i,j,by omega,hr,hp,hI,by omega,fun h=>absurd h hij,fun h=>absurd h hij⟩
  clear f0 f1 f4 f11 f12 hr hp hI hup hm l' i j
  rintro fr L H' ⟨l',i,j,⟨f0,f1,f4,f11,f12⟩,rfl,hr,hp,hI,hm,hup,hdn⟩
  have hrg:=hI.rng
  have hlen:=hp.len
  by_cases hij:i≤j
  · have hgt:((j:Int)<(i:Int))=False:=eq_false (by omega)
    have hi0:=hup hij
    have hj0:=hdn hij
    have g1:=fun L=>sq_ld hr.row (i:=i) (by omega) (L:=L)
    have g2:=fun L=>sq_ld hr.row (i:=j) (by omega) (L:=L)
    have w1:=fun L=>sq_w1 hr hlim (i:=i) (by omega) (L:=L) (gE l' j)
    have w2:=fun L=>sq_w2 hr hlim (i:=i) (j:=j) (by omega) (L:=L)
    have hr4:=hr.swap (i:=i) (j:=j) (by omega) (by omega)
    have hps:=hp.trans (swp_perm (l:=l') (i:=i) (j:=j) (a:=a) (b:=e) ⟨by omega,by omega⟩ ⟨by omega,by omega⟩ (by omega))
    have hI2:=hI.swap ho hij (by omega) hi0 hj0
    have hrg2:=hI2.rng
    have e1:(j:Int)-1=((j-1:Nat):Int):=by omega
    simp (disch:=omega) [f0,f1,f4,f11,f12,hgt,e1,wrap_i64,g1,g2,w1,w2,hst,sq_addr,-viaddrS_in,-vstore,-vload_ptrO]
    exact ⟨n-1,by omega,_,i+1,j-1,by omega,hr4,hps,hI2,by omega,by omega⟩
  · have hgt:((j:Int)<(i:Int))=True:=eq_true (by omega)
    simp [f0,f1,f4,f11,f12,hgt]
    exact hK _ _ i hr hp (by omega) (hI.done ho)
end
end Go.Proofs.Ytclghkegfpcdpaa.Vm
namespace Go.Proofs.Ytclghkegfpcdpaa.Vm
open Go
set_option maxRecDepth 100000
set_option maxHeartbeats 1000000
set_option linter.unusedSimpArgs false
set_option linter.unusedVariables false
attribute [-simp] List.getD_eq_getElem?_getD
section
variable {lim:Nat}{H H0:Hp}{K:V→Hp→Prop}{b g:Nat}{l l0:List EQ}{cf:EQ→EQ→Int}{fs cs:List V}
theorem sq_pis (hs:SqS b H0 l0 l H) (hlim:lim≤b) (hst:allStor fs=true∧allStor cs=true∧g≠3999999) (hc:CmpQ b g fs cs H0 l0 cf) (ho:Ordr cf) {a e:Nat} (hae:a<e∧e≤l0.length) (hl:l0.length≤100000) (hg:GdR cf a e l)
    (hK:∀H' l' ok,SqS b H0 l0 l' H'→PermR a e l l'→(ok=true→SortR cf a e l')→K (.bool ok) H'):VCall tbl lim 116 [.sl b 0 l0.length 4,.int .i64 a,.int .i64 e,.func (.func g) fs cs] H K:=by
  refine VCall_fn tbl_at116 rfl ?_
  have hn:=hs.n
  simp (disch:=omega) [vf116,wrap_i64]
  refine wLoop_up 5 (fun c fr L H'=>∃l' i,(fr 0=.sl b 0 l0.length 4∧fr 1=.int .i64 a∧fr 2=.int .i64 e∧fr 3=.func (.func g) fs cs∧fr 9=.int .i64 (i:Nat)∧fr 10=.int .i64 (c:Nat))∧L=[]∧SqS b H0 l0 l' H'∧PermR a e l l'∧(a+1≤i∧i≤e)∧SortR cf a i l') ⟨l,a+1,by simp,rfl,hs,PermR.refl,by omega,SortR.one (by omega)⟩ ?_
  rintro c hc5 fr L H' ⟨l',i,⟨f0,f1,f2,f3,f9,f10⟩,rfl,hr,hp,hi,hso⟩
  simp [f0,f1,f2,f3,f9,f10]
  refine cond_dec (fun ht => ?_) fun ht => ?_
  case refine_2 =>
    simp
    exact hK _ _ false hr hp (fun h=>by cases h)
  simp [f0,f1,f2,f3,f9,f10]
  refine wLoop_post 2 (fun fr L H'=>∃l' i,(fr 0=.sl b 0 l0.length 4∧fr 1=.int .i64 a∧fr 2=.int .i64 e∧fr 3=.func (.func g) fs cs∧fr 9=.int .i64 (i:Nat)∧fr 10=.int .i64 (c:Nat))∧L=[]∧SqS b H0 l0 l' H'∧PermR a e l l'∧(a+1≤i∧i≤e)∧SortR cf a i l'∧(i<e→cf (gE l' i) (gE l' (i-1))<0)) ?_ ?_
  · refine wLoop_m (n:=e-i) (fun m fr L H'=>∃l' i,(fr 0=.sl b 0 l0.length 4∧fr 1=.int .i64 a∧fr 2=.int .i64 e∧fr 3=.func (.func g) fs cs∧fr 9=.int .i64 (i:Nat)∧fr 10=.int .i64 (c:Nat))∧L=[]∧SqS b H0 l0 l' H'∧PermR a e l l'∧(a+1≤i∧i≤e)∧SortR cf a i l'∧m=e-i) ⟨l',i,by simp [f0,f1,f2,f3,f9,f10],rfl,hr,hp,hi,hso,rfl⟩ ?_
    clear f0 f1 f2 f3 f9 f10 hr hp hi hso l' i
    rintro m fr L H' ⟨l',i,⟨f0,f1,f2,f3,f9,f10⟩,rfl,hr,hp,hi,hso,hm⟩
    have hlen:=hp.len
    by_cases hie:i<e
    · have hgt:((i:Int)<(e:Int))=True:=eq_true (by omega)
      have e1:((i:Int)-1).toNat=i-1:=by omega
      have g1:=fun L=>sq_ld hr.row (i:=i) (by omega) (L:=L)
      have g2:=fun L=>sq_ld hr.row (i:=i-1) (by omega) (L:=L)
      simp (disch:=omega) [f0,f1,f2,f3,f9,f10,hgt,e1,wrap_i64,g1,g2,hst,sq_addr,-viaddrS_in,-vload_ptrO]
      refine hc.at hr (i:=i) (j:=i-1) (by omega) (by omega) fun H2 x2 hr2 => ?_
      simp
      refine cond_ndec (fun hlt => ?_) fun hlt => ?_
      · simp (disch:=omega) [f0,f1,f2,f3,f9,f10,wrap_i64]
        exact ⟨m-1,by omega,l',i+1,by omega,hr2,hp,by omega,hso.next ho (by omega) hlt,by omega⟩
      · simp [f0,f1,f2,f3,f9,f10]
        exact ⟨l',i,by omega,hr2,hp,by omega,hso,fun _=>hlt⟩
    · have hgt:((i:Int)<(e:Int))=False:=eq_false (by omega)
      simp (disch:=omega) [f0,f1,f2,f3,f9,f10,hgt]
      exact ⟨l',i,by omega,hr,hp,by omega,hso,fun h=>absurd h hie⟩
  clear f0 f1 f2 f3 f9 f10 hr hp hi hso l' i
  rintro fr L H' ⟨l',i,⟨f0,f1,f2,f3,f9,f10⟩,rfl,hr,hp,hi,hso,hlt⟩
  have hlen:=hp.len
  simp [f0,f1,f2,f3,f9,f10]
  by_cases hie:i=e
  · subst hie
    simp
    exact hK _ _ true hr hp fun _=>hso
  have hie2:((i:Int)=(e:Int))=False:=eq_false (by omega)
  replace hlt:=hlt (by omega)
  simp (disch:=omega) [hie,hie2,f0,f1,f2,f3,f9,f10,wrap_i64]
  refine cond_dec (fun h50 => ?_) fun h50 => ?_
  · simp
    exact hK _ _ false hr hp (fun h=>by cases h)
  have e1:((i:Int)-1).toNat=i-1:=by omega
  have g1:=fun L=>sq_ld hr.row (i:=i) (by omega) (L:=L)
  have g2:=fun L=>sq_ld hr.row (i:=i-1) (by omega) (L:=L)
  have w1:=fun L=>sq_w1 hr hlim (i:=i) (by omega) (L:=L) (gE l' (i-1))
  have w2:=fun L=>sq_w2 hr hlim (i:=i) (j:=i-1) (by omega) (L:=L)
  have hr4:=hr.swap (i:=i) (j:=i-1) (by omega) (by omega)
  have hps:=hp.trans (swp_perm (l:=l') (i:=i) (j:=i-1) (a:=a) (b:=e) ⟨by omega,by omega⟩ ⟨by omega,by omega⟩ (by omega))
  have hso1:SortR cf a (i-1) (swp l' i (i-1)):=SortR.keep (fun p q h1 h2 h3=>hso p q h1 h2 (by omega)) fun k hk=>by rw [swp_get (by omega) (by omega),if_neg (by omega),if_neg (by omega)]
  simp (disch:=omega) [f0,f1,f2,f3,f9,f10,e1,wrap_i64,g1,g2,w1,w2,hst,sq_addr,-viaddrS_in,-vstore,-vload_ptrO]
  generalize swp l' i (i-1)=l1 at *
  generalize H'.set b (rowB l1)=H1 at *
  clear g1 g2 w1 w2 hr hp hso hlt hlen
  refine wCond_join (fun fr L H'=>∃l',(fr 0=.sl b 0 l0.length 4∧fr 1=.int .i64 a∧fr 2=.int .i64 e∧fr 3=.func (.func g) fs cs∧fr 9=.int .i64 (i:Nat)∧fr 10=.int .i64 (c:Nat))∧L=[]∧SqS b H0 l0 l' H'∧PermR a e l l'∧SortR cf a i l') (fun h2 => ?_) (fun h2 => ?_) ?_
  · simp (disch:=omega) [f0,f1,f2,f3,f9,f10,wrap_i64]
    refine wLoop_m (n:=i-1) (fun m fr L H'=>∃l',(fr 0=.sl b 0 l0.length 4∧fr 1=.int .i64 a∧fr 2=.int .i64 e∧fr 3=.func (.func g) fs cs∧fr 9=.int .i64 (i:Nat)∧fr 10=.int .i64 (c:Nat)∧fr 11=.int .i64 (m:Nat))∧L=[]∧SqS b H0 l0 l' H'∧PermR a e l l'∧InsR cf a (i-1) m l'∧a≤m∧m≤i-1) ⟨l1,by simp [f0,f1,f2,f3,f9,f10];omega,rfl,hr4,hps,InsR.start hso1,by omega,Nat.le_refl _⟩ ?_
    clear f0 f1 f2 f3 f9 f10
    rintro m fr L H' ⟨l',⟨f0,f1,f2,f3,f9,f10,f11⟩,rfl,hr,hp,hI,ha,hm⟩
    have hlen:=hp.len
    simp [f0,f1,f2,f3,f9,f10,f11]
    refine cond_dec (fun h1 => ?_) fun h1 => ?_
    · have e2:((m:Int)-1).toNat=m-1:=by omega
      have g1:=fun L=>sq_ld hr.row (i:=m) (by omega) (L:=L)
      have g2:=fun L=>sq_ld hr.row (i:=m-1) (by omega) (L:=L)
      simp (disch:=omega) [f0,f1,f2,f3,f9,f10,f11,e2,wrap_i64,g1,g2,hst,sq_addr,-viaddrS_in,-vload_ptrO]
      refine hc.at hr (i:=m) (j:=m-1) (by omega) (by omega) fun H2 x2 hr2 => ?_
      simp
      refine cond_ndec (fun hlt => ?_) fun hlt => ?_
      · have hd:=hI.done ho ha hm (Or.inr hlt)
        rw [show i-1+1=i by omega] at hd
        simp [f0,f1,f2,f3,f9,f10]
        exact ⟨l',hr2,hp,hd⟩
      · have ham:a<m:=by
          apply Classical.byContradiction
          intro hn2
          have:m=a:=by omega
          subst this
          exact hg.perm hp (Nat.le_refl _) (Nat.le_refl _) (by omega) (by omega) m (Nat.le_refl _) (by omega) hlt
        have g1:=fun L=>sq_ld hr2.row (i:=m) (by omega) (L:=L)
        have g2:=fun L=>sq_ld hr2.row (i:=m-1) (by omega) (L:=L)
        have w1:=fun L=>sq_w1 hr2 hlim (i:=m) (by omega) (L:=L) (gE l' (m-1))
        have w2:=fun L=>sq_w2 hr2 hlim (i:=m) (j:=m-1) (by omega) (L:=L)
        have hr5:=hr2.swap (i:=m) (j:=m-1) (by omega) (by omega)
        have hsw:=InsR.swap ho hI (by omega) (by omega) (by omega) hlt
        have hps5:=hp.trans (swp_perm (l:=l') (i:=m) (j:=m-1) (a:=a) (b:=e) ⟨by omega,by omega⟩ ⟨by omega,by omega⟩ (by omega))
        have e3:(m:Int)-1=((m-1:Nat):Int):=by omega
        simp (disch:=omega) [f0,f1,f2,f3,f9,f10,f11,e2,wrap_i64,g1,g2,w1,w2,sq_addr,-viaddrS_in,-vstore,-vload_ptrO]
        exact ⟨m-1,by omega,by omega,swp l' m (m-1),hr5,hps5,hsw,by omega,by omega⟩
    · have hd:=hI.done ho ha hm (Or.inl (by omega))
      rw [show i-1+1=i by omega] at hd
      simp [f0,f1,f2,f3,f9,f10]
      exact ⟨l',hr,hp,hd⟩
  · simp [f0,f1,f2,f3,f9,f10]
    exact ⟨l1,hr4,hps,SortR.one (by simp at h2;omega)⟩
  clear f0 f1 f2 f3 f9 f10 hr4 hps hso1 l1 H1
  rintro fr L H' ⟨l',⟨f0,f1,f2,f3,f9,f10⟩,rfl,hr,hp,hso⟩
  simp (disch:=omega) [f0,f1,f2,f3,f9,f10,wrap_i64]
  refine wCond_join (fun fr L H'=>∃l',(fr 0=.sl b 0 l0.length 4∧fr 1=.int .i64 a∧fr 2=.int .i64 e∧fr 3=.func (.func g) fs cs∧fr 9=.int .i64 (i:Nat)∧fr 10=.int .i64 (c:Nat))∧L=[]∧SqS b H0 l0 l' H'∧PermR a e l l'∧SortR cf a i l') (fun h2 => ?_) (fun h2 => ?_) ?_
  · simp (disch:=omega) [f0,f1,f2,f3,f9,f10,wrap_i64]
    refine wLoop_up (e-(i+1)) (fun m fr L H'=>∃l',(fr 0=.sl b 0 l0.length 4∧fr 1=.int .i64 a∧fr 2=.int .i64 e∧fr 3=.func (.func g) fs cs∧fr 9=.int .i64 (i:Nat)∧fr 10=.int .i64 (c:Nat)∧fr 12=.int .i64 ((i+1+m:Nat):Int))∧L=[]∧SqS b H0 l0 l' H'∧PermR a e l l'∧SortR cf a i l') ⟨l',by simp [f0,f1,f2,f3,f9,f10],rfl,hr,hp,hso⟩ ?_
    clear f0 f1 f2 f3 f9 f10 hr hp hso l'
    rintro m hm fr L H' ⟨l',⟨f0,f1,f2,f3,f9,f10,f12⟩,rfl,hr,hp,hso⟩
    have hlen:=hp.len
    simp [f0,f1,f2,f3,f9,f10,f12]
    refine cond_dec (fun h1 => ?_) fun h1 => ?_
    · have e2:((i:Int)+1+(m:Int)).toNat=i+1+m:=by omega
      have e3:((i:Int)+1+(m:Int)-1).toNat=i+m:=by omega
      have g1:=fun L=>sq_ld hr.row (i:=i+1+m) (by omega) (L:=L)
      have g2:=fun L=>sq_ld hr.row (i:=i+m) (by omega) (L:=L)
      simp (disch:=omega) [f0,f1,f2,f3,f9,f10,f12,e2,e3,wrap_i64,g1,g2,hst,sq_addr,-viaddrS_in,-vload_ptrO]
      refine hc.at hr (i:=i+1+m) (j:=i+m) (by omega) (by omega) fun H2 x2 hr2 => ?_
      simp
      refine cond_ndec (fun hlt => ?_) fun hlt => ?_
      · simp [f0,f1,f2,f3,f9,f10]
        exact ⟨l',hr2,hp,hso⟩
      · have g1:=fun L=>sq_ld hr2.row (i:=i+1+m) (by omega) (L:=L)
        have g2:=fun L=>sq_ld hr2.row (i:=i+m) (by omega) (L:=L)
        have w1:=fun L=>sq_w1 hr2 hlim (i:=i+1+m) (by omega) (L:=L) (gE l' (i+m))
        have w2:=fun L=>sq_w2 hr2 hlim (i:=i+1+m) (j:=i+m) (by omega) (L:=L)
        have hr5:=hr2.swap (i:=i+1+m) (j:=i+m) (by omega) (by omega)
        have hps5:=hp.trans (swp_perm (l:=l') (i:=i+1+m) (j:=i+m) (a:=a) (b:=e) ⟨by omega,by omega⟩ ⟨by omega,by omega⟩ (by omega))
        have hso5:SortR cf a i (swp l' (i+1+m) (i+m)):=hso.keep fun k hk=>by rw [swp_get (by omega) (by omega),if_neg (by omega),if_neg (by omega)]
        simp (disch:=omega) [f0,f1,f2,f3,f9,f10,f12,e2,e3,wrap_i64,g1,g2,w1,w2,sq_addr,-viaddrS_in,-vstore,-vload_ptrO]
        exact ⟨by omega,by omega,_,hr5,hps5,hso5⟩
    · simp [f0,f1,f2,f3,f9,f10]
      exact ⟨l',hr,hp,hso⟩
  · simp [f0,f1,f2,f3,f9,f10]
    exact ⟨l',hr,hp,hso⟩
  clear f0 f1 f2 f3 f9 f10 hr hp hso l'
  rintro fr L H' ⟨l',⟨f0,f1,f2,f3,f9,f10⟩,rfl,hr,hp,hso⟩
  simp (disch:=omega) [f0,f1,f2,f3,f9,f10,wrap_i64]
  exact ⟨by omega,l',i,by omega,hr,hp,by omega,hso⟩
theorem sq_pow {x:Nat}(hx:0<x∧x<256)(hlim:lim≤H.length)(hK:∀m:Nat,x<m→m≤2*x→K (.int .u64 m) H):VCall tbl lim 120 [.int .i64 x] H K:=by
  have h:=List.all_eq_true.1 pow_all x (List.mem_range.2 hx.2)
  cases hr:evFn (cloT tbl) 60 0 120 [.int .i64 x] [] with
  | none=>rw [hr] at h;cases h
  | some r =>
    obtain ⟨v,H1⟩:=r
    rw [hr] at h
    unfold powChk at h
    split at h
    · rename_i m he
      cases he
      have:=evFn_sh (G:=H) tbl 60 0 lim _ _ [] _ _ (by omega) hr
      have e:shH H []=H:=by simp [shH]
      rw [e] at this
      simp at h
      refine ⟨60,.int .u64 m,H,by simpa [shs,sh] using this,?_⟩
      have e2:m=((m.toNat:Nat):Int):=by omega
      rw [e2]
      exact hK _ (by omega) (by omega)
    · cases h
theorem sq_bits {x:Nat}(hx:x<256)(hlim:lim≤H.length)(hK:∀m:Nat,m≤100→K (.int .i64 m) H):VCall tbl lim 98 [.int .u64 x] H K:=by
  have h:=List.all_eq_true.1 len_all x (List.mem_range.2 hx)
  cases hr:evFn (cloT tbl) 60 0 98 [.int .u64 x] [] with
  | none=>rw [hr] at h;cases h
  | some r =>
    obtain ⟨v,H1⟩:=r
    rw [hr] at h
    unfold lenChk at h
    split at h
    · rename_i m he
      cases he
      have:=evFn_sh (G:=H) tbl 60 0 lim _ _ [] _ _ (by omega) hr
      have e:shH H []=H:=by simp [shH]
      rw [e] at this
      simp at h
      refine ⟨60,.int .i64 m,H,by simpa [shs,sh] using this,?_⟩
      have e2:m=((m.toNat:Nat):Int):=by omega
      rw [e2]
      exact hK _ (by omega)
    · cases h
theorem sq_next {s:Nat}{w:Int}(h:H[s]? = some (.row [.int .u64 w] true))(hl:lim≤s)(hK:∀z,K (.int .u64 z) (H.set s (.row [.int .u64 z] true))):VCall tbl lim 121 [.ptr s 0] H K:=by
  refine VCall_fn tbl_at121 rfl ?_
  have hb:=(List.getElem?_eq_some_iff.1 h).1
  have ld:=fun L=>su_ld h (L:=L)
  have st:=fun L z=>su_st (lim:=lim) (r:=.row [] true) h hl (L:=L) (z:=z)
  have row:∀z,(H.set s (.row [.int .u64 z] true))[s]? = some (.row [.int .u64 z] true):=fun z=>by simp [hb]
  have ld2:=fun z L=>su_ld (row z) (L:=L)
  have st2:∀y z L,vstore lim L (H.set s (.row [.int .u64 y] true)) (.ptr s 0) (.int .u64 z) 1=some (L,H.set s (.row [.int .u64 z] true)):=fun y z L=>by
    rw [su_st (r:=.row [] true) (row y) hl,List.set_set]
  simp [vf121,ld,st,ld2,st2,shl_u,shl_u2,shr_u,vbin_xor,-vstore,-vload_ptrO]
  exact hK _
end
end Go.Proofs.Ytclghkegfpcdpaa.Vm
namespace Go.Proofs.Ytclghkegfpcdpaa.Vm
open Go
set_option maxRecDepth 100000
set_option maxHeartbeats 1000000
set_option linter.unusedSimpArgs false
set_option linter.unusedVariables false
attribute [-simp] List.getD_eq_getElem?_getD
section
variable {lim:Nat}{H H0:Hp}{K:V→Hp→Prop}{b g:Nat}{l l0:List EQ}{cf:EQ→EQ→Int}{fs cs:List V}
theorem sq_break (hs:SqS b H0 l0 l H)(hlim:lim≤b){a e:Nat}{f:V}(hf:stor f=true)(hae:a+8≤e∧e≤l0.length)(hl:l0.length<256)
    (hK:∀H' l',SqS b H0 l0 l' H'→PermR a e l l'→K (.tup []) H'):VCall tbl lim 113 [.sl b 0 l0.length 4,.int .i64 a,.int .i64 e,f] H K:=by
  refine VCall_fn tbl_at113 rfl ?_
  have hn:=hs.n
  have hb:=hs.blt
  have hle:=hs.len
  obtain ⟨d,rfl⟩:∃d,e=a+d:=⟨e-a,by omega⟩
  have e0:(a:Int)+(d:Int)-(a:Int)=(d:Int):=by omega
  have e8:((8:Int)≤(d:Int))=True:=eq_true (by omega)
  have eq4:(d:Int).tdiv 4=((d / 4:Nat):Int):=tdiv_nat _ 4
  have hd4:2*(d / 4)≤d / 2∧2≤d / 4∧4*(d / 4)≤d:=by omega
  have wu:∀k:Nat,k<256→IntKind.wrap .u64 (k:Int)=k:=fun k hk=>wrap_u64 (by omega)
  have stn:∀L,vstore lim L (H++[Blk.row [V.int .u64 0] true]) (.ptr H.length 0) (.int .u64 d) 1=some (L,H++[Blk.row [V.int .u64 d] true]):=fun L=>by
    rw [su_st (r:=.row [] true) (w:=0) (by simp) (by omega)];simp
  simp (disch:=omega) [vf113,wrap_i64,e0,e8,eq4,wu,stn,-vstore]
  have row1:(H++[Blk.row [V.int .u64 d] true])[H.length]? = some (.row [.int .u64 d] true):=by simp
  have hs1:SqS b H0 l0 l (H++[Blk.row [V.int .u64 d] true]):=hs.grow HX.push
  have hl1:H.length<(H++[Blk.row [V.int .u64 d] true]).length:=by simp
  generalize H++[Blk.row [V.int .u64 d] true]=H1 at *
  refine sq_pow (x:=d) (by omega) (by omega) fun m hm1 hm2 => ?_
  simp (disch:=omega) [wrap_i64,e0,e8,eq4]
  refine wLoop_up 3 (fun i fr L H'=>∃l' w,(fr 0=.sl b 0 l0.length 4∧fr 1=.int .i64 a∧fr 8=.int .i64 d∧fr 9=.ptr H.length 0∧fr 10=.int .u64 m∧fr 11=.int .i64 ((a+(d / 4*2-1)+i:Nat):Int))∧L=[]∧SqS b H0 l0 l' H'∧H'[H.length]? = some (.row [.int .u64 w] true)∧PermR a (a+d) l l') ⟨l,d,by simp;omega,rfl,hs1,row1,PermR.refl⟩ ?_
  rintro i hi fr L H' ⟨l',w,⟨f0,f1,f8,f9,f10,f11⟩,rfl,hr,hw,hp⟩
  have hlen:=hp.len
  simp (disch:=omega) [f0,f1,f8,f9,f10,f11,eq4,wrap_i64]
  refine cond_dec (fun ht => ?_) fun ht => ?_
  · have hi2:i<3:=by omega
    simp [f0,f1,f8,f9,f10,f11]
    refine sq_next hw (by omega) fun z => ?_
    have hr2:=hr.aside (s:=H.length) (r:=.row [.int .u64 z] true) hle
    have hw2:(H'.set H.length (.row [.int .u64 z] true))[H.length]? = some (.row [.int .u64 z] true):=by
      rw [List.getElem?_set_self (List.getElem?_eq_some_iff.1 hw).1]
    generalize H'.set H.length (.row [.int .u64 z] true)=H2 at *
    obtain ⟨o,ho,hand⟩:=and_lt (x:=z) (m:=m) (by omega)
    have wm:IntKind.wrap .u64 ((m:Int)-1)=(m:Int)-1:=wrap_u64 (by omega)
    simp (disch:=omega) [f0,f1,f8,f9,f10,f11,wm,hand,wrap_i64]
    refine wCond_join (fun fr L H'=>∃o:Nat,(fr 0=.sl b 0 l0.length 4∧fr 1=.int .i64 a∧fr 8=.int .i64 d∧fr 9=.ptr H.length 0∧fr 10=.int .u64 m∧fr 11=.int .i64 ((a+(d / 4*2-1)+i:Nat):Int)∧fr 12=.int .i64 (o:Nat))∧L=[]∧H'=H2∧o<d) (fun h => ?_) (fun h => ?_) ?_
    · simp at h
      simp (disch:=omega) [f0,f1,f8,f9,f10,f11,wrap_i64]
      exact ⟨o-d,by omega,by omega⟩
    · simp at h
      simp [f0,f1,f8,f9,f10,f11]
      exact ⟨o,rfl,by omega⟩
    clear f0 f1 f8 f9 f10 f11
    rintro fr L H3 ⟨q,⟨f0,f1,f8,f9,f10,f11,f12⟩,rfl,rfl,hq⟩
    have e1:((a:Int)+((d / 4*2-1:Nat):Int)+(i:Int)).toNat=a+(d / 4*2-1)+i:=by omega
    have e2:((a:Int)+(q:Int)).toNat=a+q:=by omega
    have g1:=fun L=>sq_ld hr2.row (i:=a+(d / 4*2-1)+i) (by omega) (L:=L)
    have g2:=fun L=>sq_ld hr2.row (i:=a+q) (by omega) (L:=L)
    have w1:=fun L=>sq_w1 hr2 hlim (i:=a+(d / 4*2-1)+i) (by omega) (L:=L) (gE l' (a+q))
    have w2:=fun L=>sq_w2 hr2 hlim (i:=a+(d / 4*2-1)+i) (j:=a+q) (by omega) (L:=L)
    have hr5:=hr2.swap (i:=a+(d / 4*2-1)+i) (j:=a+q) (by omega) (by omega)
    have hps5:=hp.trans (swp_perm (l:=l') (i:=a+(d / 4*2-1)+i) (j:=a+q) (a:=a) (b:=a+d) ⟨by omega,by omega⟩ ⟨by omega,by omega⟩ (by omega))
    have hw5:(H3.set b (rowB (swp l' (a+(d / 4*2-1)+i) (a+q))))[H.length]? = some (.row [.int .u64 z] true):=by
      rw [List.getElem?_set_ne (by omega)];exact hw2
    simp (disch:=omega) [f0,f1,f8,f9,f10,f11,f12,e1,e2,wrap_i64,g1,g2,w1,w2,sq_addr,-viaddrS_in,-vstore,-vload_ptrO]
    exact ⟨by omega,by omega,_,hr5,⟨z,hw2⟩,hps5⟩
  · simp
    exact hK _ _ hr hp
theorem sq_choose (hs:SqS b H0 l0 l H)(hlim:lim≤b)(hst:allStor fs=true∧allStor cs=true∧g≠3999999)(hc:CmpQ b g fs cs H0 l0 cf){a e:Nat}(hae:a+8≤e∧e≤l0.length)(hl:l0.length≤100000)
    (hK:∀H' (v h:Nat),SqS b H0 l0 l H'→(a≤v∧v<e)→K (.tup [.int .i64 (v:Nat),.int .i64 (h:Nat)]) H'):VCall tbl lim 114 [.sl b 0 l0.length 4,.int .i64 a,.int .i64 e,.func (.func g) fs cs] H K:=by
  refine VCall_fn tbl_at114 rfl ?_
  have hn:=hs.n
  have hb:=hs.blt
  have hle:=hs.len
  obtain ⟨d,rfl⟩:∃d,e=a+d:=⟨e-a,by omega⟩
  have e0:(a:Int)+(d:Int)-(a:Int)=(d:Int):=by omega
  have e8:((8:Int)≤(d:Int))=True:=eq_true (by omega)
  obtain ⟨q,eq4,hd4⟩:∃q:Nat,(d:Int).tdiv 4=(q:Int)∧4*q≤d∧d≤4*q+3:=⟨d / 4,tdiv_nat _ 4,by omega,by omega⟩
  simp (disch:=omega) [vf114,wrap_i64,e0,e8,eq4]
  have row1:(H++[Blk.row [V.int .i64 0] true])[H.length]? = some (.row [.int .i64 0] true):=by simp
  have hs1:SqS b H0 l0 l (H++[Blk.row [V.int .i64 0] true]):=hs.grow HX.push
  generalize H++[Blk.row [V.int .i64 0] true]=H1 at *
  generalize H.length=sw at *
  refine wCond_join (fun fr L H'=>∃i j k w,(fr 0=.sl b 0 l0.length 4∧fr 3=.func (.func g) fs cs∧fr 11=.ptr sw 0∧fr 12=.int .i64 (i:Nat)∧fr 13=.int .i64 (j:Nat)∧fr 14=.int .i64 (k:Nat))∧L=[]∧SqS b H0 l0 l H'∧H'[sw]? = some (.row [.int .i64 w] true)∧(a≤i∧i<a+d)∧(a≤j∧j<a+d)∧a≤k∧k<a+d) (fun h => ?_) (fun h => ?_) ?_
  · simp at h
    have c1:(a:Int)+(q:Int)=((a+q:Nat):Int):=by omega
    have c2:(a:Int)+(q:Int)*2=((a+q*2:Nat):Int):=by omega
    have c3:(a:Int)+(q:Int)*3=((a+q*3:Nat):Int):=by omega
    simp only [c1,c2,c3]
    generalize hi:a+q=i at *
    generalize hj:a+q*2=j at *
    generalize hk:a+q*3=k at *
    simp [hst]
    refine sq_medianAdj hs1 hlim hst hc row1 hle (x:=i) (by omega) hl fun H2 w2 r2 hs2 row2 h2 => ?_
    simp [hst]
    refine sq_medianAdj hs2 hlim hst hc row2 hle (x:=j) (by omega) hl fun H3 w3 r3 hs3 row3 h3 => ?_
    simp [hst]
    refine sq_medianAdj hs3 hlim hst hc row3 hle (x:=k) (by omega) hl fun H4 w4 r4 hs4 row4 h4 => ?_
    simp
    exact ⟨r2,r3,r4,by omega,hs4,⟨w4,row4⟩,by omega,by omega,by omega,by omega⟩
  · simp
    exact ⟨a+q,a+q*2,a+q*3,by omega,hs1,⟨0,row1⟩,by omega,by omega,by omega,by omega⟩
  rintro fr L H2 ⟨i,j,k,w,⟨f0,f3,f11,f12,f13,f14⟩,rfl,hs2,row2,hi,hj,hk⟩
  simp [f0,f3,f11,f12,f13,f14,hst]
  refine sq_median hs2 hlim hst hc row2 hle (x:=i) (y:=j) (z:=k) (by omega) (by omega) (by omega) fun H3 w3 r hs3 row3 h3 => ?_
  have ld:=fun L=>sw_ld row3 (L:=L)
  simp [f0,f3,f11,f12,f13,f14,ld,-vload_ptrO]
  refine cond_dec (fun h => ?_) fun h => ?_
  · simp
    exact hK _ r 1 hs3 (by omega)
  simp
  refine cond_dec (fun h => ?_) fun h => ?_
  · simp
    exact hK _ r 2 hs3 (by omega)
  · simp
    exact hK _ r 0 hs3 (by omega)
theorem sq_pdq (hc:CmpQ b g fs cs H0 l0 cf) (ho:Ordr cf) (hst:allStor fs=true∧allStor cs=true∧g≠3999999) (hlim:lim≤b) (hl:l0.length<256):∀(n:Nat) {H:Hp} {l:List EQ} {a e:Nat} {lm:Nat} {K:V→Hp→Prop},e-a≤n→SqS b H0 l0 l H→(a≤e∧e≤l0.length)→lm≤1000→GdR cf a e l →
    (∀H' l',SqS b H0 l0 l' H'→PermR a e l l'→SortR cf a e l'→K (.tup []) H')→VCall tbl lim 99 [.sl b 0 l0.length 4,.int .i64 a,.int .i64 e,.int .i64 lm,.func (.func g) fs cs] H K:=by
  intro n
  induction n using Nat.strongRecOn with
  | ind n ih =>
  intro H l a e lm K hn hs hae hlm hg hK
  have hb:=hs.blt
  refine VCall_fn tbl_at99 rfl ?_
  have hln:=hs.n
  simp [vf99]
  refine wLoop_m (n:=e-a) (fun m fr L H'=>∃l' a' e' lm wb wp,(fr 0=.sl b 0 l0.length 4∧fr 1=.int .i64 (a':Nat)∧fr 2=.int .i64 (e':Nat)∧fr 3=.int .i64 (lm:Nat)∧fr 4=.func (.func g) fs cs∧fr 10=.bool wb∧fr 11=.bool wp)∧L=[]∧SqS b H0 l0 l' H'∧PermR a e l l'∧OutR cf a e a' e' l'∧GdR cf a' e' l'∧lm≤1000∧m=e'-a'∧m≤e-a) ⟨l,a,e,lm,true,true,by simp,rfl,hs,PermR.refl,OutR.start hae.1,hg,hlm,rfl,Nat.le_refl _⟩ ?_
  clear hs hg hlm
  rintro m fr L H1 ⟨l1,x,y,lm1,wb,wp,⟨f0,f1,f2,f3,f4,f10,f11⟩,rfl,hs,hp,hO,hg,hlm,hm,hm2⟩
  have hlen:=hp.len
  have hrg:=hO.rng
  have e0:(y:Int)-(x:Int)=((y-x:Nat):Int):=by omega
  simp (disch:=omega) [f0,f1,f2,f3,f4,f10,f11,wrap_i64,hst]
  refine cond_dec (fun h12 => ?_) fun h12 => ?_
  · simp [f0,f1,f2,f3,f4,f10,f11,hst]
    refine sq_isort hs hlim hst hc ho (a:=x) (e:=y) (by omega) (by omega) fun H2 l2 hs2 hp2 hso2 => ?_
    simp
    exact hK _ _ hs2 (hp.trans (hp2.wide hrg.1 hrg.2.2)) ((hO.perm hp2 (by omega)).sort hso2)
  simp [f0,f1,f2,f3,f4,f10,f11,hst]
  by_cases hz:lm1=0
  · subst hz
    simp [f0,f1,f2,f3,f4,f10,f11,hst]
    refine sq_heap hs hlim hst hc ho (a:=x) (e:=y) (by omega) (by omega) fun H2 l2 hs2 hp2 hso2 => ?_
    simp
    exact hK _ _ hs2 (hp.trans (hp2.wide hrg.1 hrg.2.2)) ((hO.perm hp2 (by omega)).sort hso2)
  simp [f0,f1,f2,f3,f4,f10,f11,hst,hz]
  refine wCond_join (fun fr L H'=>∃l' lm,(fr 0=.sl b 0 l0.length 4∧fr 1=.int .i64 x∧fr 2=.int .i64 y∧fr 3=.int .i64 (lm:Nat)∧fr 4=.func (.func g) fs cs∧fr 10=.bool wb∧fr 11=.bool wp∧fr 12=.int .i64 ((y:Int)-(x:Int)))∧L=[]∧SqS b H0 l0 l' H'∧PermR a e l l'∧OutR cf a e x y l'∧GdR cf x y l'∧lm≤1000) (fun h => ?_) (fun h => ?_) ?_
  · simp [f0,f1,f2,f3,f4,f10,f11,hst]
    refine sq_break hs hlim (a:=x) (e:=y) (by simp [stor,hst]) (by omega) (by omega) fun H2 l2 hs2 hp2 => ?_
    have e1:(lm1:Int)-1=((lm1-1:Nat):Int):=by omega
    simp (disch:=omega) [f0,f1,f2,f3,f4,f10,f11,wrap_i64,e1]
    exact ⟨l2,lm1-1,by omega,hs2,hp.trans (hp2.wide hrg.1 hrg.2.2),hO.perm hp2 (by omega),hg.perm hp2 (Nat.le_refl _) (Nat.le_refl _) (by omega),by omega⟩
  · simp [f0,f1,f2,f3,f4,f10,f11]
    exact ⟨l1,lm1,by omega,hs,hp,hO,hg,by omega⟩
  clear f0 f1 f2 f3 f4 f10 f11 hs hp hO hg hlen hlm hz
  rintro fr L H2 ⟨l2,lm2,⟨f0,f1,f2,f3,f4,f10,f11,f12⟩,rfl,hs,hp,hO,hg,hlm⟩
  have hlen:=hp.len
  simp [f0,f1,f2,f3,f4,f10,f11,f12,hst]
  refine sq_choose hs hlim hst hc (a:=x) (e:=y) (by omega) (by omega) fun H3 v hint hs3 hv => ?_
  simp [f0,f1,f2,f3,f4,f10,f11,f12,hst]
  refine wCond_join (fun fr L H'=>∃l' v hint,(fr 0=.sl b 0 l0.length 4∧fr 1=.int .i64 x∧fr 2=.int .i64 y∧fr 3=.int .i64 (lm2:Nat)∧fr 4=.func (.func g) fs cs∧fr 10=.bool wb∧fr 11=.bool wp∧fr 12=.int .i64 ((y:Int)-(x:Int))∧fr 13=.int .i64 (v:Nat)∧fr 14=.int .i64 (hint:Nat))∧L=[]∧SqS b H0 l0 l' H'∧PermR a e l l'∧OutR cf a e x y l'∧GdR cf x y l'∧x≤v∧v<y) (fun h => ?_) (fun h => ?_) ?_
  · simp [f0,f1,f2,f3,f4,f10,f11,hst]
    refine sq_reverse hs3 hlim (a:=x) (e:=y) (by omega) (by omega) fun H4 l4 hs4 hp4 => ?_
    simp (disch:=omega) [f0,f1,f2,f3,f4,f10,f11,f12,wrap_i64]
    exact ⟨l4,(y-1)-(v-x),⟨by omega,1,rfl⟩,hs4,hp.trans (hp4.wide hrg.1 hrg.2.2),hO.perm hp4 (by omega),hg.perm hp4 (Nat.le_refl _) (Nat.le_refl _) (by omega),by omega,by omega⟩
  · simp [f0,f1,f2,f3,f4,f10,f11,f12]
    exact ⟨l2,v,⟨rfl,hint,rfl⟩,hs3,hp,hO,hg,by omega,by omega⟩
  clear f0 f1 f2 f3 f4 f10 f11 f12 hs hs3 hp hO hg hlen hv
  rintro fr L H4 ⟨l4,v,hint,⟨f0,f1,f2,f3,f4,f10,f11,f12,f13,f14⟩,rfl,hs,hp,hO,hg,hv⟩
  have hlen:=hp.len
  rw [seqQ_normal]
  refine wSeq_join (fun fr L H'=>∃l' wb wp,(fr 0=.sl b 0 l0.length 4∧fr 1=.int .i64 x∧fr 2=.int .i64 y∧fr 3=.int .i64 (lm2:Nat)∧fr 4=.func (.func g) fs cs∧fr 12=.int .i64 ((y:Int)-(x:Int))∧fr 13=.int .i64 (v:Nat)∧fr 10=.bool wb∧fr 11=.bool wp)∧L=[]∧SqS b H0 l0 l' H'∧PermR a e l l'∧OutR cf a e x y l'∧GdR cf x y l') ?_ ?_
  · have pis:∀(fr:Fr),fr 0=.sl b 0 l0.length 4→True:=fun _ _=>trivial
    by_cases hh:wb=true∧wp=true∧hint=1
    · obtain ⟨rfl,rfl,rfl⟩:=hh
      simp [f0,f1,f2,f3,f4,f10,f11,f12,f13,f14,hst]
      refine sq_pis hs hlim hst hc ho (a:=x) (e:=y) (by omega) (by omega) hg fun H5 l5 ok hs5 hp5 hso5 => ?_
      cases ok with
      | true =>
        simp
        exact hK _ _ hs5 (hp.trans (hp5.wide hrg.1 hrg.2.2)) ((hO.perm hp5 (by omega)).sort (hso5 rfl))
      | false =>
        simp [f0,f1,f2,f3,f4,f10,f11,f12,f13,f14]
        exact ⟨l5,hs5,hp.trans (hp5.wide hrg.1 hrg.2.2),hO.perm hp5 (by omega),hg.perm hp5 (Nat.le_refl _) (Nat.le_refl _) (by omega)⟩
    · have fin:∃l',SqS b H0 l0 l' H4∧PermR a e l l'∧OutR cf a e x y l'∧GdR cf x y l':=⟨l4,hs,hp,hO,hg⟩
      cases wb with
      | false =>
        simp [f0,f1,f2,f3,f4,f10,f11,f12,f13,f14]
        exact fin
      | true =>
        cases wp with
        | false =>
          simp [f0,f1,f2,f3,f4,f10,f11,f12,f13,f14]
          exact fin
        | true =>
          have h1:((hint:Int)=1)=False:=eq_false (by simp at hh;omega)
          simp [f0,f1,f2,f3,f4,f10,f11,f12,f13,f14,h1]
          exact fin
  clear f0 f1 f2 f3 f4 f10 f11 f12 f13 f14 hs hp hO hg hlen
  rintro fr L H5 ⟨l5,wb,wp,⟨f0,f1,f2,f3,f4,f12,f13,f10,f11⟩,rfl,hs,hp,hO,hg⟩
  have hlen:=hp.len
  refine wSeq_join (fun fr L H'=>∃l' wb wp,(fr 0=.sl b 0 l0.length 4∧fr 1=.int .i64 x∧fr 2=.int .i64 y∧fr 3=.int .i64 (lm2:Nat)∧fr 4=.func (.func g) fs cs∧fr 12=.int .i64 ((y:Int)-(x:Int))∧fr 13=.int .i64 (v:Nat)∧fr 10=.bool wb∧fr 11=.bool wp)∧L=[]∧SqS b H0 l0 l' H'∧PermR a e l l'∧OutR cf a e x y l'∧GdR cf x y l') ?_ ?_
  · by_cases hx0:x=0
    · have h0:(0<x)=False:=eq_false (by omega)
      simp [f0,f1,f2,f3,f4,f10,f11,f12,f13,h0]
      exact ⟨l5,hs,hp,hO,hg⟩
    · have h0:(0<x)=True:=eq_true (by omega)
      have e1:((x:Int)-1).toNat=x-1:=by omega
      have g1:=fun L=>sq_ld hs.row (i:=x-1) (by omega) (L:=L)
      have g2:=fun L=>sq_ld hs.row (i:=v) (by omega) (L:=L)
      simp (disch:=omega) [f0,f1,f2,f3,f4,f10,f11,f12,f13,h0,e1,wrap_i64,g1,g2,hst,sq_addr,-viaddrS_in,-vload_ptrO]
      refine hc.at hs (i:=x-1) (j:=v) (by omega) (by omega) fun H6 x6 hs6 => ?_
      simp
      refine cond_ndec (fun hlt => ?_) fun hlt => ?_
      · simp [f0,f1,f2,f3,f4,f10,f11,f12,f13,hst]
        refine sq_partEq hs6 hlim hst hc ho (a:=x) (e:=y) (v:=v) (by omega) (by omega) (hg.least ho (by omega) hlt) fun H7 l7 q hs7 hp7 hq heq => ?_
        have hO7:=(hO.perm hp7 (by omega)).equal (m:=q) (by omega) heq
        simp [f0,f1,f2,f3,f4,f10,f11,f12,f13]
        exact ⟨y-q,by omega,l7,q,y,lm2,by omega,hs7,hp.trans (hp7.wide hrg.1 hrg.2.2),hO7,hO7.guard (by omega),by omega,rfl,by omega⟩
      · simp [f0,f1,f2,f3,f4,f10,f11,f12,f13]
        exact ⟨l5,hs6,hp,hO,hg⟩
  clear f0 f1 f2 f3 f4 f10 f11 f12 f13 hs hp hO hg hlen
  rintro fr L H6 ⟨l6,wb,wp,⟨f0,f1,f2,f3,f4,f12,f13,f10,f11⟩,rfl,hs,hp,hO,hg⟩
  have hlen:=hp.len
  simp [f0,f1,f2,f3,f4,f10,f11,f12,f13,hst]
  refine sq_part hs hlim hst hc ho (a:=x) (e:=y) (v:=v) (by omega) (by omega) fun H7 l7 q ok hs7 hp7 hq => ?_
  have hqr:=hq.rng
  have hO7:=hO.perm hp7 (by omega)
  have hp77:=hp.trans (hp7.wide hrg.1 hrg.2.2)
  have hl7:=hp77.len
  simp (disch:=omega) [f0,f1,f2,f3,f4,f10,f11,f12,f13,hst,wrap_i64]
  refine cond_dec (fun hlr => ?_) fun hlr => ?_
  · simp [f0,f1,f2,f3,f4,f10,f11,f12,f13,hst]
    refine ih (q-x) (by omega) (Nat.le_refl _) hs7 (by omega) hlm ((hg.perm hp7 (Nat.le_refl _) (Nat.le_refl _) (by omega)).less (by omega)) fun H8 l8 hs8 hp8 hso8 => ?_
    have hO8:=hO7.left ho hq hp8 hso8 (by omega)
    simp (disch:=omega) [f0,f1,f2,f3,f4,f10,f11,f12,f13,hst,wrap_i64]
    exact ⟨y-(q+1),by omega,l8,q+1,y,lm2,by omega,hs8,hp77.trans (hp8.wide (by omega) (by omega)),hO8,hO8.guard (by omega),by omega,rfl,by omega⟩
  · have e1:(q:Int)+1=((q+1:Nat):Int):=by omega
    simp (disch:=omega) [f0,f1,f2,f3,f4,f10,f11,f12,f13,hst,wrap_i64]
    rw [e1]
    refine ih (y-(q+1)) (by omega) (Nat.le_refl _) hs7 (by omega) hlm (fun _ k h1 h2=>hq.hi k (by omega) h2) fun H8 l8 hs8 hp8 hso8 => ?_
    have hO8:=hO7.right ho hq hp8 hso8 (by omega)
    simp (disch:=omega) [f0,f1,f2,f3,f4,f10,f11,f12,f13,hst,wrap_i64]
    exact ⟨q-x,by omega,l8,x,q,lm2,by omega,hs8,hp77.trans (hp8.wide (by omega) (by omega)),hO8,((hg.perm hp7 (Nat.le_refl _) (Nat.le_refl _) (by omega)).perm hp8 (by omega) (Nat.le_refl _) (by omega)).less (by omega),by omega,rfl,by omega⟩
theorem sq_sort (hb:H[b]? = some (rowB l))(hlim:lim≤b)(hst:allStor fs=true∧allStor cs=true∧g≠3999999)(hc:CmpQ b g fs cs H l cf)(ho:Ordr cf)(hl:l.length<256)
    (hK:∀H' l',SqS b H l l' H'→SortR cf 0 l.length l'→K (.tup []) H'):VCall tbl lim 88 [.sl b 0 l.length 4,.func (.func g) fs cs] H K:=by
  refine VCall_fn tbl_at88 rfl ?_
  have hbl:=(List.getElem?_eq_some_iff.1 hb).1
  have wu:IntKind.wrap .u64 (l.length:Int)=(l.length:Int):=wrap_u64 (by omega)
  simp [vf88,wu,hst]
  refine sq_bits (x:=l.length) hl (by omega) fun m hm => ?_
  simp [hst]
  refine sq_pdq (a:=0) (e:=l.length) hc ho hst hlim hl l.length (by omega) (SqS.start hb) (by omega) (by omega) (fun h=>by omega) fun H' l' hs hp hso => ?_
  simp
  exact hK _ _ hs hso
end
end Go.Proofs.Ytclghkegfpcdpaa.Vm
namespace Go.Proofs.Ytclghkegfpcdpaa.Vm
open Go
set_option maxRecDepth 100000
set_option maxHeartbeats 1000000
set_option linter.unusedSimpArgs false
set_option linter.unusedVariables false
attribute [-simp] List.getD_eq_getElem?_getD
section
variable {c:Cp}{s:Nat}
theorem walk_conds (hok:CapOk c) (hs:s<nsN c.P) :
    (∀i,i≤rnN (nsN c.P) (nxN c.P) (lsN c) s→wlk (layL c.P (lsN c)) s i=itN (nuP c) i s) ∧
    (∀i,i<rnN (nsN c.P) (nxN c.P) (lsN c) s→((layL c.P (lsN c)).getD (wlk (layL c.P (lsN c)) s i) default).p≠-1∧wlk (layL c.P (lsN c)) s (i+1)≠s) ∧
    (((layL c.P (lsN c)).getD (wlk (layL c.P (lsN c)) s (rnN (nsN c.P) (nxN c.P) (lsN c) s)) default).p = -1∨wlk (layL c.P (lsN c)) s (rnN (nsN c.P) (nxN c.P) (lsN c) s+1)=s):=by
  have hnu:=hok.nu
  obtain ⟨h1,h2,h3⟩:=rn_spec (L:=lsN c) hnu hs
  have hw:∀i,i≤rnN (nsN c.P) (nxN c.P) (lsN c) s→wlk (layL c.P (lsN c)) s i=itN (nuP c) i s:=fun i hi=>wlk_it hok.sm_ok hs fun j hj=>(h3 j (by omega)).1
  refine ⟨hw,fun i hi => ?_,?_⟩
  · rw [hw i (by omega),hw (i+1) (by omega)]
    refine ⟨fun e=>(h3 i hi).1 ((lay_free (hnu.it hs i)).1 e),(h3 i hi).2⟩
  · rw [hw _ (Nat.le_refl _)]
    by_cases hf:alf (lsN c) (itN (nuP c) (rnN (nsN c.P) (nxN c.P) (lsN c) s) s)=itN (nuP c) (rnN (nsN c.P) (nxN c.P) (lsN c) s) s
    · exact Or.inl ((lay_free (hnu.it hs _)).2 hf)
    · right
      have h2:itN (nuP c) (rnN (nsN c.P) (nxN c.P) (lsN c) s+1) s=s:=by
        rcases h2 with h2 | h2
        · exact absurd h2 hf
        · exact h2
      have e:=wlk_it hok.sm_ok hs (k:=rnN (nsN c.P) (nxN c.P) (lsN c) s+1) fun j hj=>by
        by_cases e:j=rnN (nsN c.P) (nxN c.P) (lsN c) s
        · subst e;exact hf
        · exact (h3 j (by omega)).1
      rw [e];exact h2
def wkL (c:Cp)(s i:Nat):List Int:=(List.range i).map fun j=>((itN (nuP c) j s:Nat):Int)
def wkS (c:Cp)(s i:Nat):Int:=((List.range i).map fun j=>anN c.P (itN (nuP c) j s)).sum
theorem wkL_snoc {i:Nat}:wkL c s (i+1)=wkL c s i++[((itN (nuP c) i s:Nat):Int)]:=by simp [wkL,List.range_succ]
theorem wkL_len {i:Nat}:(wkL c s i).length=i:=by simp [wkL]
theorem wkS_snoc {i:Nat}:wkS c s (i+1)=wkS c s i+anN c.P (itN (nuP c) i s):=sum_range_succ
theorem an_bd (hok:CapOk c){k:Nat}(hk:k<nsN c.P):1≤anN c.P k∧anN c.P k≤359:=by
  obtain ⟨q,j,h1,h2,rfl⟩:=off_loc hk
  rw [an_at h1 h2]
  exact ((piece_ok (hok.pc q h1)).2.2.1 j h2).2
theorem wkS_bd (hok:CapOk c)(hs:s<nsN c.P):∀i,0≤wkS c s i∧wkS c s i≤359*i
  | 0=>by simp [wkS]
  | i+1=>by
    have h1:=wkS_bd hok hs i
    have h2:=an_bd hok (hok.nu.it hs i)
    rw [wkS_snoc];omega
theorem wkS_ring (hok:CapOk c)(hs:s<nsN c.P)(hcl:StaN (nsN c.P) (nxN c.P) (lsN c) s∨InnN (nsN c.P) (nxN c.P) (lsN c) s):wkS c s (rnN (nsN c.P) (nxN c.P) (lsN c) s+1)=((memE (PtR c) (nsN c.P) s).map (anN c.P)).sum:=by
  have:=perm_sum ((ring_perm (L:=lsN c) hok.nu hs hcl).map (anN c.P))
  rw [←PtR,ringN,List.map_map] at this
  exact this
def natL (l:List Nat):List Int:=l.map fun k:Nat=>(k:Int)
theorem natL_len {l:List Nat}:(natL l).length=l.length:=by simp [natL]
theorem sort_ring (hok:CapOk c)(hs:s<nsN c.P)(hcl:StaN (nsN c.P) (nxN c.P) (lsN c) s∨InnN (nsN c.P) (nxN c.P) (lsN c) s){l:List Int}(hp:l.Perm (wkL c s (rnN (nsN c.P) (nxN c.P) (lsN c) s+1)))(ha:l.Pairwise fun a b=>a≤b):l=natL (memE (PtR c) (nsN c.P) s):=by
  have h1:(wkL c s (rnN (nsN c.P) (nxN c.P) (lsN c) s+1)).Perm (natL (memE (PtR c) (nsN c.P) s)):=by
    have:=(ring_perm (L:=lsN c) hok.nu hs hcl).map fun k:Nat=>(k:Int)
    rw [←PtR,ringN,List.map_map] at this
    exact this
  have h2:=hp.trans h1
  have ha2:(natL (memE (PtR c) (nsN c.P) s)).Pairwise fun a b=>a<b:=by
    rw [natL,List.pairwise_map]
    exact memE_asc.imp fun h=>by omega
  have hnd:l.Nodup:=by
    rw [h2.nodup_iff]
    exact ha2.imp fun h e=>by omega
  refine asc_uniq (key:=fun x=>x) h2 ?_ ha2
  have:l.Pairwise fun a b=>a≤b∧a≠b:=by
    rw [List.pairwise_and_iff];exact ⟨ha,hnd⟩
  exact this.imp fun h=>by omega
end
def OthM (m:Nat)(H H':Hp):Prop:=H.length≤H'.length∧∀b,b<H.length→b≠m→H'[b]? = H[b]?
structure PtsS (n0:Nat)(H0:Hp)(lv:V)(M:List (Int×Bool))(u:V)(pts:List Pnt)(cl:List (List Int))(H:Hp):Prop where
  hx:HX H0 H
  hn:H0.length=n0
  b0:H[n0]? = some (.row [lv] true)
  b1:H[n0+1]? = some (.map (mE kI .bool M))
  b2:H[n0+2]? = some (.row [.mp (n0+1)] true)
  b3:H[n0+3]? = some (.row [u] true)
  ou:OwnT (n0+4) pntC H u pts
  len:cl.length=pts.length
  oc:∀i,i<pts.length→OwnV (n0+4) H (pts.getD i default).v (cl.getD i [])
  ap:∀i,i<pts.length→∀b o z y o' z' y',u=.sl b o z y→(pts.getD i default).v=.sl b o' z' y'→False
section
variable {n0 lim:Nat}{H H0 Hc H':Hp}{K:V→Hp→Prop}{lv u v:V}{M:List (Int×Bool)}{pts:List Pnt}{cl:List (List Int)}{c:Cp}{s:Nat}
theorem PtsS.big (h:PtsS n0 H0 lv M u pts cl Hc):n0+4≤Hc.length:=(List.getElem?_eq_some_iff.1 h.b3).1
theorem PtsS.move {M':List (Int×Bool)}(h:PtsS n0 H0 lv M u pts cl Hc)(ho:OthM (n0+1) Hc H')(hm:H'[n0+1]? = some (.map (mE kI .bool M'))):PtsS n0 H0 lv M' u pts cl H' where
  hx:=HX.of (by have:=h.hx.len;have:=ho.1;omega) fun b hb=>by
    have:=h.hx.len
    have:=h.hn
    rw [ho.2 b (by omega) (by omega),h.hx.same hb]
  hn:=h.hn
  b0:=by have:=h.big;rw [ho.2 _ (by omega) (by omega)];exact h.b0
  b1:=hm
  b2:=by have:=h.big;rw [ho.2 _ (by omega) (by omega)];exact h.b2
  b3:=by have:=h.big;rw [ho.2 _ (by omega) (by omega)];exact h.b3
  ou:=h.ou.keepB fun b o m z e=>by have:=h.ou.belowB _ _ _ _ e;exact ho.2 b (by omega) (by omega)
  len:=h.len
  oc:=fun i hi=>(h.oc i hi).keepB fun b o m z e=>by have:=(h.oc i hi).belowB _ _ _ _ e;exact ho.2 b (by omega) (by omega)
  ap:=h.ap
theorem sorted_le {l:List Int}(h:SortR cfI 0 l.length l):l.Pairwise fun a b=>a≤b:=by
  rw [List.pairwise_iff_getElem]
  intro i j hi hj hij
  have:=h i j (Nat.zero_le _) hij hj
  simp only [leC,cfI,List.getD_eq_getElem?_getD,List.getElem?_eq_getElem hi,List.getElem?_eq_getElem hj,Option.getD_some] at this
  omega
theorem surf_around {a:V}(hs:stor a=true)(h1:cellsV a=[a]){n:Int}(hK:K (.func (.func 96) [] [.ptr (H.length+1) 0,.ptr H.length 0]) (H++[.row [a] true,.row [.int .i64 n] true])):VCall tbl lim 86 [a,.int .i64 n] H K:=by
  refine VCall_fn tbl_at86 rfl ?_
  simp [vf86,hs,h1]
  exact hK
theorem st_cell {b o:Nat}{cs:List V}{x:V}(hb:H[b]? = some (.row cs true))(hl:lim≤b)(hs:stor x=true)(h1:cellsV x=[x])(ho:o<cs.length){L:Lo}:vstore lim L H (.ptr b o) x 1=some (L,H.set b (.row (splice cs o [x]) true)):=by
  have:o+1≤cs.length:=ho
  simp [vstore,vstoreH,hb,hl,hs,h1,this]
structure RndI (Hc:Hp)(n0 bp:Nat)(lv:V)(M:List (Int×Bool))(inner:Bool)(frv:List V)(c:Cp)(s i:Nat)(H':Hp):Prop where
  oth:OthM (n0+1) Hc H'
  ex:∃cv M',H'[n0+1]? = some (.map (mE kI .bool M'))∧H'[bp]? = some (.row [cv,.bool inner,.int .i64 (wkS c s i),.int .i64 0] true)∧OwnV (bp+4) H' cv (wkL c s i)∧∀k,(look k M').getD false=true↔(look k M).getD false=true∨k∈wkL c s i
  r1:H'[bp+1]? = some (.row [lv] true)
  r2:H'[bp+2]? = some (.row [.int .i64 (s:Int)] true)
  r3:H'[bp+3]? = some (.loop 4000085 [14] frv)
theorem OthM.trans {m:Nat}{A B C:Hp}(h:OthM m A B)(g:OthM m B C):OthM m A C:=⟨Nat.le_trans h.1 g.1,fun b hb hne=>by rw [g.2 b (by have:=h.1;omega) hne,h.2 b hb hne]⟩
theorem collect_round {i:Nat}{inner:Bool}{frv:List V}(hok:CapOk c)(hs:s<nsN c.P)(hi:i≤rnN (nsN c.P) (nxN c.P) (lsN c) s)(hlim:lim≤n0)(hS:PtsS n0 H0 lv M u pts cl Hc)(hlv:LstV sdC H0 lv (layL c.P (lsN c)))
    (f2:∀v,frR (setPs frv [14] [v]) 2=.ptr n0 0) (f3:∀v,frR (setPs frv [14] [v]) 3=.ptr (n0+2) 0) (f7:∀v,frR (setPs frv [14] [v]) 7=.ptr Hc.length 0) (f14:∀v,frR (setPs frv [14] [v]) 14=v) (flen:48=frv.length)
    (hI:RndI Hc n0 Hc.length lv M inner frv c s i H'):VCall tbl lim 3999999 [.yl (Hc.length+3),.int .i64 (itN (nuP c) i s:Nat)] H' fun v H''=>v=.bool true∧RndI Hc n0 Hc.length lv M inner frv c s (i+1) H'':=by
  obtain ⟨⟨o1,o2⟩,⟨cv,M',m1,m2,m3,m4⟩,r1,r2,r3⟩:=hI
  have hbig:=hS.big
  have hlt3:=(List.getElem?_eq_some_iff.1 r3).1
  refine VCall_yield (f:=4000085) (ps:=[14]) (fr:=frv) r3 (by omega) rfl tbl_at4000085 flen rfl ?_
  generalize hq:itN (nuP c) i s=q
  have hqN:q<nsN c.P:=by rw [←hq];exact hok.nu.it hs i
  have hns:=hok.ns
  simp [f14]
  have e2:(H'.set (Hc.length+3) .dead)[n0+2]? = some (.row [.mp (n0+1)] true):=by
    rw [List.getElem?_set_ne (by omega),o2 _ (by omega) (by omega)];exact hS.b2
  have e0:(H'.set (Hc.length+3) .dead)[n0]? = some (.row [lv] true):=by
    rw [List.getElem?_set_ne (by omega),o2 _ (by omega) (by omega)];exact hS.b0
  have e1:(H'.set (Hc.length+3) .dead)[n0+1]? = some (.map (mE kI .bool M')):=by
    rw [List.getElem?_set_ne (by omega)];exact m1
  have ep:(H'.set (Hc.length+3) .dead)[Hc.length]? = some (.row [cv,.bool inner,.int .i64 (wkS c s i),.int .i64 0] true):=by
    rw [List.getElem?_set_ne (by omega)];exact m2
  have ev:OwnV (Hc.length+4) (H'.set (Hc.length+3) .dead) cv (wkL c s i):=m3.keepB fun b o m z e=>by
    have:=m3.belowB _ _ _ _ e
    rw [List.getElem?_set_ne (by omega)]
  have edd:(H'.set (Hc.length+3) .dead)[Hc.length+3]? = some .dead:=List.getElem?_set_self hlt3
  have er1:(H'.set (Hc.length+3) .dead)[Hc.length+1]? = some (.row [lv] true):=by rw [List.getElem?_set_ne (by omega)];exact r1
  have er2:(H'.set (Hc.length+3) .dead)[Hc.length+2]? = some (.row [.int .i64 (s:Int)] true):=by rw [List.getElem?_set_ne (by omega)];exact r2
  have eo:∀b,b<Hc.length→b≠n0+1→(H'.set (Hc.length+3) .dead)[b]? = Hc[b]? := fun b hb hne=>by rw [List.getElem?_set_ne (by omega)];exact o2 b hb hne
  have elen:(H'.set (Hc.length+3) .dead).length=H'.length:=by simp
  generalize H'.set (Hc.length+3) .dead=Hd at *
  have hput:vmput lim false [.int .i64] Hd (.mp (n0+1)) (.int .i64 (q:Int)) (.bool true)=some (Hd.set (n0+1) (.map (mE kI .bool (putA (q:Int) true M')))):=vmputE (K:=kI) (vc:=V.bool) (u:=true) e1 (by omega) rfl
  have g2:(Hd.set (n0+1) (.map (mE kI .bool (putA (q:Int) true M'))))[n0+2]? = some (.row [.mp (n0+1)] true):=by rw [List.getElem?_set_ne (by omega)];exact e2
  have g0:(Hd.set (n0+1) (.map (mE kI .bool (putA (q:Int) true M'))))[n0]? = some (.row [lv] true):=by rw [List.getElem?_set_ne (by omega)];exact e0
  have g1:(Hd.set (n0+1) (.map (mE kI .bool (putA (q:Int) true M'))))[n0+1]? = some (.map (mE kI .bool (putA (q:Int) true M'))):=List.getElem?_set_self (List.getElem?_eq_some_iff.1 e1).1
  have gp:(Hd.set (n0+1) (.map (mE kI .bool (putA (q:Int) true M'))))[Hc.length]? = some (.row [cv,.bool inner,.int .i64 (wkS c s i),.int .i64 0] true):=by rw [List.getElem?_set_ne (by omega)];exact ep
  have gd:(Hd.set (n0+1) (.map (mE kI .bool (putA (q:Int) true M'))))[Hc.length+3]? = some .dead:=by rw [List.getElem?_set_ne (by omega)];exact edd
  have gr1:(Hd.set (n0+1) (.map (mE kI .bool (putA (q:Int) true M'))))[Hc.length+1]? = some (.row [lv] true):=by rw [List.getElem?_set_ne (by omega)];exact er1
  have gr2:(Hd.set (n0+1) (.map (mE kI .bool (putA (q:Int) true M'))))[Hc.length+2]? = some (.row [.int .i64 (s:Int)] true):=by rw [List.getElem?_set_ne (by omega)];exact er2
  have gv:OwnV (Hc.length+4) (Hd.set (n0+1) (.map (mE kI .bool (putA (q:Int) true M')))) cv (wkL c s i):=ev.keepB fun b o m z e=>by
    have:=ev.belowB _ _ _ _ e
    rw [List.getElem?_set_ne (by omega)]
  have go:∀b,b<Hc.length→b≠n0+1→(Hd.set (n0+1) (.map (mE kI .bool (putA (q:Int) true M'))))[b]? = Hc[b]? := fun b hb hne=>by rw [List.getElem?_set_ne (by omega)];exact eo b hb hne
  have glen:(Hd.set (n0+1) (.map (mE kI .bool (putA (q:Int) true M')))).length=H'.length:=by simp [elen]
  generalize Hd.set (n0+1) (.map (mE kI .bool (putA (q:Int) true M')))=Hm at *
  obtain ⟨cv2,H2,p1,p2,p3,p4,p5,p6⟩:=gv.appendF (lim:=lim) (x:=(q:Int)) ⟨by omega,by omega⟩ (by
    have:=(rn_spec (L:=lsN c) hok.nu hs).1
    rw [wkL_len];omega)
  have below:∀b,b<Hc.length+4→∀o z y,cv≠.sl b o z y:=fun b hb o z y e=>by have:=gv.belowB _ _ _ _ e;omega
  have k0:=(p5 n0 (by omega) (below _ (by omega))).trans g0
  have k1:=(p5 (n0+1) (by omega) (below _ (by omega))).trans g1
  have kp:=(p5 Hc.length (by omega) (below _ (by omega))).trans gp
  have kd:=(p5 (Hc.length+3) (by omega) (below _ (by omega))).trans gd
  have kr1:=(p5 (Hc.length+1) (by omega) (below _ (by omega))).trans gr1
  have kr2:=(p5 (Hc.length+2) (by omega) (below _ (by omega))).trans gr2
  have ko:∀b,b<Hc.length→b≠n0+1→H2[b]? = Hc[b]? := fun b hb hne=>(p5 b (by omega) (below _ (by omega))).trans (go b hb hne)
  have st1:=fun L=>st_cell (L:=L) (x:=cv2) kp (lim:=lim) (o:=0) (by omega) p2.sl.stor p2.sl.one (by simp)
  have sp1:splice [cv,.bool inner,.int .i64 (wkS c s i),.int .i64 0] 0 [cv2]=[cv2,.bool inner,.int .i64 (wkS c s i),.int .i64 0]:=by simp [splice]
  rw [sp1] at st1
  have lp1:=(List.getElem?_eq_some_iff.1 kp).1
  have q0:(H2.set Hc.length (.row [cv2,.bool inner,.int .i64 (wkS c s i),.int .i64 0] true))[n0]? = some (.row [lv] true):=by rw [List.getElem?_set_ne (by omega)];exact k0
  have q1:(H2.set Hc.length (.row [cv2,.bool inner,.int .i64 (wkS c s i),.int .i64 0] true))[n0+1]? = some (.map (mE kI .bool (putA (q:Int) true M'))):=by rw [List.getElem?_set_ne (by omega)];exact k1
  have qp:(H2.set Hc.length (.row [cv2,.bool inner,.int .i64 (wkS c s i),.int .i64 0] true))[Hc.length]? = some (.row [cv2,.bool inner,.int .i64 (wkS c s i),.int .i64 0] true):=List.getElem?_set_self lp1
  have qd:(H2.set Hc.length (.row [cv2,.bool inner,.int .i64 (wkS c s i),.int .i64 0] true))[Hc.length+3]? = some .dead:=by rw [List.getElem?_set_ne (by omega)];exact kd
  have qr1:(H2.set Hc.length (.row [cv2,.bool inner,.int .i64 (wkS c s i),.int .i64 0] true))[Hc.length+1]? = some (.row [lv] true):=by rw [List.getElem?_set_ne (by omega)];exact kr1
  have qr2:(H2.set Hc.length (.row [cv2,.bool inner,.int .i64 (wkS c s i),.int .i64 0] true))[Hc.length+2]? = some (.row [.int .i64 (s:Int)] true):=by rw [List.getElem?_set_ne (by omega)];exact kr2
  have qv:OwnV (Hc.length+4) (H2.set Hc.length (.row [cv2,.bool inner,.int .i64 (wkS c s i),.int .i64 0] true)) cv2 (wkL c s i++[(q:Int)]):=p2.keepB fun b o m z e=>by
    have:=p2.belowB _ _ _ _ e
    rw [List.getElem?_set_ne (by omega)]
  have qo:∀b,b<Hc.length→b≠n0+1→(H2.set Hc.length (.row [cv2,.bool inner,.int .i64 (wkS c s i),.int .i64 0] true))[b]? = Hc[b]? := fun b hb hne=>by rw [List.getElem?_set_ne (by omega)];exact ko b hb hne
  have qlen:(H2.set Hc.length (.row [cv2,.bool inner,.int .i64 (wkS c s i),.int .i64 0] true)).length=H2.length:=by simp
  generalize H2.set Hc.length (.row [cv2,.bool inner,.int .i64 (wkS c s i),.int .i64 0] true)=H3 at *
  have hxl:LstV sdC H3 lv (layL c.P (lsN c)):=hlv.mono (HX.of (by have:=hS.hx.len;omega) fun b hb=>by
    have:=hS.hx.len
    have:=hS.hn
    rw [qo b (by omega) (by omega),hS.hx.same hb])
  have ad:=hxl.at (i:=q) (by rw [layL_len];exact hqN)
  have fa:vfaddr 1 (ept 5 lv q)=some (eptf 5 lv q 1):=hxl.faddr (by rw [layL_len];exact hqN)
  have ld:∀L,vload none L H3 (eptf 5 lv q 1)=some (.int .i64 (anN c.P q)):=fun L=>by
    rw [hxl.rd1 (by rw [layL_len];exact hqN) (by omega),layL_get hqN];rfl
  have hb:=wkS_bd hok hs i
  have hil:=(rn_spec (L:=lsN c) hok.nu hs).1
  have ha:=an_bd hok hqN
  have ws:IntKind.wrap .i64 (wkS c s i+anN c.P q)=wkS c s (i+1):=by rw [wkS_snoc,hq];exact wrap_i64 (by omega) (by omega)
  have st2:=fun L=>st_cell (L:=L) (x:=.int .i64 (wkS c s (i+1))) qp (lim:=lim) (o:=2) (by omega) rfl rfl (by simp)
  have sp2:splice [cv2,.bool inner,.int .i64 (wkS c s i),.int .i64 0] 2 [.int .i64 (wkS c s (i+1))]=[cv2,.bool inner,.int .i64 (wkS c s (i+1)),.int .i64 0]:=by simp [splice]
  rw [sp2] at st2
  simp [f2,f3,f7,rd0,rd1',rd2',e2,hput,gp,p1,st1,qp,q0,ad,fa,ld,ws,st2,-vstore,lpId_eptf]
  refine ⟨⟨_,_,_,r3⟩,qd,⟨⟨by simp;omega,fun b hb hne => ?_⟩,⟨cv2,putA (q:Int) true M',?_,?_,?_,fun k => ?_⟩,?_,?_,?_⟩⟩
  · rw [List.getElem?_set_ne (by omega),List.getElem?_set_ne (by omega)];exact qo b hb hne
  · rw [List.getElem?_set_ne (by omega),List.getElem?_set_ne (by omega)];exact q1
  · rw [List.getElem?_set_ne (by omega),List.getElem?_set_self (by omega)]
  · rw [wkL_snoc,hq]
    exact qv.keepB fun b o m z e=>by
      have:=qv.belowB _ _ _ _ e
      rw [List.getElem?_set_ne (by omega),List.getElem?_set_ne (by omega)]
  · rw [look_put,wkL_snoc,hq,List.mem_append,List.mem_singleton]
    by_cases e:k=(q:Int)
    · simp [e]
    · rw [if_neg e,m4 k];simp [e]
  · rw [List.getElem?_set_ne (by omega),List.getElem?_set_ne (by omega)];exact qr1
  · rw [List.getElem?_set_ne (by omega),List.getElem?_set_ne (by omega)];exact qr2
  · rw [List.getElem?_set_self (by simp;omega)]
end
end Go.Proofs.Ytclghkegfpcdpaa.Vm
