/- Caps over the machine: a piece is cut in two, the seams move; CapSplits. -/
import Derived.Test.YtclghkegfpcdpaaQCapSplitKeepsC
import Derived.Test.YtclghkegfpcdpaaQCapSplitKeepsA
namespace Go.Proofs.Ytclghkegfpcdpaa.Vm
open Go
set_option maxRecDepth 100000
set_option maxHeartbeats 1000000
set_option linter.unusedSimpArgs false
set_option linter.unusedVariables false
attribute [-simp] List.getD_eq_getElem?_getD
section
variable {n lim:Nat}{H H' H1:Hp}{K:V→Hp→Prop}{v pv sv a b u w:V}{ps:List (V×V)}{P:List Pc}{S:List Sm}{e:Int}{ws:List V}{c d:Cp}{l m:List Int}
theorem fr0_75 {a b c d e f g:V}:fr0 [a,b,c,d,e,f,g] 5=f:=Eq.trans rfl rfl
theorem fr0_76 {a b c d e f g:V}:fr0 [a,b,c,d,e,f,g] 6=g:=Eq.trans rfl rfl
theorem mv_rem {k i:Nat}{b:Int}(hi:i<k)(hb:0≤b∧b<k):(b-(i:Int)+(k:Int)).tmod (k:Int)=(stp k i b.toNat:Nat):=by
  have e:b-(i:Int)+(k:Int)=((b.toNat+k-i:Nat):Int):=by omega
  rw [e];exact tmod_nat _ _
theorem surf_mv {A P k i n b2 b3 b4 b5 b6:Nat}{x y:Int}{o2 o3 o4 o5 o6:Bool}(hi:i<k)(hk:k≤1000∧n≤1000)(hxy:x=A→0≤y∧y<k)(h2:H[b2]? = some (.row [.int .i64 (A:Nat)] o2))(h3:H[b3]? = some (.row [.int .i64 (i:Nat)] o3))(h4:H[b4]? = some (.row [.int .i64 (k:Nat)] o4))(h5:H[b5]? = some (.row [.int .i64 (n:Nat)] o5))(h6:H[b6]? = some (.row [.int .i64 (P:Nat)] o6))
    (hK:K (.tup [.int .i64 (mvP A P k i n x y),.int .i64 (mvI A k i n x y)]) H):VCall tbl lim 95 [.int .i64 x,.int .i64 y,.ptr b2 0,.ptr b3 0,.ptr b4 0,.ptr b5 0,.ptr b6 0] H K:=by
  refine VCall_fn tbl_at95 rfl ?_
  have r1:∀x:V,rd none [x] 0=some x:=fun _=>rfl
  by_cases hx:x=A
  case neg =>
    have hd:=decide_eq_false hx
    rw [mvP,mvI,if_neg hx,if_neg hx] at hK
    simp [vf95,h2,r1,hd]
    exact hK
  have hd:=decide_eq_true hx
  obtain ⟨hy1,hy2⟩:=hxy hx
  have hkne:(k:Int)≠0:=by omega
  have hrem:vbin .rem (.int .i64 (y-(i:Int)+(k:Int))) (.int .i64 (k:Int))=some (.int .i64 (stp k i y.toNat:Nat)):=by
    rw [vbin_rem hkne,mv_rem hi ⟨hy1,hy2⟩]
  rw [mvP,mvI,if_pos hx,if_pos hx] at hK
  by_cases hn:stp k i y.toNat<n
  · have hd2:decide ((stp k i y.toNat:Int)<(n:Int))=true:=decide_eq_true (by omega)
    rw [if_pos hn,if_pos hn] at hK
    simp (disch:=omega) [vf95,h2,h3,h4,h5,h6,r1,hd,wrap_i64,hrem,hn,fr0_75,fr0_76]
    exact hK
  · have hd2:decide ((stp k i y.toNat:Int)<(n:Int))=false:=decide_eq_false (by omega)
    have hlt:stp k i y.toNat<k:=stp_lt hi (by omega)
    rw [if_neg hn,if_neg hn] at hK
    have e:((stp k i y.toNat-n:Nat):Int)=(stp k i y.toNat:Int)-(n:Int):=by omega
    rw [e] at hK
    simp (disch:=omega) [vf95,h2,h3,h4,h5,h6,r1,hd,wrap_i64,hrem,hn,fr0_75,fr0_76]
    exact hK
theorem sm_st {i j:Nat}{x:Int}{y:Sm}(h:OwnT n smC H v S)(hlim:lim≤n)(hi:i<S.length)(hj:j<4)(hy:smC.cells y=splice (smC.cells (S.getD i default)) j [.int .i64 x]) :
    ∃H',(∀L,vstore lim L H (eptf 4 v i j) (.int .i64 x) 1=some (L,H'))∧OwnT n smC H' v (S.set i y)∧(∀b,(∀o z y,v≠.sl b o z y)→H'[b]? = H[b]?)∧H'.length=H.length:=by
  refine ⟨setH H v (smC.all (S.set i y)),fun L=>h.store hlim hi rfl rfl (by omega) hy,h.put (by simp),fun b hb => ?_,h.setLen⟩
  cases h with
  | nil=>rfl
  | row h1 h3=>simp only [setH];rw [List.getElem?_set_ne (fun e=>hb _ _ _ (by rw [e]))]
theorem set_setS {i:Nat}{x y:Sm}:(S.set i x).set i y=S.set i y:=by rw [List.set_set]
theorem getD_setS {i:Nat}{x:Sm}(h:i<S.length):(S.set i x).getD i default=x:=by
  simp [List.getD_eq_getElem?_getD,h]
def mvT (f:Sm→Sm)(S:List Sm)(t:Nat):List Sm:=(S.take t).map f++S.drop t
theorem mvT_len {f:Sm→Sm}{t:Nat}:(mvT f S t).length=S.length:=by simp [mvT];omega
theorem mvT_get {f:Sm→Sm}{t:Nat}(h:t<S.length):(mvT f S t).getD t default=S.getD t default:=by
  unfold mvT
  rw [getD_ge (j:=0) (by simp;omega)]
  simp [List.getD_eq_getElem?_getD]
theorem mvT_set {f:Sm→Sm}{t:Nat}(h:t<S.length):(mvT f S t).set t (f (S.getD t default))=mvT f S (t+1):=by
  unfold mvT
  have e:((S.take t).map f).length=t:=by simp;omega
  rw [List.set_append_right _ _ (by omega),e,Nat.sub_self,List.drop_eq_getElem_cons h,List.set_cons_zero,take_next h,List.map_append]
  simp
theorem fr0_65 {a b c d e f:V}:fr0 [a,b,c,d,e,f] 5=f:=Eq.trans rfl rfl
theorem surf_moveSeams {A N i m k:Nat}(ho:OwnT n smC H v S)(hlim:lim≤n∧n≤H.length)(hi:i<k)(hk:k≤1000∧m≤1000)(hs:∀t,t<S.length→((S.getD t default).A=A→0≤(S.getD t default).I∧(S.getD t default).I<k)∧((S.getD t default).B=A→0≤(S.getD t default).J∧(S.getD t default).J<k))(hl:S.length≤1000)
    (hK:∀H',OwnT n smC H' v (S.map (mvS A N k i m))→(∀b,b<H.length→(∀o z y,v≠.sl b o z y)→H'[b]? = H[b]?)→H.length≤H'.length→K (.tup []) H') :
    VCall tbl lim 77 [v,.int .i64 (A:Nat),.int .i64 (N:Nat),.int .i64 (i:Nat),.int .i64 (m:Nat),.int .i64 (k:Nat)] H K:=by
  refine VCall_fn tbl_at77 rfl ?_
  have hsv:=ho.lst.stor
  simp [vf77,ho.lst.len,fr0_65]
  obtain ⟨Hc,hHc⟩:∃Hc,Hc=H++[Blk.row [V.int IntKind.i64 (A:Nat)] true,Blk.row [V.int IntKind.i64 (N:Nat)] true,Blk.row [V.int IntKind.i64 (i:Nat)] true,Blk.row [V.int IntKind.i64 (m:Nat)] true,Blk.row [V.int IntKind.i64 (k:Nat)] true]:=⟨_,rfl⟩
  have hcl:Hc.length=H.length+5:=by rw [hHc];simp
  have c0:Hc[H.length]? = some (.row [.int .i64 (A:Nat)] true):=by rw [hHc,List.getElem?_append_right (by omega)];simp
  have c1:Hc[H.length+1]? = some (.row [.int .i64 (N:Nat)] true):=by rw [hHc,List.getElem?_append_right (by omega)];simp
  have c2:Hc[H.length+2]? = some (.row [.int .i64 (i:Nat)] true):=by rw [hHc,List.getElem?_append_right (by omega)];simp
  have c3:Hc[H.length+3]? = some (.row [.int .i64 (m:Nat)] true):=by rw [hHc,List.getElem?_append_right (by omega)];simp
  have c4:Hc[H.length+4]? = some (.row [.int .i64 (k:Nat)] true):=by rw [hHc,List.getElem?_append_right (by omega)];simp
  have cold:∀b,b<H.length→Hc[b]? = H[b]? := fun b hb=>by rw [hHc,List.getElem?_append_left hb]
  have hob:=ho.belowB
  have ho:OwnT n smC Hc v S:=ho.keepB fun b o z y e=>cold b (hob _ _ _ _ e).2
  rw [←hHc]
  refine wLoop_up S.length (fun t fr L H'=>(fr 0=v∧fr 12=.func (.func 95) [] [.ptr H.length 0,.ptr (H.length+2) 0,.ptr (H.length+4) 0,.ptr (H.length+3) 0,.ptr (H.length+1) 0]∧fr 16=.int .i64 S.length∧fr 17=.int .i64 t)∧L=[]∧OwnT n smC H' v (mvT (mvS A N k i m) S t)∧(∀b,(∀o z y,v≠.sl b o z y)→H'[b]? = Hc[b]?)∧H'.length=Hc.length) ⟨by simp,by simp,by simpa [mvT] using ho,fun _ _=>rfl,rfl⟩ ?_
  rintro t ht fr L H1 ⟨⟨f0,f12,f16,f17⟩,rfl,hT,hk1,hl1⟩
  have hov:∀b,H.length≤b→b<H.length+5→∀o z y,v≠.sl b o z y:=fun b hb _ o z y e=>by have:=(hob _ _ _ _ e).2;omega
  simp [f0,f12,f16,f17]
  refine cond_dec (fun htt => ?_) fun hfl => ?_
  · have htt:t<S.length:=by omega
    have hTl:(mvT (mvS A N k i m) S t).length=S.length:=mvT_len
    have hg:=mvT_get (f:=mvS A N k i m) htt
    obtain ⟨s,hs0⟩:∃s,s=S.getD t default:=⟨_,rfl⟩
    obtain ⟨hsA,hsB⟩:=hs t htt
    rw [←hs0] at hsA hsB hg
    have at1:=hT.lst.at (i:=t) (by omega)
    have fa1:=fun j=>hT.lst.faddr (i:=t) (j:=j) (by omega)
    have ldA:∀L,vload none L H1 (eptf 4 v t 0)=some (.int .i64 s.A):=fun L=>by rw [hT.lst.rd1 (by omega) (by omega),hg];rfl
    have ldI:∀L,vload none L H1 (eptf 4 v t 1)=some (.int .i64 s.I):=fun L=>by rw [hT.lst.rd1 (by omega) (by omega),hg];rfl
    obtain ⟨H2,w1,w2,w3,w4⟩:=sm_st (lim:=lim) (i:=t) (j:=0) (x:=mvP A N k i m s.A s.I) (y:=⟨mvP A N k i m s.A s.I,s.I,s.B,s.J⟩) hT hlim.1 (by omega) (by omega) (by rw [hg];rfl)
    have hg2:((mvT (mvS A N k i m) S t).set t ⟨mvP A N k i m s.A s.I,s.I,s.B,s.J⟩).getD t default=⟨mvP A N k i m s.A s.I,s.I,s.B,s.J⟩:=getD_setS (by omega)
    obtain ⟨H3,y1,y2,y3,y4⟩:=sm_st (lim:=lim) (i:=t) (j:=1) (x:=mvI A k i m s.A s.I) (y:=⟨mvP A N k i m s.A s.I,mvI A k i m s.A s.I,s.B,s.J⟩) w2 hlim.1 (by rw [List.length_set];omega) (by omega) (by rw [hg2];rfl)
    rw [set_setS] at y2
    have lp:∀j,isLp (eptf 4 v t j)=false:=fun j=>by
      obtain ⟨b,e,_⟩:=hT.row_of (by omega)
      rw [e];rfl
    have pt:∀j,isPtr (eptf 4 v t j)=true:=fun j=>by
      obtain ⟨b,e,_⟩:=hT.row_of (by omega)
      rw [e];rfl
    have k0:H1[H.length]? = some (.row [.int .i64 (A:Nat)] true):=by rw [hk1 _ (hov _ (by omega) (by omega))];exact c0
    have k1:H1[H.length+1]? = some (.row [.int .i64 (N:Nat)] true):=by rw [hk1 _ (hov _ (by omega) (by omega))];exact c1
    have k2:H1[H.length+2]? = some (.row [.int .i64 (i:Nat)] true):=by rw [hk1 _ (hov _ (by omega) (by omega))];exact c2
    have k3:H1[H.length+3]? = some (.row [.int .i64 (m:Nat)] true):=by rw [hk1 _ (hov _ (by omega) (by omega))];exact c3
    have k4:H1[H.length+4]? = some (.row [.int .i64 (k:Nat)] true):=by rw [hk1 _ (hov _ (by omega) (by omega))];exact c4
    simp [f0,f12,f16,f17,at1,fa1,ldA,ldI,lp,pt]
    refine surf_mv hi hk hsA k0 k2 k4 k3 k1 ?_
    have hg3:((mvT (mvS A N k i m) S t).set t ⟨mvP A N k i m s.A s.I,mvI A k i m s.A s.I,s.B,s.J⟩).getD t default=⟨mvP A N k i m s.A s.I,mvI A k i m s.A s.I,s.B,s.J⟩:=getD_setS (by omega)
    have hl3:((mvT (mvS A N k i m) S t).set t ⟨mvP A N k i m s.A s.I,mvI A k i m s.A s.I,s.B,s.J⟩).length=S.length:=by rw [List.length_set];omega
    have ldB:∀L,vload none L H3 (eptf 4 v t 2)=some (.int .i64 s.B):=fun L=>by rw [y2.lst.rd1 (by omega) (by omega),hg3];rfl
    have ldJ:∀L,vload none L H3 (eptf 4 v t 3)=some (.int .i64 s.J):=fun L=>by rw [y2.lst.rd1 (by omega) (by omega),hg3];rfl
    obtain ⟨H4,z1,z2,z3,z4⟩:=sm_st (lim:=lim) (i:=t) (j:=2) (x:=mvP A N k i m s.B s.J) (y:=⟨mvP A N k i m s.A s.I,mvI A k i m s.A s.I,mvP A N k i m s.B s.J,s.J⟩) y2 hlim.1 (by omega) (by omega) (by rw [hg3];rfl)
    rw [set_setS] at z2
    have hg4:((mvT (mvS A N k i m) S t).set t ⟨mvP A N k i m s.A s.I,mvI A k i m s.A s.I,mvP A N k i m s.B s.J,s.J⟩).getD t default=⟨mvP A N k i m s.A s.I,mvI A k i m s.A s.I,mvP A N k i m s.B s.J,s.J⟩:=getD_setS (by omega)
    obtain ⟨H5,u1,u2,u3,u4⟩:=sm_st (lim:=lim) (i:=t) (j:=3) (x:=mvI A k i m s.B s.J) (y:=mvS A N k i m s) z2 hlim.1 (by rw [List.length_set];omega) (by omega) (by rw [hg4];rfl)
    rw [set_setS,hs0,mvT_set htt] at u2
    have kp3:∀b,(∀o z y,v≠.sl b o z y)→H3[b]? = Hc[b]? := fun b hb=>by rw [y3 b hb,w3 b hb,hk1 b hb]
    have q0:H3[H.length]? = some (.row [.int .i64 (A:Nat)] true):=by rw [kp3 _ (hov _ (by omega) (by omega))];exact c0
    have q1:H3[H.length+1]? = some (.row [.int .i64 (N:Nat)] true):=by rw [kp3 _ (hov _ (by omega) (by omega))];exact c1
    have q2:H3[H.length+2]? = some (.row [.int .i64 (i:Nat)] true):=by rw [kp3 _ (hov _ (by omega) (by omega))];exact c2
    have q3:H3[H.length+3]? = some (.row [.int .i64 (m:Nat)] true):=by rw [kp3 _ (hov _ (by omega) (by omega))];exact c3
    have q4:H3[H.length+4]? = some (.row [.int .i64 (k:Nat)] true):=by rw [kp3 _ (hov _ (by omega) (by omega))];exact c4
    simp [f0,f12,f16,f17,at1,fa1,lp,pt,w1,y1,ldB,ldJ,-vstore,lpId_ept]
    refine surf_mv hi hk hsB q0 q2 q4 q3 q1 ?_
    simp (disch:=omega) [f0,f12,f16,f17,at1,fa1,lp,pt,z1,u1,-vstore,lpId_ept,wrap_i64]
    exact ⟨htt,u2,fun b hb=>by rw [u3 b hb,z3 b hb,kp3 b hb],by omega⟩
  · have:t=S.length:=by omega
    subst this
    have e:mvT (mvS A N k i m) S S.length=S.map (mvS A N k i m):=by simp [mvT]
    rw [e] at hT
    simp
    exact hK H1 hT (fun b hb hv=>by rw [hk1 b hv,cold b hb]) (by omega)
structure YC (n:Nat)(H:Hp)(pv sv:V)(ps:List (V×V))(P:List Pc)(S:List Sm):Prop where
  p:OPcsV n H pv ps P
  s:OwnT n smC H sv S
  a1:nal pv sv
  a2:∀i,i<P.length→nal sv (ps.getD i default).1∧nal sv (ps.getD i default).2
theorem XC.yc (h:XC n H pv sv ps P S):YC n H pv sv ps P S:=⟨h.p,h.s,h.a1,h.a2⟩
theorem YC.le {n':Nat}(hn:n'≤n)(h:YC n H pv sv ps P S):YC n' H pv sv ps P S:=⟨h.p.le hn,h.s.le hn,h.a1,h.a2⟩
theorem YC.cap (h:YC n H pv sv ps P S):CapV H [pv,sv,.int .i64 e] ⟨P,S,e⟩:=.mk h.p.pcsV h.s.lst
theorem getD_setV {ps:List (V×V)}{i t:Nat}{x:V×V}(h:i<ps.length):(ps.set i x).getD t default=if t=i then x else ps.getD t default:=by
  simp only [List.getD_eq_getElem?_getD,List.getElem?_set]
  by_cases e:i=t
  · subst e;simp [h]
  · rw [if_neg e,if_neg (fun h=>e h.symm)]
theorem YC.setP {q:Nat}{p:Pc}(h:YC n H pv sv ps P S)(hq:q<P.length)(ha:OwnV n H a p.s)(hb:OwnV n H b p.a)(na:nal pv a∧nal sv a)(nb:nal pv b∧nal sv b)(hlim:lim≤n) :
    ∃H',(∀L,vstore lim L H (ept 2 pv q) (.agg [a,b]) 2=some (L,H'))∧YC n H' pv sv (ps.set q (a,b)) (P.set q p) S∧(∀H0,HX H0 H→H0.length≤n→HX H0 H')∧(∀b,(∀o z y,pv≠.sl b o z y)→H'[b]? = H[b]?)∧H'.length=H.length:=by
  obtain ⟨h1,h2,h3,h4⟩:=h
  have hql:q<ps.length:=by rw [h1.len];exact hq
  have he:eptf 2 pv q 0=ept 2 pv q:=by
    obtain ⟨b',e,_⟩:=h1.own.row_of (by omega)
    rw [e];rfl
  have sa:stor a=true:=ha.sl.stor
  have sb:stor b=true:=hb.sl.stor
  have ca:cellsV a=[a]:=ha.sl.one
  have cb:cellsV b=[b]:=hb.sl.one
  have st:stor (.agg [a,b])=true:=by simp [stor,sa,sb,ca,cb]
  have kp:∀b',(∀o z y,pv≠.sl b' o z y)→(setH H pv (pvC.all (ps.set q (a,b))))[b']? = H[b']? := fun b' hb'=>by
    cases hv:pv with
    | sl b2 o z y =>
      simp only [setH]
      rw [List.getElem?_set_ne (fun e=>hb' o z y (by rw [hv,e]))]
    | _=>rfl
  have kv:∀{u:V},nal pv u→∀b' o m z,u=.sl b' o m z→(setH H pv (pvC.all (ps.set q (a,b))))[b']? = H[b']? := fun hu b' o m z e=>kp b' fun o' z' y' e'=>hu _ _ _ _ _ _ _ e' e
  refine ⟨setH H pv (pvC.all (ps.set q (a,b))),fun L => ?_,⟨⟨h1.own.put (by simp),by simp [h1.len],fun i hi => ?_,fun i hi => ?_⟩,h2.keepB (kv h3),h3,fun i hi => ?_⟩,fun H0 hx hl=>HX.of (by rw [h1.own.setLen];exact hx.len) fun b' hb'=>by rw [kp b' fun o z y e=>by have:=(h1.own.belowB _ _ _ _ e).1;omega,hx.same hb'],kp,h1.own.setLen⟩
  · rw [←he]
    exact h1.own.store hlim hql st rfl (by omega) rfl
  · rw [List.length_set] at hi
    rw [getD_setV hql,getD_setP hq]
    split
    · exact ⟨ha.keepB (kv na.1),hb.keepB (kv nb.1)⟩
    · have t:=h1.at' i hi
      exact ⟨t.1.keepB (kv fun b o z w o' z' w' e e'=>h1.ap i hi _ _ _ _ _ _ _ e (Or.inl e')),t.2.keepB (kv fun b o z w o' z' w' e e'=>h1.ap i hi _ _ _ _ _ _ _ e (Or.inr e'))⟩
  · rw [List.length_set] at hi
    rw [getD_setV hql]
    intro b' o z y o' z' y' e e'
    split at e'
    · rcases e' with e' | e'
      · exact na.1 _ _ _ _ _ _ _ e e'
      · exact nb.1 _ _ _ _ _ _ _ e e'
    · exact h1.ap i hi _ _ _ _ _ _ _ e e'
  · rw [List.length_set] at hi
    rw [getD_setV hql]
    split
    · exact ⟨na.2,nb.2⟩
    · exact h4 i hi
theorem YC.pushP2 {p:Pc}(h:YC n H pv sv ps P S)(ha:OwnV n H a p.s)(hb:OwnV n H b p.a)(na:nal pv a∧nal sv a)(nb:nal pv b∧nal sv b)(hn:lim≤n∧n≤H.length)(hl:P.length<1000000) :
    ∃pv' H',vappend lim 2 48 (H++[.row [a,b] true]) pv (.sl H.length 0 1 2)=some (pv',H')∧YC n H' pv' sv (ps++[(a,b)]) (P++[p]) S∧(∀H0,HX H0 H→H0.length≤n→HX H0 H')∧H.length≤H'.length:=by
  obtain ⟨h1,h2,h3,h4⟩:=h
  obtain ⟨v',H2,a1,a2,a3,a4,a5,a6⟩:=h1.own.appendF2 (lim:=lim) (bytes:=48) (x:=(a,b)) (cs:=[a,b]) rfl hn (by omega) (by rw [h1.len];exact hl)
  have kv:∀{u:V},nal pv u→(∀b o m z,u=.sl b o m z→b<H.length)→∀b' o m z,u=.sl b' o m z→H2[b']? = H[b']? := fun hu hb b' o m z e=>a5 b' (hb _ _ _ _ e) fun o' z' y' e'=>hu _ _ _ _ _ _ _ e' e
  have la:=fun b o m z e=>(ha.belowB b o m z e).2
  have lb:=fun b o m z e=>(hb.belowB b o m z e).2
  refine ⟨v',H2,a1,⟨⟨a2,by simp [h1.len],fun i hi => ?_,fun i hi b' o z y o' z' y' e e' => ?_⟩,h2.keepB (kv h3 fun b o m z e=>(h2.belowB _ _ _ _ e).2),fun b o z y o' z' y' e e' => ?_,fun i hi => ?_⟩,a3,a4⟩
  · rw [List.length_append,List.length_singleton] at hi
    by_cases hlt:i<P.length
    · rw [getD_lt (l:=ps) (by rw [h1.len];exact hlt),getD_lt hlt]
      have t:=h1.at' i hlt
      exact ⟨t.1.keepB (kv (fun b o z w o' z' w' e e'=>h1.ap i hlt _ _ _ _ _ _ _ e (Or.inl e')) fun b o m z e=>(t.1.belowB _ _ _ _ e).2),t.2.keepB (kv (fun b o z w o' z' w' e e'=>h1.ap i hlt _ _ _ _ _ _ _ e (Or.inr e')) fun b o m z e=>(t.2.belowB _ _ _ _ e).2)⟩
    · have:i=P.length:=by omega
      subst this
      rw [getD_last h1.len.symm,getD_last rfl]
      exact ⟨ha.keepB (kv na.1 la),hb.keepB (kv nb.1 lb)⟩
  · rw [List.length_append,List.length_singleton] at hi
    have h6:=a6 _ _ _ _ e
    by_cases hlt:i<P.length
    · rw [getD_lt (l:=ps) (by rw [h1.len];exact hlt)] at e'
      have t:=h1.at' i hlt
      rcases e' with e' | e'
      · have:=(t.1.belowB _ _ _ _ e').2;omega
      · have:=(t.2.belowB _ _ _ _ e').2;omega
    · have:i=P.length:=by omega
      subst this
      rw [getD_last h1.len.symm] at e'
      rcases e' with e' | e'
      · have:=la _ _ _ _ e';omega
      · have:=lb _ _ _ _ e';omega
  · have:=a6 _ _ _ _ e
    have:=(h2.belowB _ _ _ _ e').2
    omega
  · rw [List.length_append,List.length_singleton] at hi
    by_cases hlt:i<P.length
    · rw [getD_lt (l:=ps) (by rw [h1.len];exact hlt)];exact h4 i hlt
    · have:i=P.length:=by omega
      subst this
      rw [getD_last h1.len.symm];exact ⟨na.2,nb.2⟩
theorem YC.seams {S':List Sm}(h:YC n H pv sv ps P S)(hs:OwnT n smC H' sv S')(hk:∀b,b<H.length→(∀o z y,sv≠.sl b o z y)→H'[b]? = H[b]?):YC n H' pv sv ps P S':=by
  obtain ⟨h1,h2,h3,h4⟩:=h
  refine ⟨h1.keepB (fun b o m z e=>hk b (h1.own.belowB _ _ _ _ e).2 fun o' z' y' e'=>h3 _ _ _ _ _ _ _ e e') fun i hi b o m z e => ?_,hs,h3,h4⟩
  rcases e with e | e
  · exact hk b ((h1.at' i hi).1.belowB _ _ _ _ e).2 fun o' z' y' e'=>(h4 i hi).1 _ _ _ _ _ _ _ e' e
  · exact hk b ((h1.at' i hi).2.belowB _ _ _ _ e).2 fun o' z' y' e'=>(h4 i hi).2 _ _ _ _ _ _ _ e' e
theorem YC.pushS {x:Sm}{cs:List V}(hcs:smC.cells x=cs)(h:YC n H pv sv ps P S)(hn:lim≤n∧n≤H.length)(hl:S.length<1000000) :
    ∃sv' H',vappend lim 4 32 (H++[.row cs true]) sv (.sl H.length 0 1 4)=some (sv',H')∧YC n H' pv sv' ps P (S++[x])∧(∀H0,HX H0 H→H0.length≤n→HX H0 H')∧H.length≤H'.length:=by
  obtain ⟨h1,h2,h3,h4⟩:=h
  obtain ⟨v',H',a1,a2,a3,a4,a5,a6⟩:=h2.appendF2 (lim:=lim) (bytes:=32) hcs hn (by omega) hl
  refine ⟨v',H',a1,⟨h1.keepB (fun b o m z e=>a5 b (h1.own.belowB _ _ _ _ e).2 fun o' z' y' e'=>h3 _ _ _ _ _ _ _ e e') fun i hi b o m z e => ?_,a2,fun b o z y o' z' y' e e' => ?_,fun i hi=>⟨fun b o z y o' z' y' e e' => ?_,fun b o z y o' z' y' e e' => ?_⟩⟩,a3,a4⟩
  · rcases e with e | e
    · exact a5 b ((h1.at' i hi).1.belowB _ _ _ _ e).2 fun o' z' y' e'=>(h4 i hi).1 _ _ _ _ _ _ _ e' e
    · exact a5 b ((h1.at' i hi).2.belowB _ _ _ _ e).2 fun o' z' y' e'=>(h4 i hi).2 _ _ _ _ _ _ _ e' e
  · have:=(h1.own.belowB _ _ _ _ e).2
    have:=a6 _ _ _ _ e'
    omega
  · have h6:=a6 _ _ _ _ e
    have:=((h1.at' i hi).1.belowB _ _ _ _ e').2;omega
  · have h6:=a6 _ _ _ _ e
    have:=((h1.at' i hi).2.belowB _ _ _ _ e').2;omega
end
end Go.Proofs.Ytclghkegfpcdpaa.Vm
namespace Go.Proofs.Ytclghkegfpcdpaa.Vm
open Go
set_option maxRecDepth 100000
set_option maxHeartbeats 1000000
set_option linter.unusedSimpArgs false
set_option linter.unusedVariables false
attribute [-simp] List.getD_eq_getElem?_getD
section
variable {n lim:Nat}{H H' H1:Hp}{K:V→Hp→Prop}{v pv sv a b u w:V}{ps:List (V×V)}{P:List Pc}{S:List Sm}{e:Int}{ws:List V}{c d:Cp}{l m:List Int}
theorem half_len {p:Pc}{i m:Nat}{ln x:Int}:(half p i m ln x).a.length=m+1∧(half p i m ln x).s.length=m+1:=by simp [half,rot_len]
theorem half_last {p:Pc}{i m:Nat}{ln x:Int}:(half p i m ln x).a.getD ((half p i m ln x).a.length-1) 0=lastZ p i m x:=by
  rw [half_len.1]
  unfold half
  simp only [Nat.add_sub_cancel]
  rw [getD_ge (j:=0) (by simp [rot_len])]
  rfl
theorem half_first {p:Pc}{i m:Nat}{ln x:Int}(hm:0<m):(half p i m ln x).a.getD 0 0=x:=by
  unfold half
  simp only
  rw [getD_lt (by simp [rot_len];omega),getD_setI (by rw [rot_len];exact hm),if_pos rfl]
theorem lastZ_bd {p:Pc}{i m:Nat}{x:Int}(hp:pieceB p=true)(hi:i<p.s.length)(hm:0<m∧m≤6)(hx : -5000≤x∧x≤5000) : -20000≤lastZ p i m x∧lastZ p i m x≤20000:=by
  rw [lastZ_eq hm.1 hi]
  have b:=rot_bd hp (i:=i) (t:=m)
  have b2:=((piece_ok hp).2.2.1 i hi).2
  omega
end
end Go.Proofs.Ytclghkegfpcdpaa.Vm
namespace Go.Proofs.Ytclghkegfpcdpaa.Vm
open Go
set_option maxRecDepth 100000
set_option maxHeartbeats 1000000
set_option linter.unusedSimpArgs false
set_option linter.unusedVariables false
attribute [-simp] List.getD_eq_getElem?_getD
section
variable {n lim:Nat}{H H' H1:Hp}{K:V→Hp→Prop}{v pv sv a b u w:V}{ps:List (V×V)}{P:List Pc}{S:List Sm}{e:Int}{ws:List V}{c d:Cp}{l m:List Int}
theorem surf_Split {A i j ln an:Int}(iA:I64 A)(ii:I64 i)(ij:I64 j)(hc:CapV H ws c)(hsh:ShortC c)(hlim:lim≤H.length)(hK:∀H' ws',HX H H'→CapV H' ws' (if splE c A i j ln an=0 then splC c A i j ln an else zCap)→K (.tup [.agg ws',.int .i64 (splE c A i j ln an)]) H'):VCall tbl lim 41 [.agg ws,.int .i64 A,.int .i64 i,.int .i64 j,.int .i64 ln,.int .i64 an] H K:=by
  obtain ⟨pv,sv,ps,rfl,hp,hs,z1,z2,z3,z4⟩:=hc.form
  have s1:=hsh.np
  have s2:=hsh.ns
  have hz:∀{H'},CapV H' [.snil,.snil,.int .i64 0] zCap:=fun {H'}=>zCapV (m:=0) |>.cap
  refine VCall_fn tbl_at41 rfl ?_
  simp [vf41,z1,z2,z3,z4,rdA3,fr0_65]
  refine surf_Validate hc (by omega) (by omega) fun H1 x1 => ?_
  replace x1:HX H H1:=x1
  have l1:=x1.len
  by_cases h0:capE c=0
  case neg =>
    have e1:splE c A i j ln an=capE c:=by rw [splE,if_pos h0]
    have:=hK H1 [.snil,.snil,.int .i64 0] x1 (by rw [if_neg (by rw [e1];exact h0)];exact hz)
    rw [e1] at this
    simp [h0,rdA3,splice]
    exact this
  have hok:=capE_ok.1 h0
  have hp1:=hp.mono x1
  have bad:∀{x:Int} {H2:Hp},splE c A i j ln an=x→x≠0→HX H H2→K (.tup [.agg [.snil,.snil,.int .i64 0],.int .i64 x]) H2:=fun {x H2} e1 h x2=>by
    have:=hK H2 [.snil,.snil,.int .i64 0] x2 (by rw [if_neg (by rw [e1];exact h)];exact hz)
    rw [e1] at this
    exact this
  simp [h0,rdA3,z1,z2,z3,z4]
  refine surf_hasSide hp1 z3 z4 ?_
  by_cases q1:sdOk c.P A i=true
  case neg =>
    have q1:=Bool.eq_false_iff.2 q1
    simp [q1,rdA3,splice]
    exact bad (by rw [splE,if_neg (fun g=>g h0),q1];rfl) (by omega) x1
  simp [q1,rdA3,z1,z2,z3,z4]
  refine surf_hasSide hp1 z3 z4 ?_
  by_cases q2:sdOk c.P A j=true
  case neg =>
    have q2:=Bool.eq_false_iff.2 q2
    simp [q2,rdA3,splice]
    exact bad (by rw [splE,if_neg (fun g=>g h0),q1,q2];rfl) (by omega) x1
  obtain ⟨hA,hi,eA,ei⟩:=sd_ok q1
  obtain ⟨_,hj,_,ej⟩:=sd_ok q2
  have hE:splE c A i j ln an=if !(splB (ksN c.P A.toNat) i.toNat j.toNat ln an&&splZ (c.P.getD A.toNat default) i.toNat j.toNat an) then 1 else if c.P.length=8 then 4 else 0:=by
    rw [splE,if_neg (fun g=>g h0),q1,q2];rfl
  have hC:splC c A i j ln an=⟨splP c.P A.toNat i.toNat j.toNat ln an,splS c.P c.S A.toNat i.toNat j.toNat,c.e⟩:=rfl
  generalize A.toNat=q at *
  generalize i.toNat=i' at *
  generalize j.toNat=j' at *
  subst eA ei ej
  obtain ⟨t1,t2⟩:=hp1.at' q hA
  have hpo:=hok.pc q hA
  have hld:=hp1.ld2 hA
  have hat:=hp1.at hA
  obtain ⟨pc,hpc⟩:∃pc,pc=c.P.getD q default:=⟨_,rfl⟩
  have hkn:ksN c.P q=pc.s.length:=by rw [hpc];rfl
  rw [hkn] at hE hi hj
  rw [←hpc] at hE t1 t2 hpo
  obtain ⟨p1,p2,p3,p4⟩:=piece_ok hpo
  generalize (ps.getD q default).1=pa at *
  generalize (ps.getD q default).2=pb at *
  have hvl:vlenS pa=some (.int .i64 (pc.s.length:Nat)):=t1.len
  have hkne:(pc.s.length:Int)≠0:=by omega
  obtain ⟨m1,hm1⟩:∃m,m=(i'+1) % pc.s.length:=⟨_,rfl⟩
  obtain ⟨m2,hm2⟩:∃m,m=(j'+1) % pc.s.length:=⟨_,rfl⟩
  have hr1:vbin .rem (.int .i64 ((i':Int)+1)) (.int .i64 (pc.s.length:Int))=some (.int .i64 (m1:Nat)):=by
    rw [vbin_rem hkne,hm1]
    have:((i':Int)+1).tmod (pc.s.length:Int)=(((i'+1) % pc.s.length:Nat):Int):=tmod_nat _ _
    rw [this]
  have hr2:vbin .rem (.int .i64 ((j':Int)+1)) (.int .i64 (pc.s.length:Int))=some (.int .i64 (m2:Nat)):=by
    rw [vbin_rem hkne,hm2]
    have:((j':Int)+1).tmod (pc.s.length:Int)=(((j'+1) % pc.s.length:Nat):Int):=tmod_nat _ _
    rw [this]
  have bad1:∀{H2:Hp},splB pc.s.length i' j' ln an=false→HX H H2→K (.tup [.agg [.snil,.snil,.int .i64 0],.int .i64 1]) H2:=fun {H2} g x2=>bad (by rw [hE,g];rfl) (by omega) x2
  have hB:splB pc.s.length i' j' ln an=decide (i'≠j'∧m1≠j'∧m2≠i'∧(1≤ln∧ln≤200)∧(1≤an∧an≤359)):=by rw [hm1,hm2];rfl
  rw [hB] at bad1 hE
  have y1:=t1.stor
  have y2:=t1.one
  have y3:=t2.stor
  have y4:=t2.one
  simp [q2,hat,hld,rd0,rd1',rdA2,hvl,y1,y2,y3,y4,splice]
  by_cases b1:i'=j'
  · have d1:decide ((i':Int)=(j':Int))=true:=decide_eq_true (by omega)
    simp (disch:=omega) [d1,wrap_i64,hr1,rdA3,splice]
    exact bad1 (decide_eq_false (fun g=>g.1 b1)) x1
  have d1:decide ((i':Int)=(j':Int))=false:=decide_eq_false (by omega)
  by_cases b2:m1=j'
  · have d2:decide ((m1:Int)=(j':Int))=true:=decide_eq_true (by omega)
    simp (disch:=omega) [d1,wrap_i64,hr1,d2,rdA3,splice]
    exact bad1 (decide_eq_false (fun g=>g.2.1 b2)) x1
  have d2:decide ((m1:Int)=(j':Int))=false:=decide_eq_false (by omega)
  by_cases b3:m2=i'
  · have d3:decide ((m2:Int)=(i':Int))=true:=decide_eq_true (by omega)
    simp (disch:=omega) [d1,wrap_i64,hr1,d2,hr2,d3,rdA3,splice]
    exact bad1 (decide_eq_false (fun g=>g.2.2.1 b3)) x1
  have d3:decide ((m2:Int)=(i':Int))=false:=decide_eq_false (by omega)
  simp (disch:=omega) [d1,wrap_i64,hr1,d2,hr2,d3]
  refine surf_isSide ?_
  by_cases b4:1≤ln∧ln≤200
  case neg =>
    have d4:=decide_eq_false b4
    simp only [d4]
    simp [rdA3,splice]
    exact bad1 (decide_eq_false (fun g=>b4 g.2.2.2.1)) x1
  have d4:=decide_eq_true b4
  simp only [d4]
  simp [fr0_65]
  refine surf_isAngle ?_
  by_cases b5:1≤an∧an≤359
  case neg =>
    have d5:=decide_eq_false b5
    simp only [d5]
    simp [rdA3,splice]
    exact bad1 (decide_eq_false (fun g=>b5 g.2.2.2.2)) x1
  have d5:=decide_eq_true b5
  simp only [d5]
  have hBt:decide (i'≠j'∧m1≠j'∧m2≠i'∧(1≤ln∧ln≤200)∧(1≤an∧an≤359))=true:=decide_eq_true ⟨b1,b2,b3,b4,b5⟩
  rw [hBt] at hE
  simp [fr0_65,rdA2,y1,y2,y3,y4]
  refine surf_part (p:=pc) t1 t2 hpo hi hj b1 (by omega) (by omega) fun H2 u w x2 hT => ?_
  replace x2:HX H1 H2:=x2
  have l2:=x2.len
  obtain ⟨N,hN⟩:∃N,N=stp pc.s.length i' j':=⟨_,rfl⟩
  obtain ⟨M,hM⟩:∃M,M=stp pc.s.length j' i':=⟨_,rfl⟩
  obtain ⟨z,hz0⟩:∃z,z=lastZ pc i' N an:=⟨_,rfl⟩
  have hZ2:=lastZ_two (x:=an) hpo hi hj b1
  have hZb:splZ pc i' j' an=decide ((1≤z∧z≤359)∧(1≤pc.a.getD j' 0-z∧pc.a.getD j' 0-z≤359)∧(1≤pc.a.getD i' 0-an∧pc.a.getD i' 0-an≤359)):=by rw [hz0,hN];rfl
  rw [←hN,←hz0,←hM] at hZ2
  rw [←hN] at hT
  rw [hZb] at hE
  have N0:0<N:=by rw [hN];exact stp_pos hi hj b1
  have M0:0<M:=by rw [hM];exact stp_pos hj hi (Ne.symm b1)
  have Nk:N<pc.s.length:=by rw [hN];exact stp_lt hi hj
  have Mk:M<pc.s.length:=by rw [hM];exact stp_lt hj hi
  have zb : -20000≤z∧z≤20000:=by rw [hz0];exact lastZ_bd hpo hi (by omega) (by omega)
  have k1:=hT.ou.sl.stor
  have k2:=hT.ou.sl.one
  have k3:=hT.ow.sl.stor
  have k4:=hT.ow.sl.one
  have hlw:(half pc i' N ln an).a.length=N+1:=half_len.1
  have ta:=t2.mono x2
  have aj:=ta.addr (i:=(j':Int)) (by omega)
  simp only [Int.toNat_natCast] at aj
  have lj:=fun L=>ta.load (i:=j') (by omega) (L:=L)
  have bj:=(p3 j' hj).2
  have bi:=(p3 i' hi).2
  simp [k1,k2,k3,k4,splice,rd0,rd1',rdA2,y1,y2,y3,y4,aj,lj]
  refine surf_last hT.ow.sl (by omega) ?_
  rw [half_last,←hz0]
  simp (disch:=omega) [wrap_i64,rdA2,y1,y2,y3,y4]
  refine surf_part (p:=pc) (t1.mono x2) ta hpo hj hi (Ne.symm b1) (by omega) (by omega) fun H3 u2 w2 x3 hT2 => ?_
  replace x3:HX H2 H3:=x3
  have l3:=x3.len
  rw [←hM] at hT2
  have hT3:=hT.mono x3
  have g1:=hT2.ou.sl.stor
  have g2:=hT2.ou.sl.one
  have g3:=hT2.ow.sl.stor
  have g4:=hT2.ow.sl.one
  simp [g1,g2,g3,g4,k1,k2,k3,k4,splice,rd0,rd1',rdA2]
  have badZ:∀{H2:Hp},¬((1≤z∧z≤359)∧(1≤pc.a.getD j' 0-z∧pc.a.getD j' 0-z≤359)∧(1≤pc.a.getD i' 0-an∧pc.a.getD i' 0-an≤359))→HX H H2→K (.tup [.agg [.snil,.snil,.int .i64 0],.int .i64 1]) H2:=fun {H2} g x2=>bad (by rw [hE,decide_eq_false g];rfl) (by omega) x2
  have x13:=x1.trans (x2.trans x3)
  refine surf_last hT3.ow.sl (by omega) ?_
  rw [half_last,←hz0]
  simp
  refine surf_isAngle ?_
  by_cases c1:1≤z∧z≤359
  case neg =>
    have e1:=decide_eq_false c1
    simp only [e1]
    simp [rdA3,splice]
    exact badZ (fun g=>c1 g.1) x13
  have e1:=decide_eq_true c1
  simp only [e1]
  have hlw2:(half pc j' M ln (pc.a.getD j' 0-z)).a.length=M+1:=half_len.1
  have a0:=hT2.ow.sl.addr (i:=0) (by omega)
  have a0:viaddrS 1 w2 (.int .i64 0)=some (ept 1 w2 0):=by simpa using a0
  have l0:=fun L=>hT2.ow.sl.load (i:=0) (by omega) (L:=L)
  rw [half_first M0] at l0
  simp [rd0,rd1',a0,l0]
  refine surf_isAngle ?_
  by_cases c2:1≤pc.a.getD j' 0-z∧pc.a.getD j' 0-z≤359
  case neg =>
    have e2:=decide_eq_false c2
    simp only [e2]
    simp [rdA3,splice]
    exact badZ (fun g=>c2 g.2.1) x13
  have e2:=decide_eq_true c2
  simp only [e2]
  simp [rd0,rd1',g3]
  refine surf_last hT2.ow.sl (by omega) ?_
  rw [half_last,hZ2]
  simp
  refine surf_isAngle ?_
  by_cases c3:1≤pc.a.getD i' 0-an∧pc.a.getD i' 0-an≤359
  case neg =>
    have e3:=decide_eq_false c3
    simp only [e3]
    simp [rdA3,splice]
    exact badZ (fun g=>c3 g.2.2) x13
  have e3:=decide_eq_true c3
  simp only [e3]
  rw [decide_eq_true (show (1≤z∧z≤359)∧(1≤pc.a.getD j' 0-z∧pc.a.getD j' 0-z≤359)∧(1≤pc.a.getD i' 0-an∧pc.a.getD i' 0-an≤359) from ⟨c1,c2,c3⟩)] at hE
  have hvP:vlenS pv=some (.int .i64 c.P.length):=hp.vlen
  by_cases h8:c.P.length=8
  · have e8:decide ((c.P.length:Int)=8)=true:=decide_eq_true (by omega)
    simp [rd0,hvP,e8,rdA3,splice]
    exact bad (by rw [hE,if_pos h8];rfl) (by omega) x13
  have e8:decide ((c.P.length:Int)=8)=false:=decide_eq_false (by omega)
  have hE:splE c q i' j' ln an=0:=by rw [hE,if_neg h8];rfl
  simp [rd0,hvP,e8,rdA3,z1,z2,z3,z4]
  refine surf_cloneX (hc.mono x13) hsh (by omega) fun H4 ws4 x4 o4 => ?_
  replace x4:HX H3 H4:=x4
  have l4:=x4.len
  obtain ⟨pv4,sv4,ps4,rfl,hX⟩:=o4.parts
  have x14:=x13.trans x4
  have hT4:=hT3.mono x4
  have hT24:=hT2.mono x4
  have b_u:=fun b o m z e=>(hT3.ou.belowB b o m z e).2
  have b_w:=fun b o m z e=>(hT3.ow.belowB b o m z e).2
  have b_u2:=fun b o m z e=>(hT2.ou.belowB b o m z e).2
  have b_w2:=fun b o m z e=>(hT2.ow.belowB b o m z e).2
  have b_p:=fun b o m z e=>(hX.p.own.belowB b o m z e).1
  have b_s:=fun b o m z e=>(hX.s.belowB b o m z e).1
  have ap:∀{x y:V},(∀b o m z,x=.sl b o m z→H3.length≤b)→(∀b o m z,y=.sl b o m z→b<H3.length)→nal x y:=fun hx hy b o z w o' z' w' e e'=>by
    have:=hx _ _ _ _ e
    have:=hy _ _ _ _ e'
    omega
  have Y4:YC H.length H4 pv4 sv4 ps4 c.P c.S:=hX.yc.le (by omega)
  have q1':=hX.p.own.lst.stor
  have q2':=hX.p.own.lst.one
  have q3':=hX.s.lst.stor
  have q4':=hX.s.lst.one
  have at4:=hX.p.pcsV.at hA
  obtain ⟨H5,w1,Y5,w3,w4,w5⟩:=Y4.setP (lim:=lim) (p:=half pc i' N ln an) hA (hT4.ou.le (by omega)) (hT4.ow.le (by omega)) ⟨ap b_p b_u,ap b_s b_u⟩ ⟨ap b_p b_w,ap b_s b_w⟩ (by omega)
  have x5:=w3 H x14 (Nat.le_refl _)
  have ku:∀b',b'<H3.length→H5[b']? = H4[b']? := fun b' hb'=>w4 b' fun o z y e=>by have:=b_p _ _ _ _ e;omega
  have hT25:TwoV H.length H5 u2 w2 (half pc j' M ln (pc.a.getD j' 0-z)).s (half pc j' M ln (pc.a.getD j' 0-z)).a :=
    ⟨(hT24.ou.le (by omega)).keepB fun b o m z e=>ku b (b_u2 _ _ _ _ e),(hT24.ow.le (by omega)).keepB fun b o m z e=>ku b (b_w2 _ _ _ _ e),hT24.ap⟩
  obtain ⟨pv6,H6,v1,Y6,v3,v4⟩:=Y5.pushP2 (lim:=lim) (p:=half pc j' M ln (pc.a.getD j' 0-z)) hT25.ou hT25.ow ⟨ap b_p b_u2,ap b_s b_u2⟩ ⟨ap b_p b_w2,ap b_s b_w2⟩ ⟨by omega,x5.len⟩ (by rw [List.length_set];omega)
  have x6:=v3 H x5 (Nat.le_refl _)
  have l6:=x6.len
  have r1':=Y6.p.own.lst.stor
  have r2':=Y6.p.own.lst.one
  have hrem3:vbin .rem (.int .i64 ((j':Int)-(i':Int)+(pc.s.length:Int))) (.int .i64 (pc.s.length:Int))=some (.int .i64 (N:Nat)):=by
    rw [vbin_rem hkne,mv_rem hi (by omega),Int.toNat_natCast,←hN]
  simp [q1',q2',q3',q4',splice,rd0,rd1',rdA2,rdA3,k1,k2,k3,k4,g1,g2,g3,g4]
  simp [rd0,rdA2,at4,w1,k1,k2,k3,k4,-vstore,lpId_ept]
  simp (disch:=omega) [splice,rd0,rd1',rdA2,rdA3,q1',q2',q3',q4',k1,k2,k3,k4,g1,g2,g3,g4,v1,r1',r2',hp.vlen,wrap_i64,hrem3]
  have hsq:∀t,t<c.S.length→((c.S.getD t default).A=q→0≤(c.S.getD t default).I∧(c.S.getD t default).I<pc.s.length)∧((c.S.getD t default).B=q→0≤(c.S.getD t default).J∧(c.S.getD t default).J<pc.s.length):=fun t ht=>by
    obtain ⟨o1,o2⟩:=hok.smB ht
    obtain ⟨_,o3,o4,o5⟩:=sd_ok o1
    obtain ⟨_,o6,o7,o8⟩:=sd_ok o2
    refine ⟨fun g => ?_,fun g => ?_⟩
    · rw [g,Int.toNat_natCast,hkn] at o3;omega
    · rw [g,Int.toNat_natCast,hkn] at o6;omega
  have hPC:splC c q i' j' ln an=⟨c.P.set q (half pc i' N ln an)++[half pc j' M ln (pc.a.getD j' 0-z)],c.S.map (mvS q c.P.length pc.s.length i' N)++[⟨(q:Int),(N:Int),(c.P.length:Int),(M:Int)⟩],c.e⟩:=by
    rw [hC,splP,splS,h1P,h2P,hkn,←hpc,←hN,←hM,←hz0]
  rw [hE,if_pos rfl,hPC] at hK
  refine surf_moveSeams (A:=q) (N:=c.P.length) (i:=i') (m:=N) (k:=pc.s.length) Y6.s ⟨hlim,l6⟩ hi (by omega) hsq (by omega) fun H7 hs7 hk7 hl7 => ?_
  have Y7:=Y6.seams hs7 hk7
  have x7:HX H H7:=HX.of (by omega) fun b hb=>by
    rw [hk7 b (by omega) fun o z y e=>by have:=(Y6.s.belowB _ _ _ _ e).1;omega,x6.same hb]
  obtain ⟨sv8,H8,u1,Y8,u3,u4⟩:=Y7.pushS (lim:=lim) (x:=⟨(q:Int),(N:Int),(c.P.length:Int),(M:Int)⟩) (cs:=[.int .i64 (q:Int),.int .i64 (N:Int),.int .i64 (c.P.length:Int),.int .i64 (M:Int)]) rfl ⟨hlim,x7.len⟩ (by rw [List.length_map];omega)
  have x8:=u3 H x7 (Nat.le_refl _)
  have z1':=Y8.p.own.lst.stor
  have z2':=Y8.p.own.lst.one
  have z3':=Y8.s.lst.stor
  have z4':=Y8.s.lst.one
  have lu:vlenS u=some (.int .i64 ((N:Int)+1)):=by rw [hT3.ou.sl.len,half_len.2];rfl
  have lu2:vlenS u2=some (.int .i64 ((M:Int)+1)):=by rw [hT2.ou.sl.len,half_len.2];rfl
  have eN:(N:Int)+1-1=N:=by omega
  have eM:(M:Int)+1-1=M:=by omega
  have hr:=hK H8 _ x8 Y8.cap
  simp (disch:=omega) [splice,rd0,rd1',rdA3,rdA4,zs4,lu,lu2,eN,eM,wrap_i64,hp.vlen,u1,z1',z2',z3',z4']
  exact hr
end
end Go.Proofs.Ytclghkegfpcdpaa.Vm
namespace Go.Proofs.Ytclghkegfpcdpaa.Vm
set_option linter.unusedVariables false
set_option linter.unusedSimpArgs false
attribute [-simp] List.getD_eq_getElem?_getD
section
variable {k i j b:Nat}
theorem stp_self (hi:i<k):stp k i i=0:=by rw [stp_eq hi hi,if_pos (Nat.le_refl _),Nat.sub_self]
theorem stp_back (hi:i<k){t:Nat}(ht:t<k):stp k i ((i+t) % k)=t:=by
  have hl:(i+t) % k<k:=Nat.mod_lt _ (by omega)
  rw [stp_eq hi hl,ring_at hi (by omega)]
  split<;>split<;>omega
theorem stp_inj {b':Nat}(hi:i<k)(hb:b<k)(hb':b'<k)(h:stp k i b=stp k i b'):b=b':=by
  have e1:=stp_at hi hb
  have e2:=stp_at hi hb'
  rw [h] at e1;omega
theorem stp_next (hi:i<k)(hb:b<k):stp k i ((b+1) % k)=if stp k i b+1=k then 0 else stp k i b+1:=by
  have hl:(b+1) % k<k:=Nat.mod_lt _ (by omega)
  rw [stp_eq hi hl,stp_eq hi hb,mod_next hb]
  by_cases h1:b+1=k
  · simp only [h1,if_true]
    by_cases h2:i≤b
    · simp only [h2,if_true]
      by_cases h3:i=0
      · subst h3;simp;omega
      · rw [if_neg (by omega),if_neg (by omega)];omega
    · omega
  · simp only [h1,if_false]
    by_cases h2:i≤b
    · rw [if_pos (by omega),if_pos h2,if_neg (by omega)];omega
    · rw [if_neg h2]
      by_cases h3:i≤b+1
      · rw [if_pos h3,if_pos (by omega)];omega
      · rw [if_neg h3,if_neg (by omega)];omega
end
structure Cut (P P':List Pc)(q i j n m:Nat):Prop where
  hq:q<P.length
  hi:i<ksN P q
  hj:j<ksN P q
  hij:i≠j
  hn:n=stp (ksN P q) i j
  hm:m=stp (ksN P q) j i
  len:P'.length=P.length+1
  ks:∀t,t<P.length→t≠q→ksN P' t=ksN P t
  k1:ksN P' q=n+1
  k2:ksN P' P.length=m+1
def gS (P P':List Pc)(q i n x:Nat):Nat :=
  if pcN P x=q then (if stp (ksN P q) i (x-offN P (pcN P x))<n then offN P' q+stp (ksN P q) i (x-offN P (pcN P x)) else offN P' P.length+(stp (ksN P q) i (x-offN P (pcN P x))-n)) else offN P' (pcN P x)+(x-offN P (pcN P x))
section
variable {P P':List Pc}{q i j n m t b:Nat}
theorem gS_at (ht:t<P.length)(hb:b<ksN P t):gS P P' q i n (offN P t+b)=if t=q then (if stp (ksN P q) i b<n then offN P' q+stp (ksN P q) i b else offN P' P.length+(stp (ksN P q) i b-n)) else offN P' t+b:=by
  unfold gS
  rw [pc_at ht hb,show offN P t+b-offN P t=b by omega]
theorem Cut.nm (h:Cut P P' q i j n m):(0<n∧0<m)∧n+m=ksN P q:=by
  refine ⟨⟨?_,?_⟩,?_⟩
  · rw [h.hn];exact stp_pos h.hi h.hj h.hij
  · rw [h.hm];exact stp_pos h.hj h.hi h.hij.symm
  · rw [h.hn,h.hm];exact stp_add h.hi h.hj h.hij
theorem Cut.loc (h:Cut P P' q i j n m)(ht:t<P.length)(hb:b<ksN P t):∃t' b',t'<P'.length∧b'<ksN P' t'∧gS P P' q i n (offN P t+b)=offN P' t'+b'∧(t'=q→b'<n)∧(t'=P.length→b'<m)∧((t≠q∧t'=t∧b'=b)∨(t=q∧stp (ksN P q) i b<n∧t'=q∧b'=stp (ksN P q) i b)∨(t=q∧n≤stp (ksN P q) i b∧t'=P.length∧b'=stp (ksN P q) i b-n)):=by
  obtain ⟨⟨n0,m0⟩,nm⟩:=h.nm
  have hq:=h.hq
  have hl:=h.len
  rw [gS_at ht hb]
  by_cases e:t=q
  · subst e
    have hs:stp (ksN P t) i b<ksN P t:=stp_lt h.hi hb
    rw [if_pos rfl]
    by_cases e2:stp (ksN P t) i b<n
    · rw [if_pos e2]
      exact ⟨t,_,by omega,by rw [h.k1];omega,rfl,fun _=>e2,fun g=>by omega,Or.inr (Or.inl ⟨rfl,e2,rfl,rfl⟩)⟩
    · rw [if_neg e2]
      exact ⟨P.length,_,by omega,by rw [h.k2];omega,rfl,fun g=>by omega,fun _=>by omega,Or.inr (Or.inr ⟨rfl,by omega,rfl,rfl⟩)⟩
  · rw [if_neg e]
    exact ⟨t,b,by omega,by rw [h.ks t ht e];exact hb,rfl,fun g=>absurd g e,fun g=>by omega,Or.inl ⟨e,rfl,rfl⟩⟩
theorem Cut.spl {L L':List (Nat×Nat)} (h:Cut P P' q i j n m) (hl:SmOk (nsN P) L) (hl':SmOk (nsN P') L') (lg:L'=(offN P' q+n,offN P' P.length+m) :: L.map fun s=>(gS P P' q i n s.1,gS P P' q i n s.2)) :
    SplR (nsN P) (nxN P) (pcN P) L (nsN P') (nxN P') (pcN P') L' (gS P P' q i n) (offN P' q+n) (offN P' P.length+m) (offN P q+i) (offN P q+j):=by
  obtain ⟨⟨n0,m0⟩,nm⟩:=h.nm
  have hq:=h.hq
  have hlen:=h.len
  have k1:=h.k1
  have k2:=h.k2
  have hsj:stp (ksN P q) i j=n:=h.hn.symm
  have hsi:stp (ksN P q) i i=0:=stp_self h.hi
  refine ⟨nx_pr,hl,nx_pr,hl',fun x hx => ?_,fun x y hx hy e => ?_,fun y hy => ?_,⟨off_lt (by omega) (by omega),off_lt (by omega) (by omega),fun e => ?_⟩,⟨off_lt hq h.hi,off_lt hq h.hj,fun e=>h.hij (by omega)⟩,fun x hx => ?_,?_,?_,lg⟩
  · obtain ⟨t,b,h1,h2,rfl⟩:=off_loc hx
    obtain ⟨t',b',g1,g2,g3,g4,g5,_⟩:=h.loc h1 h2
    rw [g3]
    refine ⟨off_lt g1 g2,fun e => ?_,fun e => ?_⟩
    · obtain ⟨e1,e2⟩:=off_inj g2 (by rw [k1];omega) e
      have:=g4 e1;omega
    · obtain ⟨e1,e2⟩:=off_inj g2 (by rw [k2];omega) e
      have:=g5 e1;omega
  · obtain ⟨t,b,h1,h2,rfl⟩:=off_loc hx
    obtain ⟨u,c,h3,h4,rfl⟩:=off_loc hy
    obtain ⟨t',b',g1,g2,g3,g4,g5,g6⟩:=h.loc h1 h2
    obtain ⟨u',c',f1,f2,f3,f4,f5,f6⟩:=h.loc h3 h4
    rw [g3,f3] at e
    obtain ⟨e1,e2⟩:=off_inj g2 f2 e
    have key:t=u∧b=c:=by
      rcases g6 with ⟨p1,p2,p3⟩ | ⟨p1,p2,p3,p4⟩ | ⟨p1,p2,p3,p4⟩<;>rcases f6 with ⟨r1,r2,r3⟩ | ⟨r1,r2,r3,r4⟩ | ⟨r1,r2,r3,r4⟩
      · omega
      · omega
      · omega
      · omega
      · subst p1;subst r1;exact ⟨rfl,stp_inj h.hi h2 h4 (by omega)⟩
      · omega
      · omega
      · omega
      · subst p1;subst r1;exact ⟨rfl,stp_inj h.hi h2 h4 (by omega)⟩
    rw [key.1,key.2]
  · obtain ⟨t,b,h1,h2,rfl⟩:=off_loc hy
    by_cases e1:t=q
    · subst e1
      rw [k1] at h2
      by_cases e2:b=n
      · subst e2;exact Or.inl rfl
      · refine Or.inr (Or.inr ⟨offN P t+(i+b) % ksN P t,off_lt hq (Nat.mod_lt _ (by omega)),?_⟩)
        rw [gS_at hq (Nat.mod_lt _ (by omega)),if_pos rfl,stp_back h.hi (by omega),if_pos (by omega)]
    · by_cases e3:t=P.length
      · subst e3
        rw [k2] at h2
        by_cases e2:b=m
        · subst e2;exact Or.inr (Or.inl rfl)
        · refine Or.inr (Or.inr ⟨offN P q+(i+(n+b)) % ksN P q,off_lt hq (Nat.mod_lt _ (by omega)),?_⟩)
          rw [gS_at hq (Nat.mod_lt _ (by omega)),if_pos rfl,stp_back h.hi (by omega),if_neg (by omega),show n+b-n=b by omega]
      · have ht:t<P.length:=by omega
        have hb:b<ksN P t:=by rw [←h.ks t ht e1];exact h2
        exact Or.inr (Or.inr ⟨offN P t+b,off_lt ht hb,by rw [gS_at ht hb,if_neg e1]⟩)
  · obtain ⟨e1,e2⟩:=off_inj (pcs:=P') (by rw [k1];omega) (by rw [k2];omega) e
    omega
  · obtain ⟨t,b,h1,h2,rfl⟩:=off_loc hx
    have hb1:(b+1) % ksN P t<ksN P t:=Nat.mod_lt _ (by omega)
    rw [nx_at h1 h2]
    by_cases e:t=q
    · subst e
      have hnx:=stp_next h.hi h2
      have hs:stp (ksN P t) i b<ksN P t:=stp_lt h.hi h2
      rw [gS_at h1 h2,if_pos rfl]
      by_cases e2:stp (ksN P t) i b<n
      · rw [if_pos e2,nx_at (by omega) (by rw [k1];omega),k1,Nat.mod_eq_of_lt (show stp (ksN P t) i b+1<n+1 by omega)]
        rw [if_neg (by omega)] at hnx
        by_cases e3:stp (ksN P t) i b+1=n
        · have:(b+1) % ksN P t=j:=stp_inj h.hi hb1 h.hj (by omega)
          exact Or.inl ⟨by rw [this],by rw [e3]⟩
        · refine Or.inr (Or.inr ⟨fun g => ?_,fun g => ?_,?_⟩)
          · have:(b+1) % ksN P t=i:=by omega
            rw [this] at hnx;omega
          · have:(b+1) % ksN P t=j:=by omega
            rw [this] at hnx;omega
          · rw [gS_at h1 hb1,if_pos rfl,hnx,if_pos (by omega)]
      · rw [if_neg e2,nx_at (by omega) (by rw [k2];omega),k2,Nat.mod_eq_of_lt (show stp (ksN P t) i b-n+1<m+1 by omega)]
        by_cases e3:stp (ksN P t) i b+1=ksN P t
        · rw [if_pos e3] at hnx
          have:(b+1) % ksN P t=i:=stp_inj h.hi hb1 h.hi (by omega)
          exact Or.inr (Or.inl ⟨by rw [this],by congr 1;omega⟩)
        · rw [if_neg e3] at hnx
          refine Or.inr (Or.inr ⟨fun g => ?_,fun g => ?_,?_⟩)
          · have:(b+1) % ksN P t=i:=by omega
            rw [this] at hnx;omega
          · have:(b+1) % ksN P t=j:=by omega
            rw [this] at hnx;omega
          · rw [gS_at h1 hb1,if_pos rfl,hnx,if_neg (by omega)];omega
    · have hb':b<ksN P' t:=by rw [h.ks t h1 e];exact h2
      rw [gS_at h1 h2,if_neg e,nx_at (by omega) hb',h.ks t h1 e]
      refine Or.inr (Or.inr ⟨fun g => ?_,fun g => ?_,by rw [gS_at h1 hb1,if_neg e]⟩)
      · exact e (off_inj hb1 h.hi g).1
      · exact e (off_inj hb1 h.hj g).1
  · rw [nx_at (by omega) (by rw [k1];omega),k1,Nat.mod_self,gS_at hq h.hi,if_pos rfl,hsi,if_pos n0]
  · rw [nx_at (by omega) (by rw [k2];omega),k2,Nat.mod_self,gS_at hq h.hj,if_pos rfl,hsj,if_neg (by omega),Nat.sub_self]
end
end Go.Proofs.Ytclghkegfpcdpaa.Vm
namespace Go.Proofs.Ytclghkegfpcdpaa.Vm
set_option linter.unusedVariables false
set_option linter.unusedSimpArgs false
attribute [-simp] List.getD_eq_getElem?_getD
section
variable {P P':List Pc}{c:Cp}{q i j n m t b:Nat}{ln an e:Int}
theorem Cut.glt (h:Cut P P' q i j n m){x:Nat}(hx:x<nsN P):gS P P' q i n x<nsN P'∧gS P P' q i n x≠offN P' q+n∧gS P P' q i n x≠offN P' P.length+m:=by
  have k1:=h.k1
  have k2:=h.k2
  obtain ⟨t,b,h1,h2,rfl⟩:=off_loc hx
  obtain ⟨t',b',g1,g2,g3,g4,g5,_⟩:=h.loc h1 h2
  rw [g3]
  refine ⟨off_lt g1 g2,fun e => ?_,fun e => ?_⟩
  · obtain ⟨e1,e2⟩:=off_inj g2 (by rw [k1];omega) e
    have:=g4 e1;omega
  · obtain ⟨e1,e2⟩:=off_inj g2 (by rw [k2];omega) e
    have:=g5 e1;omega
theorem Cut.ginj (h:Cut P P' q i j n m){x y:Nat}(hx:x<nsN P)(hy:y<nsN P)(e:gS P P' q i n x=gS P P' q i n y):x=y:=by
  have hq:=h.hq
  obtain ⟨t,b,h1,h2,rfl⟩:=off_loc hx
  obtain ⟨u,c,h3,h4,rfl⟩:=off_loc hy
  obtain ⟨t',b',g1,g2,g3,g4,g5,g6⟩:=h.loc h1 h2
  obtain ⟨u',c',f1,f2,f3,f4,f5,f6⟩:=h.loc h3 h4
  rw [g3,f3] at e
  obtain ⟨e1,e2⟩:=off_inj g2 f2 e
  have key:t=u∧b=c:=by
    rcases g6 with ⟨p1,p2,p3⟩ | ⟨p1,p2,p3,p4⟩ | ⟨p1,p2,p3,p4⟩<;>rcases f6 with ⟨r1,r2,r3⟩ | ⟨r1,r2,r3,r4⟩ | ⟨r1,r2,r3,r4⟩
    · omega
    · omega
    · omega
    · omega
    · subst p1;subst r1;exact ⟨rfl,stp_inj h.hi h2 h4 (by omega)⟩
    · omega
    · omega
    · omega
    · subst p1;subst r1;exact ⟨rfl,stp_inj h.hi h2 h4 (by omega)⟩
  rw [key.1,key.2]
theorem splP_get {P:List Pc}(ht:t<P.length):(splP P q i j ln an).getD t default=if t=q then h1P (P.getD q default) i j ln an else P.getD t default:=by
  unfold splP
  rw [getD_lt (by simpa using ht)]
  by_cases hq:q<P.length
  · rw [getD_setP hq]
  · rw [List.set_eq_of_length_le (by omega),if_neg (by omega)]
theorem splP_last {P:List Pc}:(splP P q i j ln an).getD P.length default=h2P (P.getD q default) i j ln an:=by
  unfold splP
  rw [getD_ge (j:=0) (by simp)];rfl
theorem spl_cut (hq:q<P.length)(hi:i<ksN P q)(hj:j<ksN P q)(hij:i≠j):Cut P (splP P q i j ln an) q i j (stp (ksN P q) i j) (stp (ksN P q) j i):=by
  refine ⟨hq,hi,hj,hij,rfl,rfl,by simp [splP],fun t ht hne => ?_,?_,?_⟩
  · unfold ksN;rw [splP_get ht,if_neg hne]
  · unfold ksN;rw [splP_get hq,if_pos rfl];simp [h1P,half,rot_len]
  · unfold ksN;rw [splP_last];simp [h2P,half,rot_len]
theorem mv_at (h:Cut P P' q i j n m){a b:Int}(hs:sdOk P a b=true):sdOk P' (mvP q P.length (ksN P q) i n a b) (mvI q (ksN P q) i n a b)=true∧offN P' (mvP q P.length (ksN P q) i n a b).toNat+(mvI q (ksN P q) i n a b).toNat=gS P P' q i n (offN P a.toNat+b.toNat):=by
  obtain ⟨h1,h2,h3,h4⟩:=sd_ok hs
  obtain ⟨⟨n0,m0⟩,nm⟩:=h.nm
  have hq:=h.hq
  have hl:=h.len
  have k1:=h.k1
  have k2:=h.k2
  rw [gS_at h1 h2]
  unfold mvP mvI sdOk
  by_cases e:a=q
  · have e':a.toNat=q:=by omega
    have hst:stp (ksN P q) i b.toNat<ksN P q:=stp_lt h.hi (by rw [←e'];exact h2)
    rw [if_pos e,if_pos e,if_pos e']
    by_cases e2:stp (ksN P q) i b.toNat<n
    · rw [if_pos e2,if_pos e2,if_pos e2]
      simp only [Int.toNat_natCast,Bool.and_eq_true,decide_eq_true_eq]
      exact ⟨⟨by omega,by rw [k1];omega⟩,trivial⟩
    · rw [if_neg e2,if_neg e2,if_neg e2]
      simp only [Int.toNat_natCast,Bool.and_eq_true,decide_eq_true_eq]
      exact ⟨⟨by omega,by rw [k2];omega⟩,trivial⟩
  · have e':¬a.toNat=q:=by omega
    rw [if_neg e,if_neg e,if_neg e']
    simp only [Bool.and_eq_true,decide_eq_true_eq]
    exact ⟨⟨by omega,by rw [h.ks _ h1 e'];omega⟩,trivial⟩
theorem spl_ln (hq:q<P.length)(hi:i<ksN P q)(hj:j<ksN P q)(hij:i≠j){x:Nat}(hx:x<nsN P):lnN (splP P q i j ln an) (gS P (splP P q i j ln an) q i (stp (ksN P q) i j) x)=lnN P x:=by
  have h:=spl_cut (ln:=ln) (an:=an) hq hi hj hij
  obtain ⟨t,b,h1,h2,rfl⟩:=off_loc hx
  obtain ⟨t',b',g1,g2,g3,g4,g5,g6⟩:=h.loc h1 h2
  rw [g3,ln_at g1 g2,ln_at h1 h2]
  rcases g6 with ⟨p1,p2,p3⟩ | ⟨p1,p2,p3,p4⟩ | ⟨p1,p2,p3,p4⟩
  · subst p2;subst p3
    rw [splP_get h1,if_neg p1]
  · subst p3;subst p1;subst p4
    rw [splP_get hq,if_pos rfl]
    unfold h1P half
    simp only
    rw [getD_lt (by rw [rot_len];exact p2),rot_get (show stp (ksN P t) i b<stp (P.getD t default).s.length i j from p2)]
    show (P.getD t default).s.getD ((i+stp (ksN P t) i b) % ksN P t) 0=_
    rw [stp_at h.hi h2]
  · subst p3;subst p1;subst p4
    rw [splP_last]
    have hr:=stp_rem h.hi h.hj h2 p2
    have hlt:stp (ksN P t) i b-stp (ksN P t) i j<stp (ksN P t) j i:=g5 rfl
    unfold h2P half
    simp only
    rw [getD_lt (by rw [rot_len];exact hlt),rot_get (show stp (ksN P t) i b-stp (ksN P t) i j<stp (P.getD t default).s.length j i from hlt)]
    show (P.getD t default).s.getD ((j+(stp (ksN P t) i b-stp (ksN P t) i j)) % ksN P t) 0=_
    rw [←hr,stp_at h.hj h2]
theorem seam_mk {ease:Int}{pre:List Sm}{s:Sm}(h1:sdOk P s.A s.I=true∧sdOk P s.B s.J=true)(h2:¬(s.A=s.B∧s.I=s.J))(h3:∀t∈pre,usesB t s.A s.I=false∧usesB t s.B s.J=false)(h4:(P.getD s.A.toNat default).s.getD s.I.toNat 0-(P.getD s.B.toNat default).s.getD s.J.toNat 0≤ease∧-((P.getD s.A.toNat default).s.getD s.I.toNat 0-(P.getD s.B.toNat default).s.getD s.J.toNat 0)≤ease):seamE P ease pre s=0:=by
  unfold seamE
  rw [h1.1,h1.2]
  have e1:(decide (s.A=s.B)&&decide (s.I=s.J))=false:=by
    rw [Bool.and_eq_false_iff]
    by_cases g:s.A=s.B
    · exact Or.inr (decide_eq_false fun g2=>h2 ⟨g,g2⟩)
    · exact Or.inl (decide_eq_false g)
  have e2:(pre.any fun t=>usesB t s.A s.I||usesB t s.B s.J)=false:=by
    rw [List.any_eq_false]
    intro t ht
    rw [(h3 t ht).1,(h3 t ht).2];simp
  rw [e1,e2,if_neg (by simp),if_neg (by simp),if_neg (by omega)]
theorem half_ok {p:Pc}{x:Int}{d:Nat}(hp:pieceB p=true)(hi:i<p.s.length)(hd:2≤d∧d≤5)(hln:1≤ln∧ln≤200)(hx:1≤x∧x≤359)(hz:1≤lastZ p i d x∧lastZ p i d x≤359):pieceB (half p i d ln x)=true:=by
  obtain ⟨h1,h2,h3,h4⟩:=piece_ok hp
  have e1:(half p i d ln x).s.length=d+1:=by simp [half,rot_len]
  have e2:(half p i d ln x).a.length=d+1:=by simp [half,rot_len]
  have hrl:(rot p.a p.s.length i d).length=d:=rot_len
  unfold pieceB
  simp only [Bool.and_eq_true,decide_eq_true_eq,List.all_eq_true,List.mem_range]
  refine ⟨by omega,by omega,fun t ht => ?_,?_⟩
  · rw [e1] at ht
    have hm:=h3 ((i+t) % p.s.length) (Nat.mod_lt _ (by omega))
    unfold half
    simp only
    by_cases e:t=d
    · subst e
      rw [getD_ge (j:=0) (by simp [rot_len]),getD_ge (j:=0) (by simp [rot_len])]
      exact ⟨hln,hz⟩
    · rw [getD_lt (by rw [rot_len];omega),getD_lt (by rw [List.length_set,rot_len];omega),rot_get (by omega),getD_setI (by omega),rot_get (by omega)]
      refine ⟨hm.1,?_⟩
      split
      · exact hx
      · exact hm.2
  · rw [e1]
    unfold half lastZ
    simp only
    rw [List.sum_append]
    simp only [List.sum_cons,List.sum_nil]
    omega
structure GoodC (c:Cp)(q i j:Nat)(ln an:Int):Prop where
  ok:CapOk c
  hq:q<c.P.length
  hi:i<ksN c.P q
  hj:j<ksN c.P q
  hB:splB (ksN c.P q) i j ln an=true
  hZ:splZ (c.P.getD q default) i j an=true
  h8:c.P.length≠8
theorem good_of {A I J:Int}(h:splE c A I J ln an=0):∃q i j:Nat,A=q∧I=i∧J=j∧GoodC c q i j ln an:=by
  unfold splE at h
  by_cases h0:capE c=0
  case neg=>rw [if_pos h0] at h;exact absurd h h0
  rw [if_neg (fun g=>g h0)] at h
  cases h1:sdOk c.P A I&&sdOk c.P A J with
  | false=>rw [h1] at h;simp at h
  | true =>
    rw [h1] at h
    cases h2:splB (ksN c.P A.toNat) I.toNat J.toNat ln an&&splZ (c.P.getD A.toNat default) I.toNat J.toNat an with
    | false=>rw [h2] at h;simp at h
    | true =>
      rw [h2] at h
      rw [Bool.and_eq_true] at h1 h2
      obtain ⟨a1,a2,a3,a4⟩:=sd_ok h1.1
      obtain ⟨_,b2,_,b4⟩:=sd_ok h1.2
      refine ⟨A.toNat,I.toNat,J.toNat,by omega,by omega,by omega,capE_ok.1 h0,a1,a2,b2,h2.1,h2.2,fun g => ?_⟩
      rw [g] at h;simp at h
theorem GoodC.ij (h:GoodC c q i j ln an):i≠j∧(2≤stp (ksN c.P q) i j∧2≤stp (ksN c.P q) j i)∧(1≤ln∧ln≤200)∧(1≤an∧an≤359):=by
  have hB:=h.hB
  simp only [splB,decide_eq_true_eq] at hB
  obtain ⟨b1,b2,b3,b4,b5⟩:=hB
  have hi:=h.hi
  have hj:=h.hj
  have p1:=stp_pos hi hj b1
  have p2:=stp_pos hj hi b1.symm
  have a1:=stp_at hi hj
  have a2:=stp_at hj hi
  refine ⟨b1,⟨?_,?_⟩,b4,b5⟩
  · apply Classical.byContradiction
    intro g
    have:stp (ksN c.P q) i j=1:=by omega
    rw [this] at a1;exact b2 a1
  · apply Classical.byContradiction
    intro g
    have:stp (ksN c.P q) j i=1:=by omega
    rw [this] at a2;exact b3 a2
def cutC (c:Cp)(q i j:Nat)(ln an:Int):Cp:=⟨splP c.P q i j ln an,splS c.P c.S q i j,c.e⟩
theorem cutC_eq {A I J:Int}(hA:A=q)(hI:I=i)(hJ:J=j):splC c A I J ln an=cutC c q i j ln an:=by
  subst hA hI hJ;rfl
theorem GoodC.cut (h:GoodC c q i j ln an):Cut c.P (splP c.P q i j ln an) q i j (stp (ksN c.P q) i j) (stp (ksN c.P q) j i):=spl_cut h.hq h.hi h.hj h.ij.1
theorem GoodC.pieces (h:GoodC c q i j ln an):∀t,t<(splP c.P q i j ln an).length→pieceB ((splP c.P q i j ln an).getD t default)=true:=by
  intro t ht
  have hl:=h.cut.len
  have hp:=h.ok.pc q h.hq
  obtain ⟨h1,⟨h2,h3⟩,h4,h5⟩:=h.ij
  have ha:=stp_add h.hi h.hj h1
  have hk:=h.ok.ks h.hq
  have hZ:=h.hZ
  simp only [splZ,decide_eq_true_eq] at hZ
  by_cases e:t=c.P.length
  · subst e
    rw [splP_last]
    have z2:=lastZ_two (x:=an) hp h.hi h.hj h1
    refine half_ok hp h.hj ⟨h3,?_⟩ h4 hZ.2.1 (by rw [z2];exact hZ.2.2)
    show stp (ksN c.P q) j i≤5
    omega
  · rw [splP_get (by omega)]
    split
    · refine half_ok hp h.hi ⟨h2,?_⟩ h4 h5 hZ.1
      show stp (ksN c.P q) i j≤5
      omega
    · exact h.ok.pc t (by omega)
theorem pair_lt {s:Sm}(h1:sdOk P s.A s.I=true∧sdOk P s.B s.J=true):(prS P s).1<nsN P∧(prS P s).2<nsN P:=by
  obtain ⟨a1,a2,a3,a4⟩:=sd_ok h1.1
  obtain ⟨b1,b2,b3,b4⟩:=sd_ok h1.2
  exact ⟨off_lt a1 a2,off_lt b1 b2⟩
theorem uses_of {s:Sm}{a b:Int}(h1:sdOk P s.A s.I=true∧sdOk P s.B s.J=true)(hs:sdOk P a b=true):usesB s a b=true↔(prS P s).1=offN P a.toNat+b.toNat∨(prS P s).2=offN P a.toNat+b.toNat:=by
  obtain ⟨a1,a2,a3,a4⟩:=sd_ok h1.1
  obtain ⟨b1,b2,b3,b4⟩:=sd_ok h1.2
  obtain ⟨c1,c2,c3,c4⟩:=sd_ok hs
  simp only [usesB,Bool.or_eq_true,Bool.and_eq_true,decide_eq_true_eq,prS]
  constructor
  · rintro (⟨e1,e2⟩ | ⟨e1,e2⟩)
    · exact Or.inl (by rw [e1,e2])
    · exact Or.inr (by rw [e1,e2])
  · rintro (e | e)
    · obtain ⟨e1,e2⟩:=off_inj a2 c2 e
      exact Or.inl ⟨by omega,by omega⟩
    · obtain ⟨e1,e2⟩:=off_inj b2 c2 e
      exact Or.inr ⟨by omega,by omega⟩
end
end Go.Proofs.Ytclghkegfpcdpaa.Vm
namespace Go.Proofs.Ytclghkegfpcdpaa.Vm
set_option linter.unusedVariables false
set_option linter.unusedSimpArgs false
attribute [-simp] List.getD_eq_getElem?_getD
section
variable {P P':List Pc}{c:Cp}{q i j n m t b:Nat}{ln an e:Int}
theorem CapOk.sdM (h:CapOk c){s:Sm}(hs:s∈c.S):sdOk c.P s.A s.I=true∧sdOk c.P s.B s.J=true:=by
  obtain ⟨k,hk,hk2⟩:=List.getElem_of_mem hs
  have e:c.S.getD k default=s:=by rw [←hk2,List.getD_eq_getElem?_getD,List.getElem?_eq_getElem hk];rfl
  rw [←e];exact h.smB hk
theorem mv_pair (h:Cut P P' q i j n m){s:Sm}(hs:sdOk P s.A s.I=true∧sdOk P s.B s.J=true) :
    (sdOk P' (mvS q P.length (ksN P q) i n s).A (mvS q P.length (ksN P q) i n s).I=true∧sdOk P' (mvS q P.length (ksN P q) i n s).B (mvS q P.length (ksN P q) i n s).J=true) ∧
      prS P' (mvS q P.length (ksN P q) i n s)=(gS P P' q i n (prS P s).1,gS P P' q i n (prS P s).2):=by
  obtain ⟨a1,a2⟩:=mv_at h hs.1
  obtain ⟨b1,b2⟩:=mv_at h hs.2
  exact ⟨⟨a1,b1⟩,Prod.ext a2 b2⟩
theorem side_ln {a b:Int}(hs:sdOk P a b=true):(P.getD a.toNat default).s.getD b.toNat 0=lnN P (offN P a.toNat+b.toNat):=by
  obtain ⟨a1,a2,_,_⟩:=sd_ok hs
  rw [ln_at a1 a2]
theorem new_pair (h:Cut P P' q i j n m):(sdOk P' (q:Int) (n:Int)=true∧sdOk P' (P.length:Int) (m:Int)=true)∧prS P' ⟨(q:Int),(n:Int),(P.length:Int),(m:Int)⟩=(offN P' q+n,offN P' P.length+m):=by
  have k1:=h.k1
  have k2:=h.k2
  have hl:=h.len
  have hq:=h.hq
  refine ⟨⟨?_,?_⟩,by simp [prS]⟩
  · simp only [sdOk,Bool.and_eq_true,decide_eq_true_eq,Int.toNat_natCast];omega
  · simp only [sdOk,Bool.and_eq_true,decide_eq_true_eq,Int.toNat_natCast];omega
theorem GoodC.lns (h:GoodC c q i j ln an):lnN (splP c.P q i j ln an) (offN (splP c.P q i j ln an) q+stp (ksN c.P q) i j)=ln∧lnN (splP c.P q i j ln an) (offN (splP c.P q i j ln an) c.P.length+stp (ksN c.P q) j i)=ln:=by
  have hc:=h.cut
  have k1:=hc.k1
  have k2:=hc.k2
  have hl:=hc.len
  have hq:=h.hq
  constructor
  · rw [ln_at (by omega) (by omega),splP_get hq,if_pos rfl]
    unfold h1P half
    simp only
    rw [getD_ge (j:=0) (by rw [rot_len];rfl)];rfl
  · rw [ln_at (by omega) (by omega),splP_last]
    unfold h2P half
    simp only
    rw [getD_ge (j:=0) (by rw [rot_len];rfl)];rfl
theorem GoodC.capOk (h:GoodC c q i j ln an):CapOk (cutC c q i j ln an):=by
  have hc:=h.cut
  have hl:=hc.len
  have hq:=h.hq
  have hok:=h.ok
  have hsl:(splS c.P c.S q i j).length=c.S.length+1:=by simp [splS]
  refine ⟨?_,h.pieces,hok.e,fun t ht => ?_⟩
  · have:=hok.np
    have:=h.h8
    show 1≤(splP c.P q i j ln an).length∧(splP c.P q i j ln an).length≤8
    omega
  · show seamE (splP c.P q i j ln an) c.e ((splS c.P c.S q i j).take t) ((splS c.P c.S q i j).getD t default)=0
    have ht:t<(splS c.P c.S q i j).length:=ht
    have hml:(c.S.map (mvS q c.P.length (ksN c.P q) i (stp (ksN c.P q) i j))).length=c.S.length:=by simp
    by_cases e:t=c.S.length
    · subst e
      have e1:(splS c.P c.S q i j).take c.S.length=c.S.map (mvS q c.P.length (ksN c.P q) i (stp (ksN c.P q) i j)):=by
        unfold splS
        rw [List.take_append_of_le_length (by omega),List.take_of_length_le (by omega)]
      have e2:(splS c.P c.S q i j).getD c.S.length default=⟨(q:Int),(stp (ksN c.P q) i j:Int),(c.P.length:Int),(stp (ksN c.P q) j i:Int)⟩:=by
        unfold splS
        rw [getD_ge (j:=0) (by rw [hml];rfl)];rfl
      rw [e1,e2]
      obtain ⟨n1,n2⟩:=new_pair hc
      obtain ⟨l1,l2⟩:=h.lns
      have s1:=side_ln n1.1
      have s2:=side_ln n1.2
      simp only [Int.toNat_natCast] at s1 s2
      refine seam_mk n1 (fun g => ?_) (fun u hu => ?_) ?_
      · have:=g.1;simp only at this;omega
      · obtain ⟨s,hs,rfl⟩:=List.mem_map.1 hu
        have hsd:=hok.sdM hs
        obtain ⟨m1,m2⟩:=mv_pair hc hsd
        obtain ⟨p1,p2⟩:=pair_lt hsd
        obtain ⟨g1,g2,g3⟩:=hc.glt p1
        obtain ⟨f1,f2,f3⟩:=hc.glt p2
        refine ⟨?_,?_⟩
        · rw [Bool.eq_false_iff]
          intro g
          rcases (uses_of m1 n1.1).1 g with g | g
          · rw [m2] at g;simp only [Int.toNat_natCast] at g;exact g2 g
          · rw [m2] at g;simp only [Int.toNat_natCast] at g;exact f2 g
        · rw [Bool.eq_false_iff]
          intro g
          rcases (uses_of m1 n1.2).1 g with g | g
          · rw [m2] at g;simp only [Int.toNat_natCast] at g;exact g3 g
          · rw [m2] at g;simp only [Int.toNat_natCast] at g;exact f3 g
      · simp only [Int.toNat_natCast]
        rw [s1,s2,l1,l2]
        have:=hok.e
        omega
    · have htl:t<c.S.length:=by omega
      have e1:(splS c.P c.S q i j).take t=(c.S.take t).map (mvS q c.P.length (ksN c.P q) i (stp (ksN c.P q) i j)):=by
        unfold splS
        rw [List.take_append_of_le_length (by omega),List.map_take]
      have e2:(splS c.P c.S q i j).getD t default=mvS q c.P.length (ksN c.P q) i (stp (ksN c.P q) i j) (c.S.getD t default):=by
        unfold splS
        rw [getD_lt (by omega)]
        simp [List.getD_eq_getElem?_getD,htl]
      rw [e1,e2]
      obtain ⟨o1,o2,o3,o4⟩:=seam_ok (hok.sm t htl)
      have hsd:=hok.smB htl
      generalize hs0:c.S.getD t default=s at *
      obtain ⟨m1,m2⟩:=mv_pair hc hsd
      obtain ⟨p1,p2⟩:=pair_lt hsd
      have x1:offN (splP c.P q i j ln an) (mvS q c.P.length (ksN c.P q) i (stp (ksN c.P q) i j) s).A.toNat+(mvS q c.P.length (ksN c.P q) i (stp (ksN c.P q) i j) s).I.toNat=gS c.P (splP c.P q i j ln an) q i (stp (ksN c.P q) i j) (prS c.P s).1:=congrArg Prod.fst m2
      have x2:offN (splP c.P q i j ln an) (mvS q c.P.length (ksN c.P q) i (stp (ksN c.P q) i j) s).B.toNat+(mvS q c.P.length (ksN c.P q) i (stp (ksN c.P q) i j) s).J.toNat=gS c.P (splP c.P q i j ln an) q i (stp (ksN c.P q) i j) (prS c.P s).2:=congrArg Prod.snd m2
      obtain ⟨a1,a2,a3,a4⟩:=sd_ok hsd.1
      obtain ⟨b1,b2,b3,b4⟩:=sd_ok hsd.2
      refine seam_mk m1 (fun g => ?_) (fun u hu => ?_) ?_
      · have:gS c.P (splP c.P q i j ln an) q i (stp (ksN c.P q) i j) (prS c.P s).1=gS c.P (splP c.P q i j ln an) q i (stp (ksN c.P q) i j) (prS c.P s).2:=by rw [←x1,←x2,g.1,g.2]
        have:=hc.ginj p1 p2 this
        obtain ⟨y1,y2⟩:=off_inj a2 b2 this
        exact o2 ⟨by omega,by omega⟩
      · obtain ⟨w,hw,rfl⟩:=List.mem_map.1 hu
        have hwd:=hok.sdM (List.mem_of_mem_take hw)
        obtain ⟨w1,w2⟩:=mv_pair hc hwd
        obtain ⟨r1,r2⟩:=pair_lt hwd
        obtain ⟨u1,u2⟩:=o3 w hw
        refine ⟨?_,?_⟩
        · rw [Bool.eq_false_iff]
          intro g
          rw [uses_of w1 m1.1,x1,w2] at g
          have:usesB w s.A s.I=true:=(uses_of hwd hsd.1).2 (g.imp (fun g=>hc.ginj r1 p1 g) fun g=>hc.ginj r2 p1 g)
          rw [u1] at this;cases this
        · rw [Bool.eq_false_iff]
          intro g
          rw [uses_of w1 m1.2,x2,w2] at g
          have:usesB w s.B s.J=true:=(uses_of hwd hsd.2).2 (g.imp (fun g=>hc.ginj r1 p2 g) fun g=>hc.ginj r2 p2 g)
          rw [u2] at this;cases this
      · rw [side_ln m1.1,side_ln m1.2,x1,x2,spl_ln hq h.hi h.hj h.ij.1 p1,spl_ln hq h.hi h.hj h.ij.1 p2]
        rw [side_ln hsd.1,side_ln hsd.2] at o4
        exact o4
theorem GoodC.ls (h:GoodC c q i j ln an):lsN (cutC c q i j ln an)=(offN (splP c.P q i j ln an) q+stp (ksN c.P q) i j,offN (splP c.P q i j ln an) c.P.length+stp (ksN c.P q) j i) :: (lsN c).map fun s=>(gS c.P (splP c.P q i j ln an) q i (stp (ksN c.P q) i j) s.1,gS c.P (splP c.P q i j ln an) q i (stp (ksN c.P q) i j) s.2):=by
  have hc:=h.cut
  unfold lsN cutC prL splS
  simp only
  rw [List.map_append,List.reverse_append,List.map_map,List.map_reverse,List.map_map]
  simp only [List.map_cons,List.map_nil,List.reverse_cons,List.reverse_nil,List.nil_append,List.cons_append]
  rw [(new_pair hc).2]
  have:List.map (prS (splP c.P q i j ln an)∘mvS q c.P.length (ksN c.P q) i (stp (ksN c.P q) i j)) c.S=List.map ((fun s=>(gS c.P (splP c.P q i j ln an) q i (stp (ksN c.P q) i j) s.1,gS c.P (splP c.P q i j ln an) q i (stp (ksN c.P q) i j) s.2))∘prS c.P) c.S :=
    List.map_congr_left fun s hs=>(mv_pair hc (h.ok.sdM hs)).2
  rw [this]
theorem GoodC.spl (h:GoodC c q i j ln an):SplR (nsN c.P) (nxN c.P) (pcN c.P) (lsN c) (nsN (splP c.P q i j ln an)) (nxN (splP c.P q i j ln an)) (pcN (splP c.P q i j ln an)) (lsN (cutC c q i j ln an)) (gS c.P (splP c.P q i j ln an) q i (stp (ksN c.P q) i j)) (offN (splP c.P q i j ln an) q+stp (ksN c.P q) i j) (offN (splP c.P q i j ln an) c.P.length+stp (ksN c.P q) j i) (offN c.P q+i) (offN c.P q+j) :=
  h.cut.spl h.ok.sm_ok h.capOk.sm_ok h.ls
theorem GoodC.keeps (h:GoodC c q i j ln an):partP (cutC c q i j ln an)=partP c∧eulP (cutC c q i j ln an)=eulP c∧missP (cutC c q i j ln an)=missP c∧handP (cutC c q i j ln an)=handP c∧(hairP (cutC c q i j ln an)).Perm (hairP c):=by
  have hs:=h.spl
  have hc:=h.cut
  have hok:=h.ok
  have hok2:=h.capOk
  have hl:=hc.len
  have hq:=h.hq
  have k1:=hc.k1
  have k2:=hc.k2
  have e1:cycP (cutC c q i j ln an)=cycP c:=hs.cls
  have e2:(hairP (cutC c q i j ln an)).Perm (hairP c):=hs.hair fun x hx=>spl_ln hq h.hi h.hj h.ij.1 hx
  have e3:(loopP (cutC c q i j ln an)).length=(loopP c).length:=by
    have:=e2.length_eq
    simpa [hairP] using this
  have e4:partP (cutC c q i j ln an)=partP c:=by
    have:=hs.parts (P:=c.P.length) (q:=q) (ρ:=id) hq (fun x hx=>pc_lt hx) (fun x hx => ?_) (pc_at (by omega) (by omega)) (pc_at (by omega) (by omega))
    · unfold partP
      rw [←this]
      show nCls (prtE (pcN (splP c.P q i j ln an)) (lsN (cutC c q i j ln an))) (splP c.P q i j ln an).length=_
      rw [hl]
    · obtain ⟨t,b,h1,h2,rfl⟩:=off_loc hx
      obtain ⟨t',b',g1,g2,g3,g4,g5,g6⟩:=hc.loc h1 h2
      rw [g3,pc_at g1 g2,pc_at h1 h2]
      rcases g6 with ⟨p1,p2,p3⟩ | ⟨p1,p2,p3,p4⟩ | ⟨p1,p2,p3,p4⟩
      · exact Or.inl p2
      · exact Or.inl (by omega)
      · exact Or.inr ⟨p1,p3⟩
  have e5:eulP (cutC c q i j ln an)=eulP c:=by
    rw [euler_cyc hok,euler_cyc hok2,e1,e3]
    have a1:(cutC c q i j ln an).P.length=c.P.length+1:=hl
    have a2:(cutC c q i j ln an).S.length=c.S.length+1:=by simp [cutC,splS]
    rw [a1,a2];omega
  refine ⟨e4,e5,by rw [miss_euler hok,miss_euler hok2,e5],?_,e2⟩
  unfold handP
  rw [e4,e5,e3]
end
end Go.Proofs.Ytclghkegfpcdpaa.Vm
namespace Go.Proofs.Ytclghkegfpcdpaa.Vm
open Go
set_option maxRecDepth 100000
set_option maxHeartbeats 1000000
set_option linter.unusedSimpArgs false
set_option linter.unusedVariables false
attribute [-simp] List.getD_eq_getElem?_getD
def SplitSays:Prop:=∀{lim:Nat} {H:Hp} {K:V→Hp→Prop} {c:Cp} {ws:List V} {A i j ln an:Int},I64 A→I64 i→I64 j→CapV H ws c→ShortC c→lim≤H.length→(∀H' ws',HX H H'→CapV H' ws' (if splE c A i j ln an=0 then splC c A i j ln an else zCap)→K (.tup [.agg ws',.int .i64 (splE c A i j ln an)]) H')→VCall tbl lim 41 [.agg ws,.int .i64 A,.int .i64 i,.int .i64 j,.int .i64 ln,.int .i64 an] H K
section
variable {n lim:Nat}{H H' H1:Hp}{K:V→Hp→Prop}{v pv sv a b u w:V}{ps:List (V×V)}{P:List Pc}{S:List Sm}{e:Int}{ws:List V}{c d:Cp}{l m:List Int}
theorem spl_bd {A i j ln an:Int}(hsh:ShortC c):(if splE c A i j ln an=0 then splC c A i j ln an else zCap).P.length≤1000000∧(if splE c A i j ln an=0 then splC c A i j ln an else zCap).S.length≤1000000∧∀q,q<(if splE c A i j ln an=0 then splC c A i j ln an else zCap).P.length→((if splE c A i j ln an=0 then splC c A i j ln an else zCap).P.getD q default).s.length≤1000000∧((if splE c A i j ln an=0 then splC c A i j ln an else zCap).P.getD q default).a.length≤1000000:=by
  have s2:=hsh.ns
  split
  · rename_i h0
    obtain ⟨q,i',j',e1,e2,e3,hg⟩:=good_of h0
    rw [cutC_eq e1 e2 e3]
    have hk:=hg.capOk
    have h1:=hk.np
    refine ⟨by omega,by simp [cutC,splS];omega,fun t ht => ?_⟩
    obtain ⟨g1,g2,_,_⟩:=piece_ok (hk.pc t ht)
    omega
  · exact ⟨by simp [zCap],by simp [zCap],fun q hq=>by simp [zCap] at hq⟩
def swpI (l:List Int)(i j:Nat):List Int:=(l.set i (l.getD j 0)).set j (l.getD i 0)
theorem swpI_perm {i j:Nat}(hi:i<l.length)(hj:j<l.length):(swpI l i j).Perm l:=by
  have:=List.set_set_perm hi hj
  unfold swpI
  rw [List.getD_eq_getElem?_getD,List.getD_eq_getElem?_getD,List.getElem?_eq_getElem hi,List.getElem?_eq_getElem hj]
  exact this
theorem swpI_get {i j t:Nat}(hi:i<l.length)(hj:j<l.length):(swpI l i j).getD t 0=if t=j then l.getD i 0 else if t=i then l.getD j 0 else l.getD t 0:=by
  unfold swpI
  rw [getD_setI (by simpa using hj),getD_setI hi]
theorem l02_sorted (hv:SlV H a l) (hlim:lim≤H.length) (hl:l.length≤1000) (hK:∀H' v m,HX H H'→OwnV H.length H' v m→m.Perm l→(m.Pairwise fun a b=>a≤b)→K v H'):VCall tbl lim 43 [a] H K:=by
  refine VCall_fn tbl_at43 rfl ?_
  simp [vf43,hv.stor]
  refine ref01_CopyInts hv hlim hl fun H1 v x1 o1 => ?_
  replace x1:HX H H1:=x1
  simp
  refine wLoop_up l.length (fun i fr L H'=>∃m,(fr 3=v∧fr 4=.int .i64 i)∧L=[]∧HX H H'∧OwnV H.length H' v m∧m.Perm l∧∀a b,a<b→b<i→m.getD a 0≤m.getD b 0) ⟨l,by simp,by simp,x1,o1,List.Perm.refl _,fun a b _ h=>by omega⟩ ?_
  rintro i hi fr L H2 ⟨m,⟨f3,f4⟩,rfl,x2,o2,pm,hs⟩
  have hml:m.length=l.length:=pm.length_eq
  have hvl:vlenS v=some (.int .i64 l.length):=by rw [o2.sl.len,hml]
  simp [f3,f4,hvl]
  refine cond_dec (fun ht => ?_) fun hfl => ?_
  · have ht : i<l.length:=by omega
    simp [f3,f4]
    refine wLoop_up i (fun j fr L H'=>∃m,(fr 3=v∧fr 4=.int .i64 i∧fr 5=.int .i64 j)∧L=[]∧HX H H'∧OwnV H.length H' v m∧m.Perm l∧(∀a b,a<b→b<i→m.getD a 0≤m.getD b 0)∧∀a,a<j→m.getD a 0≤m.getD i 0) ⟨m,by simp [f3,f4],by simp,x2,o2,pm,hs,fun a h=>by omega⟩ ?_
    clear f3 f4 x2 o2 pm hs hml hvl m fr
    rintro j hj fr L H3 ⟨m,⟨f3,f4,f5⟩,rfl,x3,o3,pm,hs,hs2⟩
    have hml:m.length=l.length:=pm.length_eq
    simp [f3,f4,f5]
    by_cases hjt:j<i
    · have dj : decide (j<i)=true:=decide_eq_true hjt
      have ai:=o3.sl.addr (i:=(i:Int)) (by omega)
      have aj:=o3.sl.addr (i:=(j:Int)) (by omega)
      simp only [Int.toNat_natCast] at ai aj
      have li:=fun L=>o3.sl.load (i:=i) (by omega) (L:=L)
      have lj:=fun L=>o3.sl.load (i:=j) (by omega) (L:=L)
      by_cases hlt:m.getD i 0<m.getD j 0
      · have dl:=decide_eq_true hlt
        have st1:=fun L=>o3.store (lim:=lim) (i:=i) (x:=m.getD j 0) (L:=L) ⟨hlim,by omega⟩
        have o4:=o3.put (l':=m.set i (m.getD j 0)) (by simp)
        have st2:=fun L=>o4.store (lim:=lim) (i:=j) (x:=m.getD i 0) (L:=L) ⟨hlim,by simp;omega⟩
        have o5:=o4.put (l':=(m.set i (m.getD j 0)).set j (m.getD i 0)) (by simp)
        have x5:=setH_X (setH_X x3 o3 (Nat.le_refl _) (cs:=ints (m.set i (m.getD j 0)))) o4 (Nat.le_refl _) (cs:=ints ((m.set i (m.getD j 0)).set j (m.getD i 0)))
        have lp:∀k,k<m.length→isLp (ept 1 v k)=false∧isPtr (ept 1 v k)=true:=fun k hk=>by
          obtain ⟨b,e,_⟩:=o3.row_of (by omega)
          rw [e];exact ⟨rfl,rfl⟩
        obtain ⟨u1,u2⟩:=lp i (by omega)
        obtain ⟨u3,u4⟩:=lp j (by omega)
        have hsw:=swpI_perm (l:=m) (i:=i) (j:=j) (by omega) (by omega)
        have hg:=fun t=>swpI_get (l:=m) (i:=i) (j:=j) (t:=t) (by omega) (by omega)
        simp (disch:=omega) [f3,f4,f5,dj,ai,aj,li,lj,dl,st1,st2,u1,u2,u3,u4,-vstore,wrap_i64]
        refine ⟨hjt,x5,_,o5,hsw.trans pm,fun a b hab hb => ?_,fun a ha => ?_⟩
        · show (swpI m i j).getD a 0≤(swpI m i j).getD b 0
          rw [hg,hg]
          by_cases e1:a=j
          · subst e1
            rw [if_pos rfl,if_neg (by omega),if_neg (by omega)]
            have:=hs a b hab hb;omega
          · rw [if_neg e1,if_neg (by omega)]
            by_cases e2:b=j
            · subst e2
              rw [if_pos rfl]
              exact hs2 a hab
            · rw [if_neg e2,if_neg (by omega)];exact hs a b hab hb
        · show (swpI m i j).getD a 0≤(swpI m i j).getD i 0
          rw [hg,hg,if_neg (show ¬i=j by omega),if_pos rfl]
          by_cases e1:a=j
          · rw [if_pos e1];omega
          · rw [if_neg e1,if_neg (by omega)];exact hs a j (by omega) hjt
      · have dl:=decide_eq_false hlt
        simp (disch:=omega) [f3,f4,f5,dj,ai,aj,li,lj,dl,wrap_i64]
        refine ⟨hjt,x3,m,o3,pm,hs,fun a ha => ?_⟩
        by_cases e1:a=j
        · subst e1;omega
        · exact hs2 a (by omega)
    · have hji:j=i:=by omega
      subst hji
      simp (disch:=omega) [f3,f4,f5,wrap_i64]
      refine ⟨ht,x3,m,o3,pm,fun a b hab hb => ?_⟩
      by_cases e1:b=j
      · subst e1;exact hs2 a hab
      · exact hs a b hab (by omega)
  · have:i=l.length:=by omega
    subst this
    simp [f3,f4,o2.sl.stor]
    refine hK H2 v m x2 o2 pm ?_
    rw [List.pairwise_iff_getElem]
    intro a b ha hb hab
    have:=hs a b hab (by omega)
    simpa [List.getD_eq_getElem?_getD,ha,hb] using this
theorem spl_meas {A i j ln an:Int}(h:splE c A i j ln an=0):measL (splC c A i j ln an)=measL c∧(hairP (splC c A i j ln an)).Perm (hairP c)∧capE c=0∧capE (splC c A i j ln an)=0:=by
  obtain ⟨q,i',j',e1,e2,e3,hg⟩:=good_of h
  rw [cutC_eq e1 e2 e3]
  obtain ⟨k1,k2,k3,k4,k5⟩:=hg.keeps
  have c1:=capE_ok.2 hg.ok
  have c2:=capE_ok.2 hg.capOk
  exact ⟨by rw [measL,if_pos c2,measL,if_pos c1,k1,k2,k3,k4],k5,c1,c2⟩
theorem sorted_eq {l m:List Int}(h:l.Perm m)(h1:l.Pairwise fun a b=>a≤b)(h2:m.Pairwise fun a b=>a≤b):l=m :=
  h.eq_of_pairwise (le:=fun a b=>a≤b) (fun a b _ _ h3 h4=>by omega) h1 h2
theorem spl_CapSplitKeeps {n0 n1 n2 n3 n4:Int}(hS:SplitSays)(ha:CapA H ws c)(hlim:lim≤H.length)(i0:I64 n0)(i1:I64 n1)(i2:I64 n2)(i3:I64 n3)(i4:I64 n4)(hK:∀H',K (.bool true) H'):VCall tbl lim 12 [.agg ws,.agg [.int .i64 n0,.int .i64 n1,.int .i64 n2,.int .i64 n3,.int .i64 n4]] H K:=by
  have hc:=ha.cap
  obtain ⟨pv,sv,ps,rfl,hp,hs,z1,z2,z3,z4⟩:=hc.form
  have r4:∀{x y z u w:V},rd none [x,y,z,u,w] 4=some w:=fun {x y z u w}=>Eq.trans rfl rfl
  refine VCall_fn tbl_at12 rfl ?_
  simp [vf12,z1,z2,z3,z4,rdA3]
  refine l02_Long hc ?_
  cases hl:longB c with
  | true =>
    simp
    refine cp_known hlim fun H' _ => ?_
    simp
    exact hK _
  | false =>
  have hsh:=short_of hl
  have s2:=hsh.ns
  have hbd:=spl_bd (A:=n0) (i:=n1) (j:=n2) (ln:=n3) (an:=n4) hsh
  simp [rdA3,rd0,rd1',rd2',rd3',r4,z1,z2,z3,z4,splice]
  refine hS i0 i1 i2 hc hsh hlim fun H2 ws2 x2 o2 => ?_
  replace x2:HX H H2:=x2
  have l2:=x2.len
  obtain ⟨A,hA⟩:∃A,A=(if splE c n0 n1 n2 n3 n4=0 then splC c n0 n1 n2 n3 n4 else zCap):=⟨_,rfl⟩
  rw [←hA] at o2 hbd
  obtain ⟨pv2,sv2,ps2,rfl,hp2,hs2,y1,y2,y3,y4⟩:=o2.form
  have hvl:=hp2.vlen
  by_cases he:splE c n0 n1 n2 n3 n4=0
  case neg =>
    rw [if_neg he] at hA
    have hvl:vlenS pv2=some (.int .i64 0):=by rw [hvl,hA];rfl
    simp [he,y1,y2,y3,y4,splice,rd0,hvl]
    refine cp_known (by omega) fun H8 _ => ?_
    simp
    exact hK _
  rw [if_pos he] at hA
  obtain ⟨b1,b2,b3,b4⟩:=spl_meas he
  rw [←hA] at b1 b2 b4
  have hSA:A.S.length≤1000000:=hbd.2.1
  have hok:=capE_ok.1 b3
  have hokA:=capE_ok.1 b4
  simp [he,rdA3,y1,y2,y3,y4,z1,z2,z3,z4,splice]
  refine surf_Hairline (hc.mono x2) (by omega) (by omega) fun H4 v4 x4 o4 _ => ?_
  replace x4:HX H2 H4:=x4
  have l4:=x4.len
  replace o4:=o4 b3
  rw [b3]
  simp [rdA3,y1,y2,y3,y4]
  refine surf_Hairline (o2.mono x4) hSA (by omega) fun H5 v5 x5 o5 _ => ?_
  replace x5:HX H4 H5:=x5
  have l5:=x5.len
  replace o5:=o5 b4
  rw [b4]
  simp [rdA3,y1,y2,y3,y4]
  refine surf_Validate (o2.mono (x4.trans x5)) hSA (by omega) fun H6 x6 => ?_
  replace x6:HX H5 H6:=x6
  have l6:=x6.len
  rw [b4]
  simp [rdA3,y1,y2,y3,y4]
  refine l02_measure (o2.mono ((x4.trans x5).trans x6)) hSA (by omega) fun H7 x7 => ?_
  replace x7:HX H6 H7:=x7
  have l7:=x7.len
  rw [b1]
  simp [rdA3,z1,z2,z3,z4]
  refine l02_measure (hc.mono (((x2.trans x4).trans x5).trans (x6.trans x7))) (by omega) (by omega) fun H8 x8 => ?_
  replace x8:HX H7 H8:=x8
  have l8:=x8.len
  have m1:measL c=[.int .i64 (partP c),.int .i64 (eulP c),.int .i64 (missP c),.int .i64 (handP c),.int .i64 0]:=by rw [measL,if_pos b3]
  have hh:(hairP c).length≤1000:=by
    have e1:(hairP c).length=(loopP c).length:=by simp [hairP]
    have e2:=loop_le (c:=c)
    have e3:=hok.ns
    omega
  rw [m1]
  simp [veqA_5r,o4.sl.stor,o5.sl.stor]
  refine l02_sorted ((o4.sl.mono ((x5.trans x6).trans (x7.trans x8)))) (by omega) hh fun H9 v9 m9 x9 o9 p9 q9 => ?_
  replace x9:HX H8 H9:=x9
  have l9:=x9.len
  simp [o4.sl.stor,o5.sl.stor]
  refine l02_sorted (o5.sl.mono ((x6.trans x7).trans (x8.trans x9))) (by omega) (by rw [b2.length_eq];exact hh) fun H10 v10 m10 x10 o10 p10 q10 => ?_
  replace x10:HX H9 H10:=x10
  have l10:=x10.len
  have heq:m9=m10:=sorted_eq (p9.trans (b2.symm.trans p10.symm)) q9 q10
  subst heq
  simp [o9.sl.stor,o10.sl.stor]
  refine ref01_SameInts (o9.sl.mono x10) o10.sl (by rw [p9.length_eq];omega) ?_
  simp
  refine cp_known (by omega) fun H11 _ => ?_
  simp
  exact hK _
theorem splitSays:SplitSays:=fun iA ii ij hc hsh hlim hK=>surf_Split iA ii ij hc hsh hlim hK
theorem law_CapSplitKeeps {n0 n1 n2 n3 n4:Int}(ha:CapA H ws c)(hlim:lim≤H.length)(i0:I64 n0)(i1:I64 n1)(i2:I64 n2)(i3:I64 n3)(i4:I64 n4)(hK:∀H',K (.bool true) H'):VCall tbl lim 12 [.agg ws,.agg [.int .i64 n0,.int .i64 n1,.int .i64 n2,.int .i64 n3,.int .i64 n4]] H K:=spl_CapSplitKeeps splitSays ha hlim i0 i1 i2 i3 i4 hK
end
end Go.Proofs.Ytclghkegfpcdpaa.Vm
