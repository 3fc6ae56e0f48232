/- Caps as arguments; CapCorners. -/
import Derived.Test.YtclghkegfpcdpaaQCapSplitsA
namespace Go.Proofs.Ytclghkegfpcdpaa.Vm
open Go
set_option maxRecDepth 100000
set_option maxHeartbeats 1000000
set_option linter.unusedSimpArgs false
set_option linter.unusedVariables false
attribute [-simp] List.getD_eq_getElem?_getD
structure CapA (H:Hp)(ws:List V)(c:Cp):Prop where
  cap:CapV H ws c
theorem pick_pcs {H:Hp}:∀{ps:List (V×V)},(∀p∈ps,∃c:Pc,SlV H p.1 c.s∧SlV H p.2 c.a)→∃pcs:List Pc,ps.length=pcs.length∧∀i,i<pcs.length→SlV H (ps.getD i default).1 (pcs.getD i default).s∧SlV H (ps.getD i default).2 (pcs.getD i default).a
  | [],_=>⟨[],rfl,fun i hi=>by simp at hi⟩
  | p :: ps,h=>by
    obtain ⟨c,h1,h2⟩:=h p (by simp)
    obtain ⟨pcs,h3,h4⟩:=pick_pcs (ps:=ps) fun q hq=>h q (List.mem_cons_of_mem _ hq)
    refine ⟨c :: pcs,by simp [h3],fun i hi => ?_⟩
    cases i with
    | zero=>exact ⟨h1,h2⟩
    | succ i=>exact h4 i (by simpa using hi)
theorem cap_of {H:Hp}{ws:List V}{ds:List CD}(h:RepTs H [.sl [cInts,cInts],.sl [cInt,cInt,cInt,cInt],cInt] ws ds):∃c,CapA H ws c:=by
  obtain ⟨v0,u0,_,_,rfl,_,p0,q0⟩:=reps_cons h
  obtain ⟨v1,u1,_,_,rfl,_,p1,q1⟩:=reps_cons q0
  obtain ⟨v2,u2,_,_,rfl,_,p2,q2⟩:=reps_cons q1
  have e:=reps_nil q2
  subst e
  obtain ⟨n,rfl,_⟩:=int_of p2
  obtain ⟨l1,h1,hl,hall⟩:=lst_of (c:=pvC) rfl (fun z=>∃c:Pc,SlV H z.1 c.s∧SlV H z.2 c.a) (fun vs ds h=>by
    obtain ⟨v0,u0,_,_,rfl,_,p0,q0⟩:=reps_cons h
    obtain ⟨v1,u1,_,_,rfl,_,p1,q1⟩:=reps_cons q0
    have e:=reps_nil q1
    subst e
    obtain ⟨l0,g0,_,_⟩:=ints_of p0
    obtain ⟨l1,g1,_,_⟩:=ints_of p1
    exact ⟨(v0,v1),rfl,⟨l0,l1⟩,g0,g1⟩) p0
  obtain ⟨l2,h2,_,_⟩:=lst_of (c:=smC) rfl (fun z=>True) (fun vs ds h=>by
    obtain ⟨v0,u0,_,_,rfl,_,p0,q0⟩:=reps_cons h
    obtain ⟨v1,u1,_,_,rfl,_,p1,q1⟩:=reps_cons q0
    obtain ⟨v2,u2,_,_,rfl,_,p2,q2⟩:=reps_cons q1
    obtain ⟨v3,u3,_,_,rfl,_,p3,q3⟩:=reps_cons q2
    have e:=reps_nil q3
    subst e
    obtain ⟨n0,rfl,c0⟩:=int_of p0
    obtain ⟨n1,rfl,c1⟩:=int_of p1
    obtain ⟨n2,rfl,c2⟩:=int_of p2
    obtain ⟨n3,rfl,c3⟩:=int_of p3
    exact ⟨⟨n0,n1,n2,n3⟩,rfl,trivial⟩) p1
  obtain ⟨pcs,g1,g2⟩:=pick_pcs hall
  exact ⟨⟨pcs,l2,n⟩,⟨.mk ⟨h1,g1,g2⟩ h2⟩⟩
def boolL (l:List Bool):List V:=l.map V.bool
section
variable {n lim:Nat}{H H' H1:Hp}{K:V→Hp→Prop}{ws:List V}{c:Cp}{b x:Nat}{el:List Bool}{il:List Int}{own:Bool}
def upTo (q:List (List Nat))(i k:Nat):List Nat:=(q.take i).flatten++(q.getD i []).take k
noncomputable def ptQ (c:Cp):List (List Nat):=(ptsP c).map (·.cs)
def outN (c:Cp)(l:List Nat)(k:Nat):Nat:=((l.take k).filter (freeN (lsN c))).length
end
end Go.Proofs.Ytclghkegfpcdpaa.Vm
namespace Go.Proofs.Ytclghkegfpcdpaa.Vm
open Go
set_option maxRecDepth 100000
set_option maxHeartbeats 1000000
set_option linter.unusedSimpArgs false
set_option linter.unusedVariables false
attribute [-simp] List.getD_eq_getElem?_getD
def zCap:Cp:=⟨[],[],0⟩
def sewC (c:Cp)(s:Sm):Cp:=⟨c.P,c.S++[s],c.e⟩
def unsC (c:Cp)(i:Nat):Cp:=⟨c.P,c.S.take i++c.S.drop (i+1),c.e⟩
def unsE (c:Cp)(i:Int):Int:=if capE c≠0 then capE c else if 0≤i∧i<c.S.length then 0 else 5
section
variable {n lim:Nat}{H H' H1:Hp}{K:V→Hp→Prop}{v pv sv a b:V}{ps:List (V×V)}{P:List Pc}{S:List Sm}{e:Int}{ws:List V}{c d:Cp}
theorem zCapV {m:Nat}{H:Hp}:OCapV m H [.snil,.snil,.int .i64 0] zCap:=.mk OPcsV.nil .nil (fun b o z y o' z' y' e _=>by cases e) fun i hi=>by simp at hi
theorem vapp_e {y:V}{l:List Int}(hy:SlV H y l)(hlim:lim≤H.length)(hl:l.length≤1000):∃v' H',vappend lim 1 8 (H++[.row [] true]) (.sl H.length 0 0 1) y=some (v',H')∧OwnV H.length H' v' l∧HX H H':=by
  have hy2:=hy.mono (H':=H++[.row [] true]) HX.push
  refine ⟨.sl (H.length+1) 0 l.length 1,(H++[Blk.row [] true]).set H.length .dead++[.row (ints l) true],?_,.row (by omega) ?_,?_⟩
  · simp [vappend,hy2.cells,hy2.len,hlim,show l.length*8≤140737488355328 by omega,show l.length<4611686018427387904 by omega]
  · have:H.length+1=((H++[Blk.row [] true]).set H.length .dead).length:=by simp
    rw [this];exact List.getElem?_concat_length
  · refine HX.of (by simp<;>omega) fun i hi => ?_
    rw [List.getElem?_append_left (by simp;omega),List.getElem?_set_ne (by omega),List.getElem?_append_left hi]
theorem vapp_t {α:Type}{k:Nat}{c:Cod α k}{y:V}{l:List α}{bytes:Nat}(hy:LstV c H y l)(hlim:lim≤H.length)(hl:l.length≤1000)(hb:bytes≤1000):∃v' H',vappend lim k bytes (H++[.row [] true]) (.sl H.length 0 0 k) y=some (v',H')∧OwnT H.length c H' v' l∧HX H H':=by
  have hy2:=hy.mono (H':=H++[.row [] true]) HX.push
  have hm:l.length*bytes≤1000*1000:=Nat.mul_le_mul hl hb
  refine ⟨.sl (H.length+1) 0 l.length k,(H++[Blk.row [] true]).set H.length .dead++[.row (c.all l) true],?_,.row (by omega) ?_,?_⟩
  · simp [vappend,hy2.cells,hy2.len,hlim,show l.length*bytes≤140737488355328 by omega,show l.length<4611686018427387904 by omega]
  · have:H.length+1=((H++[Blk.row [] true]).set H.length .dead).length:=by simp
    rw [this];exact List.getElem?_concat_length
  · refine HX.of (by simp<;>omega) fun i hi => ?_
    rw [List.getElem?_append_left (by simp;omega),List.getElem?_set_ne (by omega),List.getElem?_append_left hi]
theorem clone_ints {l:List Int}(hv:SlV H v l)(hlim:lim≤H.length)(hl:l.length≤1000)(hK:∀H' v',HX H H'→OwnV H.length H' v' l→K v' H'):VCall tbl lim 94 [v] H K:=by
  refine VCall_fn tbl_at94 rfl ?_
  obtain ⟨v',H',a1,a2,a3⟩:=vapp_e (lim:=lim) hv hlim hl
  cases hv with
  | nil =>
    simp [vf94]
    exact hK _ _ .refl .nil
  | empty =>
    simp [vf94,a1,a2.sl.stor]
    exact hK _ _ a3 a2
  | sl h1 h2 h3 =>
    simp [vf94,a1,a2.sl.stor]
    exact hK _ _ a3 a2
theorem clone_sms {l:List Sm}(hv:LstV smC H v l)(hlim:lim≤H.length)(hl:l.length≤1000)(hK:∀H' v',HX H H'→OwnT H.length smC H' v' l→K v' H'):VCall tbl lim 93 [v] H K:=by
  refine VCall_fn tbl_at93 rfl ?_
  obtain ⟨v',H',a1,a2,a3⟩:=vapp_t (lim:=lim) (bytes:=32) hv hlim hl (by omega)
  cases hv with
  | nil =>
    simp [vf93]
    exact hK _ _ .refl .nil
  | empty =>
    simp [vf93,a1,a2.lst.stor]
    exact hK _ _ a3 a2
  | sl h1 h2 h3 =>
    simp [vf93,a1,a2.lst.stor]
    exact hK _ _ a3 a2
end
end Go.Proofs.Ytclghkegfpcdpaa.Vm
namespace Go.Proofs.Ytclghkegfpcdpaa.Vm
open Go
set_option maxRecDepth 100000
set_option maxHeartbeats 1000000
set_option linter.unusedSimpArgs false
set_option linter.unusedVariables false
attribute [-simp] List.getD_eq_getElem?_getD
section
variable {n lim:Nat}{H H' H1:Hp}{K:V→Hp→Prop}{v pv sv a b u:V}{ps:List (V×V)}{P:List Pc}{S:List Sm}{e:Int}{ws:List V}{c d:Cp}
theorem OCapV.parts (h:OCapV n H ws c):∃pv sv ps,ws=[pv,sv,.int .i64 c.e]∧OPcsV n H pv ps c.P∧OwnT n smC H sv c.S∧(∀b o z y o' z' y',pv=.sl b o z y→sv=.sl b o' z' y'→False)∧∀i,i<c.P.length→∀b o z y o' z' y',sv=.sl b o z y→((ps.getD i default).1=.sl b o' z' y'∨(ps.getD i default).2=.sl b o' z' y')→False:=by
  cases h with
  | mk h1 h2 h3 h4=>exact ⟨_,_,_,rfl,h1,h2,h3,h4⟩
theorem OCapV.seams {sv':V}{S':List Sm}(h:OCapV n H [pv,sv,.int .i64 e] ⟨P,S,e⟩)(hl:LstV smC H' sv' S')(hk:∀b,(∀o z y,sv≠.sl b o z y)→H'[b]? = H[b]?):CapV H' [pv,sv',.int .i64 e] ⟨P,S',e⟩:=by
  cases h with
  | mk h1 h2 h3 h4 =>
  rename_i ps
  refine .mk (OPcsV.pcsV (n:=n) (h1.keepB (fun b o m z g=>hk b fun o' z' y' g'=>h3 _ _ _ _ _ _ _ g g') fun i hi b o m z g=>hk b fun o' z' y' g'=>h4 i hi _ _ _ _ _ _ _ g' g)) hl
end
end Go.Proofs.Ytclghkegfpcdpaa.Vm
namespace Go.Proofs.Ytclghkegfpcdpaa.Vm
open Go
set_option maxRecDepth 100000
set_option maxHeartbeats 1000000
set_option linter.unusedSimpArgs false
set_option linter.unusedVariables false
attribute [-simp] List.getD_eq_getElem?_getD
section
variable {n lim:Nat}{H H' H1:Hp}{K:V→Hp→Prop}{v pv sv a b u:V}{ps:List (V×V)}{P:List Pc}{S:List Sm}{e:Int}{ws:List V}{c d:Cp}
noncomputable def measL (c:Cp):List V:=if capE c=0 then [.int .i64 (partP c),.int .i64 (eulP c),.int .i64 (missP c),.int .i64 (handP c),.int .i64 0] else [.int .i64 0,.int .i64 0,.int .i64 0,.int .i64 0,.int .i64 (capE c)]
structure WrS (m:Nat)(H0:Hp)(pv:V)(ps:List (V×V))(P:List Pc)(H:Hp):Prop where
  hx:HX H0 H
  hm:H0.length≤m
  own:OwnT m pvC H pv ps
  len:ps.length=P.length
  ol:∀i,i<P.length→OwnL m H (ps.getD i default).1 (P.getD i default).s.length
  ap:∀i,i<P.length→∀b o z y o' z' y',pv=.sl b o z y→(ps.getD i default).1=.sl b o' z' y'→False
theorem WrS.write {m:Nat}{H0:Hp}(h:WrS m H0 pv ps P H){i k:Nat}(hi:i<P.length)(hk:k<(P.getD i default).s.length)(hlim:lim≤m):∃H',(∀L,vstore lim L H (ept 1 (ps.getD i default).1 k) (.int .i64 (-1)) 1=some (L,H'))∧WrS m H0 pv ps P H':=by
  obtain ⟨l,hl,ho⟩:=h.ol i hi
  refine ⟨setH H (ps.getD i default).1 (ints (l.set k (-1))),fun L=>ho.store ⟨hlim,by omega⟩,setH_X h.hx ho h.hm,h.hm,h.own.keepB fun b o z y e => ?_,h.len,fun j hj=>(h.ol j hj).set ho (by simp),h.ap⟩
  cases hq:(ps.getD i default).1 with
  | sl b' o' z' y' =>
    simp only [setH]
    rw [List.getElem?_set_ne]
    rintro rfl
    exact h.ap i hi _ _ _ _ _ _ _ e hq
  | _=>rfl
theorem WrS.vlen {m:Nat}{H0:Hp}(h:WrS m H0 pv ps P H){i:Nat}(hi:i<P.length):vlenS (ps.getD i default).1=some (.int .i64 (P.getD i default).s.length):=by
  obtain ⟨l,hl,ho⟩:=h.ol i hi
  rw [←hl];exact ho.sl.len
theorem WrS.addr {m:Nat}{H0:Hp}(h:WrS m H0 pv ps P H){i k:Nat}(hi:i<P.length)(hk:k<(P.getD i default).s.length):viaddrS 1 (ps.getD i default).1 (.int .i64 (k:Int))=some (ept 1 (ps.getD i default).1 k):=by
  obtain ⟨l,hl,ho⟩:=h.ol i hi
  have:=ho.sl.addr (i:=(k:Int)) (by omega)
  simpa using this
end
end Go.Proofs.Ytclghkegfpcdpaa.Vm
namespace Go.Proofs.Ytclghkegfpcdpaa.Vm
set_option linter.unusedVariables false
set_option linter.unusedSimpArgs false
attribute [-simp] List.getD_eq_getElem?_getD
structure SameS (P P':List Pc):Prop where
  len:P'.length=P.length
  s:∀q,(P'.getD q default).s=(P.getD q default).s
section
variable {P P':List Pc}{c:Cp}
theorem SameS.ks (h:SameS P P'){q:Nat}:ksN P' q=ksN P q:=by unfold ksN;rw [h.s]
theorem SameS.off (h:SameS P P'):∀{q:Nat},offN P' q=offN P q
  | 0=>rfl
  | q+1=>by rw [offN,offN,h.off,h.ks]
theorem SameS.ns (h:SameS P P'):nsN P'=nsN P:=by unfold nsN;rw [h.len,h.off]
theorem bas_out {i:Nat}(h:¬i<nsN P):(basT P P.length).getD i default=default:=by
  rw [List.getD_eq_getElem?_getD,List.getElem?_eq_none (by rw [basT_len];exact Nat.le_of_not_lt h)];rfl
theorem SameS.nx (h:SameS P P'):nxN P'=nxN P:=by
  funext i
  by_cases hi:i<nsN P
  · obtain ⟨q,j,h1,h2,rfl⟩:=off_loc hi
    rw [nx_at h1 h2,←h.off,nx_at (by rw [h.len];exact h1) (by rw [h.ks];exact h2),h.ks]
  · unfold nxN
    rw [bas_out hi,bas_out (by rw [h.ns];exact hi)]
theorem SameS.ln (h:SameS P P'):lnN P'=lnN P:=by
  funext i
  by_cases hi:i<nsN P
  · obtain ⟨q,j,h1,h2,rfl⟩:=off_loc hi
    rw [ln_at h1 h2,←h.off,ln_at (by rw [h.len];exact h1) (by rw [h.ks];exact h2),h.s]
  · unfold lnN
    rw [bas_out hi,bas_out (by rw [h.ns];exact hi)]
theorem SameS.pc (h:SameS P P'):pcN P'=pcN P:=by
  funext i
  by_cases hi:i<nsN P
  · obtain ⟨q,j,h1,h2,rfl⟩:=off_loc hi
    rw [pc_at h1 h2,←h.off,pc_at (by rw [h.len];exact h1) (by rw [h.ks];exact h2)]
  · unfold pcN
    rw [List.getD_eq_getElem?_getD,List.getD_eq_getElem?_getD,List.getElem?_eq_none (by rw [pcT_len];have:=h.ns;unfold nsN at this hi;omega),List.getElem?_eq_none (by rw [pcT_len];unfold nsN at hi;omega)]
theorem SameS.sd (h:SameS P P'):sdOk P'=sdOk P:=by
  funext a i
  unfold sdOk
  rw [h.len,h.ks]
theorem SameS.seam (h:SameS P P'):seamE P'=seamE P:=by
  funext e pre s
  unfold seamE
  rw [h.sd,h.s,h.s]
theorem SameS.pr (h:SameS P P'):prL P'=prL P:=by
  funext l
  unfold prL
  have:prS P'=prS P:=by funext s;unfold prS;rw [h.off,h.off]
  rw [this]
def withP (c:Cp)(P':List Pc):Cp:=⟨P',c.S,c.e⟩
theorem SameS.ls (h:SameS c.P P'):lsN (withP c P')=lsN c:=by unfold lsN withP;exact congrFun h.pr _
theorem SameS.ok (h:SameS c.P P')(hok:CapOk c)(hp:∀q,q<c.P.length→pieceB (P'.getD q default)=true):CapOk (withP c P'):=by
  refine ⟨by unfold withP;simp only;rw [h.len];exact hok.np,fun q hq=>hp q (by unfold withP at hq;simp only at hq;rw [h.len] at hq;exact hq),hok.e,fun i hi => ?_⟩
  have:=hok.sm i hi
  unfold withP
  simp only
  rw [h.seam];exact this
theorem SameS.part (h:SameS c.P P'):partP (withP c P')=partP c:=by
  unfold partP
  rw [h.ls]
  unfold withP;simp only
  rw [h.pc,h.len]
theorem SameS.loop (h:SameS c.P P'):loopP (withP c P')=loopP c:=by
  unfold loopP
  rw [h.ls]
  unfold withP;simp only
  rw [h.nx,h.ns]
theorem sum_set:∀{l:List Int} {i:Nat} {x:Int},i<l.length→(l.set i x).sum=l.sum-l.getD i 0+x
  | a :: l,0,x,_=>by simp [List.getD_eq_getElem?_getD];omega
  | a :: l,i+1,x,h=>by
    have:=sum_set (l:=l) (i:=i) (x:=x) (by simpa using h)
    have e:(a :: l).getD (i+1) 0=l.getD i 0:=by simp [List.getD_eq_getElem?_getD]
    rw [List.set_cons_succ,List.sum_cons,List.sum_cons,this,e];omega
theorem getD_setI {l:List Int}{i t:Nat}{x:Int}(h:i<l.length):(l.set i x).getD t 0=if t=i then x else l.getD t 0:=by
  simp only [List.getD_eq_getElem?_getD,List.getElem?_set]
  by_cases e:i=t
  · subst e;simp [h]
  · rw [if_neg e,if_neg (fun h=>e h.symm)]
def dartA (a:List Int)(j k:Nat)(n:Int):List Int:=(a.set j (a.getD j 0-n)).set ((j+1) % k) ((a.set j (a.getD j 0-n)).getD ((j+1) % k) 0+n)
def dartB (a:List Int)(j k:Nat)(n:Int):Bool:=decide (1≤n∧n≤a.getD j 0-1∧n≤359-a.getD ((j+1) % k) 0)
def dartP (P:List Pc)(q j:Nat)(n:Int):List Pc:=P.set q ⟨(P.getD q default).s,dartA (P.getD q default).a j (ksN P q) n⟩
theorem getD_setP {i t:Nat}{x:Pc}(h:i<P.length):(P.set i x).getD t default=if t=i then x else P.getD t default:=by
  simp only [List.getD_eq_getElem?_getD,List.getElem?_set]
  by_cases e:i=t
  · subst e;simp [h]
  · rw [if_neg e,if_neg (fun h=>e h.symm)]
def atQ (P:List Pc)(i:Nat):Nat:=pcN P i
def atJ (P:List Pc)(i:Nat):Nat:=i-offN P (pcN P i)
noncomputable def dartE (c:Cp)(i n:Int):Int :=
  if capE c≠0 then capE c else if ¬(0≤i∧i<nsN c.P) then 5 else
  if dartB (c.P.getD (atQ c.P i.toNat) default).a (atJ c.P i.toNat) (ksN c.P (atQ c.P i.toNat)) n then 0 else 1
noncomputable def dartC (c:Cp)(i n:Int):Cp:=withP c (dartP c.P (atQ c.P i.toNat) (atJ c.P i.toNat) n)
end
end Go.Proofs.Ytclghkegfpcdpaa.Vm
namespace Go.Proofs.Ytclghkegfpcdpaa.Vm
open Go
set_option maxRecDepth 100000
set_option maxHeartbeats 1000000
set_option linter.unusedSimpArgs false
set_option linter.unusedVariables false
attribute [-simp] List.getD_eq_getElem?_getD
def nal (x y:V):Prop:=∀b o z w o' z' w',x=.sl b o z w→y=.sl b o' z' w'→False
def DisP (ps:List (V×V)):Prop:=∀i,i<ps.length→∀j,j<ps.length→nal (ps.getD i default).1 (ps.getD j default).2∧(i≠j→nal (ps.getD i default).1 (ps.getD j default).1∧nal (ps.getD i default).2 (ps.getD j default).2)
structure XC (n:Nat)(H:Hp)(pv sv:V)(ps:List (V×V))(P:List Pc)(S:List Sm):Prop where
  p:OPcsV n H pv ps P
  s:OwnT n smC H sv S
  a1:nal pv sv
  a2:∀i,i<P.length→nal sv (ps.getD i default).1∧nal sv (ps.getD i default).2
  d:DisP ps
inductive XCapV (n:Nat)(H:Hp):List V→Cp→Prop
  | mk {pv sv:V} {ps:List (V×V)} {P:List Pc} {S:List Sm} {e:Int}:XC n H pv sv ps P S→XCapV n H [pv,sv,.int .i64 e] ⟨P,S,e⟩
section
variable {n lim:Nat}{H H' H1:Hp}{K:V→Hp→Prop}{v pv sv a b u:V}{ps:List (V×V)}{pcs P:List Pc}{S:List Sm}{e:Int}{ws:List V}{c d:Cp}
theorem nal.sy (h:nal a b):nal b a:=fun x o z w o' z' w' e e'=>h x o' z' w' o z w e' e
theorem nal_of {l m:List Int}(ha:OwnV n H a l)(hb:OwnV H.length H1 b m):nal a b:=fun x o z w o' z' w' e e'=>by
  have:=(ha.belowB _ _ _ _ e).2
  have:=(hb.belowB _ _ _ _ e').1
  omega
theorem XC.oc (h:XC n H pv sv ps P S):OCapV n H [pv,sv,.int .i64 e] ⟨P,S,e⟩ :=
  .mk h.p h.s h.a1 fun i hi b o z y o' z' y' e e'=>by
    rcases e' with e' | e'
    · exact (h.a2 i hi).1 _ _ _ _ _ _ _ e e'
    · exact (h.a2 i hi).2 _ _ _ _ _ _ _ e e'
theorem XCapV.toO (h:XCapV n H ws c):OCapV n H ws c:=by cases h with | mk h=>exact h.oc
theorem XCapV.cap (h:XCapV n H ws c):CapV H ws c:=h.toO.cap
theorem XC.mono (hx:HX H H')(h:XC n H pv sv ps P S):XC n H' pv sv ps P S:=⟨h.p.mono hx,h.s.mono hx,h.a1,h.a2,h.d⟩
theorem XCapV.mono (hx:HX H H')(h:XCapV n H ws c):XCapV n H' ws c:=by cases h with | mk h=>exact .mk (h.mono hx)
theorem XCapV.vals (h:XCapV n H [pv,sv,.int .i64 e] ⟨P,S,e⟩):stor pv=true∧cellsV pv=[pv]∧stor sv=true∧cellsV sv=[sv]:=h.toO.vals
theorem XCapV.start {sv:V}{S:List Sm}(h:OwnT n smC H sv S):XCapV n H [.snil,sv,.int .i64 e] ⟨[],S,e⟩:=.mk (ps:=[]) ⟨OPcsV.nil,h,(fun b o z y o' z' y' e _=>by cases e),(fun i hi=>by simp at hi),(fun i hi=>by simp at hi)⟩
theorem XCapV.parts (h:XCapV n H ws c):∃pv sv ps,ws=[pv,sv,.int .i64 c.e]∧XC n H pv sv ps c.P c.S:=by
  cases h with
  | mk h=>exact ⟨_,_,_,rfl,h⟩
theorem XCapV.pushS {x:Sm}{cs:List V}(hcs:smC.cells x=cs)(h:XCapV n H [pv,sv,.int .i64 e] ⟨P,S,e⟩)(hn:lim≤n∧n≤H.length)(hl:S.length<1000000) :
    ∃sv' H',vappend lim 4 32 (H++[.row cs true]) sv (.sl H.length 0 1 4)=some (sv',H')∧XCapV n H' [pv,sv',.int .i64 e] ⟨P,S++[x],e⟩∧(∀H0,HX H0 H→H0.length≤n→HX H0 H')∧H.length≤H'.length:=by
  cases h with
  | mk h =>
  rename_i ps
  obtain ⟨h1,h2,h3,h4,h5⟩:=h
  obtain ⟨v',H',a1,a2,a3,a4,a5,a6⟩:=h2.appendF2 (lim:=lim) (bytes:=32) hcs hn (by omega) hl
  refine ⟨v',H',a1,.mk (ps:=ps) ⟨h1.keepB (fun b o m z e=>a5 b (h1.own.belowB _ _ _ _ e).2 fun o' z' y' e'=>h3 _ _ _ _ _ _ _ e e') fun i hi b o m z e => ?_,a2,fun b o z y o' z' y' e e' => ?_,fun i hi=>⟨fun b o z y o' z' y' e e' => ?_,fun b o z y o' z' y' e e' => ?_⟩,h5⟩,a3,a4⟩
  · rcases e with e | e
    · exact a5 b ((h1.at' i hi).1.belowB _ _ _ _ e).2 fun o' z' y' e'=>(h4 i hi).1 _ _ _ _ _ _ _ e' e
    · exact a5 b ((h1.at' i hi).2.belowB _ _ _ _ e).2 fun o' z' y' e'=>(h4 i hi).2 _ _ _ _ _ _ _ e' e
  · have:=(h1.own.belowB _ _ _ _ e).2
    have:=a6 _ _ _ _ e'
    omega
  · have h6:=a6 _ _ _ _ e
    have:=((h1.at' i hi).1.belowB _ _ _ _ e').2;omega
  · have h6:=a6 _ _ _ _ e
    have:=((h1.at' i hi).2.belowB _ _ _ _ e').2;omega
theorem DisP.push (h:DisP ps)(hab:nal a b)(h1:∀i,i<ps.length→(nal (ps.getD i default).1 a∧nal (ps.getD i default).1 b)∧nal (ps.getD i default).2 a∧nal (ps.getD i default).2 b):DisP (ps++[(a,b)]):=by
  intro i hi j hj
  rw [List.length_append,List.length_singleton] at hi hj
  by_cases hi1:i<ps.length
  · rw [getD_lt hi1]
    by_cases hj1:j<ps.length
    · rw [getD_lt hj1];exact h i hi1 j hj1
    · have:j=ps.length:=by omega
      subst this
      rw [getD_last rfl]
      exact ⟨(h1 i hi1).1.2,fun _=>⟨(h1 i hi1).1.1,(h1 i hi1).2.2⟩⟩
  · have:i=ps.length:=by omega
    subst this
    rw [getD_last rfl]
    by_cases hj1:j<ps.length
    · rw [getD_lt hj1]
      exact ⟨(h1 j hj1).2.1.sy,fun _=>⟨(h1 j hj1).1.1.sy,(h1 j hj1).2.2.sy⟩⟩
    · have:j=ps.length:=by omega
      subst this
      rw [getD_last rfl]
      exact ⟨hab,fun g=>absurd rfl g⟩
theorem XCapV.pushP {p:Pc}(h:XCapV n H [pv,sv,.int .i64 e] ⟨P,S,e⟩)(hx:HX H H1)(ha:OwnV H.length H1 a p.s)(hb:OwnV H.length H1 b p.a)(hab:nal a b)(hn:lim≤n∧n≤H.length)(hl:P.length<1000000) :
    ∃pv' H2,vappend lim 2 48 (H1++[.row [a,b] true]) pv (.sl H1.length 0 1 2)=some (pv',H2)∧XCapV n H2 [pv',sv,.int .i64 e] ⟨P++[p],S,e⟩∧(∀H0,HX H0 H1→H0.length≤n→HX H0 H2)∧H1.length≤H2.length:=by
  cases h with
  | mk h =>
  rename_i ps
  obtain ⟨h1,h2,h3,h4,h5⟩:=h
  have hlen:=hx.len
  obtain ⟨v',H2,a1,a2,a3,a4,a5,a6⟩:=h1.append hx ha hb hn hl
  have hs:=fun b o z y (e:sv=.sl b o z y)=>h2.belowB b o z y e
  refine ⟨v',H2,a1,.mk ⟨a2,((h2.mono hx).keepB fun b o m z e=>a5 b (by have:=(hs _ _ _ _ e).2;omega) fun o' z' y' e'=>h3 _ _ _ _ _ _ _ e' e),(fun b o z y o' z' y' e e' => ?_),fun i hi => ?_,h5.push hab fun i hi => ?_⟩,a3,a4⟩
  · have:=(hs _ _ _ _ e').2
    have:=a6 _ _ _ _ e
    omega
  · rw [List.length_append,List.length_singleton] at hi
    by_cases hlt:i<P.length
    · rw [getD_lt (l:=ps) (by rw [h1.len];exact hlt)]
      exact h4 i hlt
    · have:i=P.length:=by omega
      subst this
      rw [getD_last h1.len.symm]
      refine ⟨fun b' o z y o' z' y' e e' => ?_,fun b' o z y o' z' y' e e' => ?_⟩
      · have:=(hs _ _ _ _ e).2;have:=(ha.belowB _ _ _ _ e').1;omega
      · have:=(hs _ _ _ _ e).2;have:=(hb.belowB _ _ _ _ e').1;omega
  · have hi:i<P.length:=by rw [←h1.len];exact hi
    have t1:=(h1.at' i hi).1
    have t2:=(h1.at' i hi).2
    exact ⟨⟨nal_of t1 ha,nal_of t1 hb⟩,nal_of t2 ha,nal_of t2 hb⟩
theorem r02_CopyPieceX {p:Pc}(ha:SlV H a p.s)(hb:SlV H b p.a)(hlim:lim≤H.length)(hl:p.s.length≤1000∧p.a.length≤1000)(hK:∀H' a' b',HX H H'→OwnV H.length H' a' p.s→OwnV H.length H' b' p.a→nal a' b'→K (.agg [a',b']) H'):VCall tbl lim 52 [.agg [a,b]] H K:=by
  refine VCall_fn tbl_at52 rfl ?_
  simp [vf52,ha.stor,ha.one,hb.stor,hb.one,rd0,rd1']
  refine ref01_CopyInts ha (by omega) hl.1 fun H1 v1 x1 o1 => ?_
  replace x1:HX H H1:=x1
  have l1:=x1.len
  simp [rd0,rd1',hb.stor]
  refine ref01_CopyInts (hb.mono x1) (by omega) hl.2 fun H2 v2 x2 o2 => ?_
  replace x2:HX H1 H2:=x2
  have:=hK H2 v1 v2 (x1.trans x2) (o1.mono x2) (o2.le l1) (nal_of o1 o2)
  simp [o1.sl.stor,o1.sl.one,o2.sl.stor,o2.sl.one,splice,rdA2]
  exact this
theorem r02_CopyX (hc:CapV H ws c)(hsh:ShortC c)(hlim:lim≤H.length)(hK:∀H' ws',HX H H'→XCapV H.length H' ws' c→K (.agg ws') H'):VCall tbl lim 17 [.agg ws] H K:=by
  obtain ⟨pv,sv,ps,rfl,hp,hs,z1,z2,z3,z4⟩:=hc.form
  have s1:=hsh.np
  have s2:=hsh.ns
  refine VCall_fn tbl_at17 rfl ?_
  simp [vf17,z1,z2,z3,z4,rd0,rd1',rd2',splice]
  refine wLoop_up c.P.length (fun i fr L H'=>∃v,(fr 1=.lp 0 0∧fr 2=.lp 1 0∧fr 3=.lp 2 0∧fr 4=.int .i64 i)∧L=[[pv,sv,.int .i64 c.e],[.snil,.snil,.int .i64 0],[v,.snil,.int .i64 c.e]]∧HX H H'∧XCapV H.length H' [v,.snil,.int .i64 c.e] ⟨c.P.take i,[],c.e⟩) ⟨.snil,by simp,by simp,.refl,.start .nil⟩ ?_
  rintro i hi fr L H1 ⟨v,⟨f1,f2,f3,f4⟩,rfl,x1,hO⟩
  have l1:=x1.len
  simp [f1,f2,f3,f4,rd0,hp.vlen]
  refine cond_dec (fun ht => ?_) fun hfl => ?_
  · have ht:i<c.P.length:=by omega
    have hp1:=hp.mono x1
    obtain ⟨t1,t2⟩:=hp1.at' i ht
    obtain ⟨b1,b2⟩:=hsh.pc i ht
    simp [f1,f2,f3,f4,rd0,rd1',hp1.at ht,hp1.ld2 ht,t1.stor,t2.stor]
    refine r02_CopyPieceX (p:=c.P.getD i default) t1 t2 (by omega) ⟨by omega,by omega⟩ fun H2 a' b' x2 oa ob oab => ?_
    replace x2:HX H1 H2:=x2
    obtain ⟨pv',H3,c1,c2,c3,c4⟩:=hO.pushP (lim:=lim) x2 oa ob oab ⟨by omega,l1⟩ (by rw [List.length_take];omega)
    obtain ⟨y1,y2,_,_⟩:=c2.vals
    simp (disch:=omega) [f1,f2,f3,f4,oa.sl.one,ob.sl.one,oa.sl.stor,ob.sl.stor,splice,c1,y1,y2,wrap_i64]
    exact ⟨ht,c3 _ (x1.trans x2) (Nat.le_refl _),by rw [take_nextP ht];exact c2⟩
  · have:i=c.P.length:=by omega
    subst this
    rw [List.take_length] at hO
    simp [f1,f2,f3,f4]
    refine wLoop_up c.S.length (fun i fr L H'=>∃s,(fr 1=.lp 0 0∧fr 2=.lp 1 0∧fr 3=.lp 2 0∧fr 5=.int .i64 i)∧L=[[pv,sv,.int .i64 c.e],[.snil,.snil,.int .i64 0],[v,s,.int .i64 c.e]]∧HX H H'∧XCapV H.length H' [v,s,.int .i64 c.e] ⟨c.P,c.S.take i,c.e⟩) ⟨.snil,by simp [f1,f2,f3],rfl,x1,by simpa using hO⟩ ?_
    clear f1 f2 f3 f4 hO hi fr hfl x1 l1
    rintro i hi fr L H1 ⟨s,⟨f1,f2,f3,f5⟩,rfl,x1,hO⟩
    have l1:=x1.len
    simp [f1,f2,f3,f5,rd1',hs.len]
    refine cond_dec (fun ht => ?_) fun hfl => ?_
    · have ht:i<c.S.length:=by omega
      have hs1:=hs.mono x1
      have ld:=fun L=>hs1.load ht (L:=L)
      have ec:smC.cells (c.S.getD i default)=[.int .i64 (c.S.getD i default).A,.int .i64 (c.S.getD i default).I,.int .i64 (c.S.getD i default).B,.int .i64 (c.S.getD i default).J]:=rfl
      rw [ec] at ld
      obtain ⟨s',H3,c1,c2,c3,c4⟩:=hO.pushS (lim:=lim) ec ⟨by omega,l1⟩ (by rw [List.length_take];omega)
      obtain ⟨_,_,y1,y2⟩:=c2.vals
      simp (disch:=omega) [f1,f2,f3,f5,rd0,rd1',hs1.at ht,ld,splice,zs4,c1,y1,y2,wrap_i64]
      exact ⟨ht,c3 _ x1 (Nat.le_refl _),by rw [take_next ht];exact c2⟩
    · have:i=c.S.length:=by omega
      subst this
      rw [List.take_length] at hO
      obtain ⟨y1,y2,y3,y4⟩:=hO.vals
      simp [f1,f2,f3,f5,rdA3,splice,y1,y2,y3,y4]
      exact hK _ _ x1 hO
theorem surf_cloneX (hc:CapV H ws c)(hsh:ShortC c)(hlim:lim≤H.length)(hK:∀H' ws',HX H H'→XCapV H.length H' ws' c→K (.agg ws') H'):VCall tbl lim 70 [.agg ws] H K:=by
  obtain ⟨pv,sv,ps,rfl,hp,hs,z1,z2,z3,z4⟩:=hc.form
  have s1:=hsh.np
  have s2:=hsh.ns
  refine VCall_fn tbl_at70 rfl ?_
  simp [vf70,z1,z2,z3,z4,rd0,rd1',rd2']
  refine clone_sms hs (by omega) (by omega) fun H1 sv1 x1 o1 => ?_
  replace x1:HX H H1:=x1
  have l1:=x1.len
  simp [rd0,rd1',rd2',z1,z2,o1.lst.stor,o1.lst.one,splice,hp.vlen]
  refine wLoop_up c.P.length (fun i fr L H'=>∃v X,(fr 1=.lp 0 0∧fr 2=.lp 1 0∧fr 3=.lp 2 0∧fr 13=pv∧fr 14=.int .i64 c.P.length∧fr 15=.int .i64 i)∧L=[pv,sv,.int .i64 c.e] :: [.snil,.snil,.int .i64 0] :: [v,sv1,.int .i64 c.e] :: X∧HX H H'∧XCapV H.length H' [v,sv1,.int .i64 c.e] ⟨c.P.take i,c.S,c.e⟩) ⟨.snil,[],by simp,by simp,x1,.start o1⟩ ?_
  rintro i hi fr L H2 ⟨v,X,⟨f1,f2,f3,f13,f14,f15⟩,rfl,x2,hO⟩
  have l2:=x2.len
  simp [f1,f2,f3,f13,f14,f15]
  refine cond_dec (fun ht => ?_) fun hfl => ?_
  · have ht:i<c.P.length:=by omega
    have hp1:=hp.mono x2
    obtain ⟨t1,t2⟩:=hp1.at' i ht
    obtain ⟨b1,b2⟩:=hsh.pc i ht
    simp [f1,f2,f3,f13,f14,f15,rd0,rd1',hp1.at ht,hp1.ld2 ht,t1.stor,t1.one,t2.stor,t2.one,splice,lastO,lastS]
    refine clone_ints t1 (by omega) (by omega) fun H3 a' x3 oa => ?_
    replace x3:HX H2 H3:=x3
    have l3:=x3.len
    simp [f1,f2,f3,f13,f14,f15,rd0,rd1',t2.stor,lastO]
    refine clone_ints (t2.mono x3) (by omega) (by omega) fun H4 b' x4 ob => ?_
    replace x4:HX H3 H4:=x4
    obtain ⟨pv',H5,c1,c2,c3,c4⟩:=hO.pushP (lim:=lim) (x3.trans x4) (oa.mono x4) (ob.le l3) (nal_of oa ob) ⟨by omega,l2⟩ (by rw [List.length_take];omega)
    obtain ⟨y1,y2,_,_⟩:=c2.vals
    simp (disch:=omega) [f1,f2,f3,f13,f14,f15,oa.sl.one,ob.sl.one,oa.sl.stor,ob.sl.stor,splice,c1,y1,y2,wrap_i64]
    exact ⟨ht,c3 _ ((x2.trans x3).trans x4) (Nat.le_refl _),by rw [take_nextP ht];exact c2⟩
  · have:i=c.P.length:=by omega
    subst this
    rw [List.take_length] at hO
    obtain ⟨y1,y2,y3,y4⟩:=hO.vals
    simp [f1,f2,f3,f13,f14,f15,rdA3,splice,y1,y2,y3,y4]
    exact hK _ _ x2 hO
theorem XC.wr {q k:Nat}{x:Int}(h:XC n H pv sv ps P S)(hq:q<P.length)(hk:k<(P.getD q default).a.length)(hlim:lim≤n) :
    ∃H',(∀L,vstore lim L H (ept 1 (ps.getD q default).2 k) (.int .i64 x) 1=some (L,H'))∧XC n H' pv sv ps (P.set q ⟨(P.getD q default).s,(P.getD q default).a.set k x⟩) S∧∀H0,HX H0 H→H0.length≤n→HX H0 H':=by
  obtain ⟨h1,h2,h3,h4,h5⟩:=h
  have ho:=(h1.at' q hq).2
  have hql:q<ps.length:=by rw [h1.len];exact hq
  have kp:∀{u:V},nal u (ps.getD q default).2→∀b o m z,u=.sl b o m z→(setH H (ps.getD q default).2 (ints ((P.getD q default).a.set k x)))[b]? = H[b]? := by
    intro u hu b o m z e
    cases hv:(ps.getD q default).2 with
    | sl b' o' z' y' =>
      simp only [setH]
      rw [List.getElem?_set_ne]
      rintro rfl
      exact hu _ _ _ _ _ _ _ e hv
    | _=>rfl
  have hnp:nal pv (ps.getD q default).2:=fun b o z y o' z' y' e e'=>h1.ap q hq _ _ _ _ _ _ _ e (Or.inr e')
  refine ⟨setH H (ps.getD q default).2 (ints ((P.getD q default).a.set k x)),fun L=>ho.store ⟨hlim,hk⟩,⟨⟨h1.own.keepB (kp hnp),by simp [h1.len],fun i hi => ?_,fun i hi=>h1.ap i (by simpa using hi)⟩,h2.keepB (kp (h4 q hq).2),h3,fun i hi=>h4 i (by simpa using hi),h5⟩,fun H0 hx hl=>setH_X hx ho hl⟩
  rw [List.length_set] at hi
  rw [getD_setP hq]
  have t:=h1.at' i hi
  refine ⟨?_,?_⟩
  · have:=t.1.keepB (kp (h5 i (by rw [h1.len];exact hi) q hql).1)
    split
    · rename_i e;subst e;exact this
    · exact this
  · split
    · rename_i e;subst e;exact ho.put (by simp)
    · rename_i e
      exact t.2.keepB (kp ((h5 i (by rw [h1.len];exact hi) q hql).2 e).2)
end
end Go.Proofs.Ytclghkegfpcdpaa.Vm
namespace Go.Proofs.Ytclghkegfpcdpaa.Vm
open Go
set_option maxRecDepth 100000
set_option maxHeartbeats 1000000
set_option linter.unusedSimpArgs false
set_option linter.unusedVariables false
attribute [-simp] List.getD_eq_getElem?_getD
section
variable {n lim:Nat}{H H' H1:Hp}{K:V→Hp→Prop}{v pv sv a b u:V}{ps:List (V×V)}{P:List Pc}{S:List Sm}{e:Int}{ws:List V}{c d:Cp}
end
end Go.Proofs.Ytclghkegfpcdpaa.Vm
namespace Go.Proofs.Ytclghkegfpcdpaa.Vm
set_option linter.unusedVariables false
set_option linter.unusedSimpArgs false
attribute [-simp] List.getD_eq_getElem?_getD
def rot (l:List Int)(k i m:Nat):List Int:=(List.range m).map fun t=>l.getD ((i+t) % k) 0
def stp (k i j:Nat):Nat:=(j+k-i) % k
section
variable {l:List Int}{k i j m:Nat}{x ln:Int}{p:Pc}
theorem rot_len:(rot l k i m).length=m:=by simp [rot]
theorem rot_snoc:rot l k i (m+1)=rot l k i m++[l.getD ((i+m) % k) 0]:=by simp [rot,List.range_succ]
theorem rot_get {t:Nat}(h:t<m):(rot l k i m).getD t 0=l.getD ((i+t) % k) 0:=getD_mapR h
theorem ring_at {t:Nat}(hi:i<k)(ht:t≤k):(i+t) % k=if i+t<k then i+t else i+t-k:=by
  split
  · rename_i h;exact Nat.mod_eq_of_lt h
  · rename_i h
    have e:i+t=i+t-k+k:=by omega
    rw [e,Nat.add_mod_right,Nat.mod_eq_of_lt (by omega)];omega
theorem stp_eq (hi:i<k)(hj:j<k):stp k i j=if i≤j then j-i else j+k-i:=by
  unfold stp
  split
  · rename_i h
    rw [show j+k-i=j-i+k by omega,Nat.add_mod_right,Nat.mod_eq_of_lt (by omega)]
  · rename_i h
    exact Nat.mod_eq_of_lt (by omega)
theorem stp_lt (hi:i<k)(hj:j<k):stp k i j<k:=Nat.mod_lt _ (by omega)
theorem stp_at (hi:i<k)(hj:j<k):(i+stp k i j) % k=j:=by
  have:=stp_lt hi hj
  rw [ring_at hi (by omega),stp_eq hi hj]
  split<;>split<;>omega
theorem stp_no (hi:i<k)(hj:j<k){t:Nat}(ht:t<stp k i j):(i+t) % k≠j:=by
  have:=stp_lt hi hj
  rw [ring_at hi (by omega)]
  rw [stp_eq hi hj] at ht
  split<;>split at ht<;>omega
theorem stp_pos (hi:i<k)(hj:j<k)(h:i≠j):0<stp k i j:=by
  rw [stp_eq hi hj]
  split<;>omega
theorem stp_add (hi:i<k)(hj:j<k)(h:i≠j):stp k i j+stp k j i=k:=by
  rw [stp_eq hi hj,stp_eq hj hi]
  split<;>split<;>omega
theorem rot_sum (hi:i<l.length):(rot l l.length i l.length).sum=l.sum:=by
  have e1:((List.range l.length).map fun t=>l.getD ((i+t) % l.length) 0).sum=((List.range (l.length-i)).map fun t=>l.getD (i+t) 0).sum+((List.range i).map fun t=>l.getD t 0).sum:=by
    have e:l.length=(l.length-i)+i:=by omega
    conv=>lhs;arg 1;arg 2;rw [e]
    rw [sum_split]
    congr 1
    · congr 1
      refine List.map_congr_left fun t ht => ?_
      have:=List.mem_range.1 ht
      rw [Nat.mod_eq_of_lt (by omega)]
    · congr 1
      refine List.map_congr_left fun t ht => ?_
      have:=List.mem_range.1 ht
      rw [show i+(l.length-i+t)=t+l.length by omega,Nat.add_mod_right,Nat.mod_eq_of_lt (by omega)]
  have e2:((List.range l.length).map fun t=>l.getD t 0).sum=l.sum:=sum_getD
  have e3:((List.range l.length).map fun t=>l.getD t 0).sum=((List.range i).map fun t=>l.getD t 0).sum+((List.range (l.length-i)).map fun t=>l.getD (i+t) 0).sum:=by
    have e:l.length=i+(l.length-i):=by omega
    conv=>lhs;arg 1;arg 2;rw [e]
    rw [sum_split]
  unfold rot
  rw [e1,←e2,e3];omega
theorem rot_two (hi:i<l.length)(hj:j<l.length)(h:i≠j):(rot l l.length i (stp l.length i j)).sum+(rot l l.length j (stp l.length j i)).sum=l.sum:=by
  rw [←rot_sum hi]
  have ha:=stp_add hi hj h
  have hat:=stp_at hi hj
  unfold rot
  conv=>rhs;arg 1;arg 2;rw [←ha]
  rw [sum_split]
  congr 2
  refine List.map_congr_left fun t ht => ?_
  congr 1
  rw [←Nat.add_assoc,←Nat.mod_add_mod (i+stp l.length i j),hat]
def lastZ (p:Pc)(i m:Nat)(x:Int):Int:=180*((m:Int)-1)-((rot p.a p.s.length i m).set 0 x).sum
def half (p:Pc)(i m:Nat)(ln x:Int):Pc:=⟨rot p.s p.s.length i m++[ln],(rot p.a p.s.length i m).set 0 x++[lastZ p i m x]⟩
theorem lastZ_eq (hm:0<m)(hi:i<p.s.length):lastZ p i m x=180*((m:Int)-1)-(rot p.a p.s.length i m).sum+p.a.getD i 0-x:=by
  unfold lastZ
  rw [sum_set (by rw [rot_len];exact hm),rot_get hm,Nat.add_zero,Nat.mod_eq_of_lt hi]
  omega
theorem lastZ_two (hp:pieceB p=true)(hi:i<p.s.length)(hj:j<p.s.length)(h:i≠j):lastZ p j (stp p.s.length j i) (p.a.getD j 0-lastZ p i (stp p.s.length i j) x)=p.a.getD i 0-x:=by
  obtain ⟨h1,h2,h3,h4⟩:=piece_ok hp
  rw [lastZ_eq (stp_pos hj hi h.symm) hj,lastZ_eq (stp_pos hi hj h) hi]
  have e1:=stp_add hi hj h
  have e2:=rot_two (l:=p.a) (i:=i) (j:=j) (by omega) (by omega) h
  rw [h2,h4] at e2
  omega
end
end Go.Proofs.Ytclghkegfpcdpaa.Vm
namespace Go.Proofs.Ytclghkegfpcdpaa.Vm
open Go
set_option maxRecDepth 100000
set_option maxHeartbeats 1000000
set_option linter.unusedSimpArgs false
set_option linter.unusedVariables false
attribute [-simp] List.getD_eq_getElem?_getD
structure TwoV (n:Nat)(H:Hp)(u w:V)(l m:List Int):Prop where
  ou:OwnV n H u l
  ow:OwnV n H w m
  ap:nal u w
section
variable {n lim:Nat}{H H' H1:Hp}{K:V→Hp→Prop}{v pv sv a b u w:V}{ps:List (V×V)}{P:List Pc}{S:List Sm}{e:Int}{ws:List V}{c d:Cp}{l m:List Int}
theorem TwoV.mono (hx:HX H H')(h:TwoV n H u w l m):TwoV n H' u w l m:=⟨h.ou.mono hx,h.ow.mono hx,h.ap⟩
theorem TwoV.push1 {x:Int}(h:TwoV n H u w l m)(hn:lim≤n∧n≤H.length)(hl:l.length<1000000) :
    ∃u' H',vappend lim 1 8 (H++[.row [.int .i64 x] true]) u (.sl H.length 0 1 1)=some (u',H')∧TwoV n H' u' w (l++[x]) m∧(∀H0,HX H0 H→H0.length≤n→HX H0 H')∧H.length≤H'.length:=by
  obtain ⟨u',H',a1,a2,a3,a4,a5,a6⟩:=h.ou.appendF (lim:=lim) (x:=x) hn hl
  refine ⟨u',H',a1,⟨a2,h.ow.keepB fun b o k z e=>a5 b (h.ow.belowB _ _ _ _ e).2 fun o' z' y' e'=>h.ap _ _ _ _ _ _ _ e' e,fun b o z y o' z' y' e e' => ?_⟩,a3,a4⟩
  have:=a6 _ _ _ _ e
  have:=(h.ow.belowB _ _ _ _ e').2
  omega
theorem TwoV.push2 {x:Int}(h:TwoV n H u w l m)(hn:lim≤n∧n≤H.length)(hl:m.length<1000000) :
    ∃w' H',vappend lim 1 8 (H++[.row [.int .i64 x] true]) w (.sl H.length 0 1 1)=some (w',H')∧TwoV n H' u w' l (m++[x])∧(∀H0,HX H0 H→H0.length≤n→HX H0 H')∧H.length≤H'.length:=by
  obtain ⟨w',H',a1,a2,a3,a4,a5,a6⟩:=h.ow.appendF (lim:=lim) (x:=x) hn hl
  refine ⟨w',H',a1,⟨h.ou.keepB fun b o k z e=>a5 b (h.ou.belowB _ _ _ _ e).2 fun o' z' y' e'=>h.ap _ _ _ _ _ _ _ e e',a2,fun b o z y o' z' y' e e' => ?_⟩,a3,a4⟩
  have:=a6 _ _ _ _ e'
  have:=(h.ou.belowB _ _ _ _ e).2
  omega
theorem TwoV.st2 {x:Int}{k:Nat}(h:TwoV n H u w l m)(hk:k<m.length)(hlim:lim≤n) :
    ∃H',(∀L,vstore lim L H (ept 1 w k) (.int .i64 x) 1=some (L,H'))∧TwoV n H' u w l (m.set k x)∧(∀H0,HX H0 H→H0.length≤n→HX H0 H')∧H.length=H'.length:=by
  refine ⟨setH H w (ints (m.set k x)),fun L=>h.ow.store ⟨hlim,hk⟩,⟨h.ou.keepB fun b o z y e => ?_,h.ow.put (by simp),h.ap⟩,fun H0 hx hl=>setH_X hx h.ow hl,(setH_len h.ow).symm⟩
  cases hv:w with
  | sl b' o' z' y' =>
    simp only [setH]
    rw [List.getElem?_set_ne]
    rintro rfl
    exact h.ap _ _ _ _ _ _ _ e hv
  | _=>rfl
theorem rot_bd {p:Pc}(hp:pieceB p=true){i t:Nat}:0≤(rot p.a p.s.length i t).sum∧(rot p.a p.s.length i t).sum≤359*t:=by
  obtain ⟨h1,h2,h3,h4⟩:=piece_ok hp
  induction t with
  | zero=>simp [rot]
  | succ t ih =>
    rw [rot_snoc,List.sum_append]
    have:=(h3 ((i+t) % p.s.length) (Nat.mod_lt _ (by omega))).2
    simp only [List.sum_cons,List.sum_nil]
    omega
def rg (i t k:Nat):Nat:=(i+t) % k
theorem surf_part {p:Pc}{i j:Nat}{ln an:Int}(ha:SlV H a p.s)(hb:SlV H b p.a)(hp:pieceB p=true)(hi:i<p.s.length)(hj:j<p.s.length)(hij:i≠j)(han : -1000000≤an∧an≤1000000)(hlim:lim≤H.length)
    (hK:∀H' u w,HX H H'→TwoV H.length H' u w (half p i (stp p.s.length i j) ln an).s (half p i (stp p.s.length i j) ln an).a→K (.agg [u,w]) H'):VCall tbl lim 75 [.agg [a,b],.int .i64 (i:Nat),.int .i64 (j:Nat),.int .i64 ln,.int .i64 an] H K:=by
  obtain ⟨h1,h2,h3,h4⟩:=piece_ok hp
  refine VCall_fn tbl_at75 rfl ?_
  obtain ⟨k,hk⟩:∃k,k=p.s.length:=⟨_,rfl⟩
  rw [←hk] at hi hj h1 h2 h3 hK
  have hvl:vlenS a=some (.int .i64 (k:Nat)):=by rw [ha.len,hk]
  obtain ⟨N,hN⟩:∃N,N=stp k i j:=⟨_,rfl⟩
  rw [←hN] at hK
  have hNk:N<k:=by rw [hN];exact stp_lt hi hj
  have hN0:0<N:=by rw [hN];exact stp_pos hi hj hij
  have hkne:(k:Int)≠0:=by omega
  simp [vf75,ha.stor,ha.one,hb.stor,hb.one,rd0,rd1',hvl,splice]
  refine wLoop_up N (fun t fr L H'=>∃u w,(fr 1=.int .i64 (i:Nat)∧fr 2=.int .i64 (j:Nat)∧fr 3=.int .i64 ln∧fr 4=.int .i64 an∧fr 5=.lp 0 0∧fr 10=.lp 1 0∧fr 11=.lp 2 0∧fr 12=.int .i64 (k:Nat)∧fr 13=.int .i64 (rot p.a k i t).sum∧fr 14=.int .i64 (rg i t k:Nat))∧L=[[a,b],[.snil,.snil],[u,w]]∧HX H H'∧TwoV H.length H' u w (rot p.s k i t) (rot p.a k i t)) ⟨.snil,.snil,by simp [rot,rg,Nat.mod_eq_of_lt hi],by simp,.refl,⟨by simpa [rot] using OwnV.nil,by simpa [rot] using OwnV.nil,fun b o z y o' z' y' e _=>by cases e⟩⟩ ?_
  rintro t ht fr L H1 ⟨u,w,⟨f1,f2,f3,f4,f5,f10,f11,f12,f13,f14⟩,rfl,x1,hT⟩
  have l1:=x1.len
  obtain ⟨bd1,bd2⟩:=rot_bd hp (i:=i) (t:=t)
  rw [←hk] at bd1 bd2
  obtain ⟨q,hq⟩:∃q,q=(i+t) % k:=⟨_,rfl⟩
  have hrg:rg i t k=q:=hq.symm
  rw [hrg] at f14
  have hqk:q<k:=by rw [hq];exact Nat.mod_lt _ (by omega)
  simp [f1,f2,f3,f4,f5,f10,f11,f12,f13,f14]
  by_cases htN:t<N
  · have hne:¬(q=j):=by rw [hq];rw [hN] at htN;exact stp_no hi hj htN
    have hne2:decide ((q:Int)=(j:Int))=false:=decide_eq_false (by omega)
    have hnx:(q+1) % k=(i+(t+1)) % k:=by rw [hq,Nat.mod_add_mod,Nat.add_assoc]
    have hrem:vbin .rem (.int .i64 ((q:Int)+1)) (.int .i64 (k:Int))=some (.int .i64 ((q+1) % k:Nat)):=by
      rw [vbin_rem hkne]
      have:((q:Int)+1).tmod (k:Int)=(((q+1) % k:Nat):Int):=tmod_nat (q+1) k
      rw [this]
    have aa:=(ha.mono x1).addr (i:=(q:Int)) (by omega)
    have ab:=(hb.mono x1).addr (i:=(q:Int)) (by omega)
    simp only [Int.toNat_natCast] at aa ab
    have la:=fun L=>(ha.mono x1).load (i:=q) (by omega) (L:=L)
    obtain ⟨u',H2,c1,c2,c3,c4⟩:=hT.push1 (lim:=lim) (x:=p.s.getD q 0) ⟨by omega,l1⟩ (by rw [rot_len];omega)
    have x2:=c3 H x1 (Nat.le_refl _)
    have lb:=fun L=>(hb.mono x2).load (i:=q) (by omega) (L:=L)
    obtain ⟨w',H3,d1,d2,d3,d4⟩:=c2.push2 (lim:=lim) (x:=p.a.getD q 0) ⟨by omega,by omega⟩ (by rw [rot_len];omega)
    have x3:=d3 H x2 (Nat.le_refl _)
    have lb3:=fun L=>(hb.mono x3).load (i:=q) (by omega) (L:=L)
    have bq:=(h3 q (by omega)).2
    have yu:=c2.ou.sl.stor
    have yu1:=c2.ou.sl.one
    have yw:=d2.ow.sl.stor
    have yw1:=d2.ow.sl.one
    have es:rot p.a k i (t+1)=rot p.a k i t++[p.a.getD q 0]:=by rw [rot_snoc,hq]
    have es':rot p.s k i (t+1)=rot p.s k i t++[p.s.getD q 0]:=by rw [rot_snoc,hq]
    obtain ⟨Q,hQ⟩:∃Q,Q=(q+1) % k:=⟨_,rfl⟩
    rw [←hQ] at hrem
    simp (disch:=omega) [f1,f2,f3,f4,f5,f10,f11,f12,f13,f14,hne2,rd0,rd1',aa,ab,la,lb,lb3,c1,d1,yu,yu1,yw,yw1,splice,wrap_i64,hrem]
    have hsum:(rot p.a k i (t+1)).sum=(rot p.a k i t).sum+p.a.getD q 0:=by rw [es,List.sum_append];simp
    refine ⟨htN,⟨hsum.symm,by rw [hQ,hnx];rfl⟩,u',w',⟨rfl,rfl⟩,x3,by rw [es,es'];exact d2⟩
  · have htN:t=N:=by omega
    subst htN
    have hqj:q=j:=by rw [hq,hN];exact stp_at hi hj
    have hne2:decide ((q:Int)=(j:Int))=true:=decide_eq_true (by omega)
    have hlw:(rot p.a k i t).length=t:=rot_len
    have wa:=hT.ow.sl.addr (i:=0) (by rw [hlw];omega)
    have wa:viaddrS 1 w (.int .i64 0)=some (ept 1 w 0):=by simpa using wa
    obtain ⟨H2,s1,s2,s3,s4⟩:=hT.st2 (lim:=lim) (k:=0) (x:=an) (by rw [hlw];omega) (by omega)
    have x2:=s3 H x1 (Nat.le_refl _)
    have ai:=(hb.mono x2).addr (i:=(i:Int)) (by omega)
    simp only [Int.toNat_natCast] at ai
    have li:=fun L=>(hb.mono x2).load (i:=i) (by omega) (L:=L)
    have bi:=(h3 i hi).2
    obtain ⟨u',H3,c1,c2,c3,c4⟩:=s2.push1 (lim:=lim) (x:=ln) ⟨by omega,by omega⟩ (by rw [rot_len];omega)
    have x3:=c3 H x2 (Nat.le_refl _)
    have ulen:vlenS u'=some (.int .i64 ((t:Int)+1)):=by rw [c2.ou.sl.len,List.length_append,rot_len];rfl
    have yu:=c2.ou.sl.stor
    have yu1:=c2.ou.sl.one
    have yw:=c2.ow.sl.stor
    have yw1:=c2.ow.sl.one
    have hg0:(rot p.a k i t).getD 0 0=p.a.getD i 0:=by rw [rot_get hN0,Nat.add_zero,Nat.mod_eq_of_lt hi]
    have hsum:((rot p.a k i t).set 0 an).sum=(rot p.a k i t).sum+(an-p.a.getD i 0):=by
      rw [sum_set (by rw [rot_len];exact hN0),hg0];omega
    simp (disch:=omega) [f1,f2,f3,f4,f5,f10,f11,f12,f13,f14,hne2,rd0,rd1',wa,s1,ai,li,c1,yu,yu1,splice,ulen,wrap_i64,-vstore,lpId_ept]
    simp [f11,f13,yu,yu1,splice,ulen,rd0,rd1']
    refine surf_allAngles (by omega) ?_
    obtain ⟨w',H4,d1,d2,d3,d4⟩:=c2.push2 (lim:=lim) (x:=180*((t:Int)+1-2)-((rot p.a k i t).sum+(an-p.a.getD i 0))) ⟨by omega,by omega⟩ (by rw [List.length_set,rot_len];omega)
    have x4:=d3 H x3 (Nat.le_refl _)
    have zu:=d2.ou.sl.stor
    have zu1:=d2.ou.sl.one
    have zw:=d2.ow.sl.stor
    have zw1:=d2.ow.sl.one
    have hr:=hK H4 u' w' x4 (by
      unfold half lastZ
      simp only
      rw [←hk,hsum,show 180*((t:Int)-1)-((rot p.a k i t).sum+(an-p.a.getD i 0))=180*((t:Int)+1-2)-((rot p.a k i t).sum+(an-p.a.getD i 0)) by omega]
      exact d2)
    simp (disch:=omega) [f1,f2,f3,f4,f5,f10,f11,f12,f13,f14,rd0,rd1',rdA2,d1,zu,zu1,zw,zw1,splice,wrap_i64]
    exact hr
theorem surf_last (h:SlV H a l)(hl:0<l.length∧l.length≤1000)(hK:K (.int .i64 (l.getD (l.length-1) 0)) H):VCall tbl lim 76 [a] H K:=by
  refine VCall_fn tbl_at76 rfl ?_
  have ad:=h.addr (i:=(l.length:Int)-1) (by omega)
  have e:((l.length:Int)-1).toNat=l.length-1:=by omega
  rw [e] at ad
  have ld:=fun L=>h.load (i:=l.length-1) (by omega) (L:=L)
  simp (disch:=omega) [vf76,h.len,ad,ld,wrap_i64]
  exact hK
theorem rotS_snoc {k i t:Nat}{x:Int}:(rot l k i (t+1)).set 0 x=(rot l k i t).set 0 x++[if t=0 then x else l.getD ((i+t) % k) 0]:=by
  rw [rot_snoc]
  cases t with
  | zero=>simp [rot]
  | succ t =>
    rw [if_neg (by omega)]
    have:(rot l k i (t+1))≠[]:=by intro h;have:=congrArg List.length h;rw [rot_len] at this;simp at this
    cases hr:rot l k i (t+1) with
    | nil=>exact absurd hr this
    | cons y ys=>simp
theorem r02_halves {p:Pc} {i j:Nat} {ln an:Int} (ha:SlV H a p.s) (hb:SlV H b p.a) (hp:pieceB p=true) (hi:i<p.s.length) (hj:j<p.s.length) (hij:i≠j) (han:1≤an∧an≤359) (hlim:lim≤H.length)
    (hK:∀H1 H' u w u2 w2,HX H H1→HX H1 H'→TwoV H.length H' u w (half p i (stp p.s.length i j) ln an).s (half p i (stp p.s.length i j) ln an).a→TwoV H1.length H' u2 w2 (half p j (stp p.s.length j i) ln (p.a.getD j 0-lastZ p i (stp p.s.length i j) an)).s (half p j (stp p.s.length j i) ln (p.a.getD j 0-lastZ p i (stp p.s.length i j) an)).a→K (.tup [.agg [u,w],.agg [u2,w2]]) H'):VCall tbl lim 79 [.agg [a,b],.int .i64 (i:Nat),.int .i64 (j:Nat),.int .i64 ln,.int .i64 an] H K:=by
  obtain ⟨h1,h2,h3,h4⟩:=piece_ok hp
  refine VCall_fn tbl_at79 rfl ?_
  have hz2:=lastZ_two (x:=an) hp hi hj hij
  obtain ⟨k,hk⟩:∃k,k=p.s.length:=⟨_,rfl⟩
  rw [←hk] at hi hj h1 h2 h3 hK hz2
  have hvl:vlenS a=some (.int .i64 (k:Nat)):=by rw [ha.len,hk]
  obtain ⟨N,hN⟩:∃N,N=stp k i j:=⟨_,rfl⟩
  obtain ⟨M,hM⟩:∃M,M=stp k j i:=⟨_,rfl⟩
  rw [←hN,←hM] at hK hz2
  have hNk:N<k:=by rw [hN];exact stp_lt hi hj
  have hN0:0<N:=by rw [hN];exact stp_pos hi hj hij
  have hMk:M<k:=by rw [hM];exact stp_lt hj hi
  have hM0:0<M:=by rw [hM];exact stp_pos hj hi (Ne.symm hij)
  have hkne:(k:Int)≠0:=by omega
  have bdS:∀t,-1000≤((rot p.a k i t).set 0 an).sum∧((rot p.a k i t).set 0 an).sum≤359*t+1000:=by
    intro t
    obtain ⟨bd1,bd2⟩:=rot_bd hp (i:=i) (t:=t)
    rw [←hk] at bd1 bd2
    by_cases h0:t=0
    · subst h0;simp [rot]
    · have hlt:0<(rot p.a k i t).length:=by rw [rot_len];omega
      have b:=(h3 ((i+0) % k) (Nat.mod_lt _ (by omega))).2
      rw [sum_set hlt,rot_get (by omega)];omega
  simp [vf79,ha.stor,ha.one,hb.stor,hb.one,rd0,rd1',hvl,splice]
  refine wLoop_up N (fun t fr L H'=>∃u w,(fr 1=.int .i64 (i:Nat)∧fr 2=.int .i64 (j:Nat)∧fr 3=.int .i64 ln∧fr 4=.int .i64 an∧fr 5=.lp 0 0∧fr 10=.lp 1 0∧fr 11=.lp 2 0∧fr 12=.int .i64 (k:Nat)∧fr 13=.lp 3 0∧fr 14=.lp 4 0∧fr 15=.int .i64 ((rot p.a k i t).set 0 an).sum∧fr 16=.int .i64 (rg i t k:Nat))∧L=[[a,b],[.snil,.snil],[.snil,.snil],[u,w],[.snil,.snil]]∧HX H H'∧TwoV H.length H' u w (rot p.s k i t) ((rot p.a k i t).set 0 an)) ⟨.snil,.snil,by simp [rot,rg,Nat.mod_eq_of_lt hi],by simp,.refl,⟨by simpa [rot] using OwnV.nil,by simpa [rot] using OwnV.nil,fun b o z y o' z' y' e _=>by cases e⟩⟩ ?_
  rintro t ht fr L H1 ⟨u,w,⟨f1,f2,f3,f4,f5,f10,f11,f12,f13,f14,f15,f16⟩,rfl,x1,hT⟩
  have l1:=x1.len
  obtain ⟨q,hq⟩:∃q,q=(i+t) % k:=⟨_,rfl⟩
  have hrg:rg i t k=q:=hq.symm
  rw [hrg] at f16
  have hqk:q<k:=by rw [hq];exact Nat.mod_lt _ (by omega)
  have bdt:=bdS t
  simp [f1,f2,f3,f4,f5,f10,f11,f12,f13,f14,f15,f16]
  by_cases htN:t<N
  · have hne:¬(q=j):=by rw [hq];rw [hN] at htN;exact stp_no hi hj htN
    have hne2:decide ((q:Int)=(j:Int))=false:=decide_eq_false (by omega)
    have hnx:(q+1) % k=(i+(t+1)) % k:=by rw [hq,Nat.mod_add_mod,Nat.add_assoc]
    have hrem:vbin .rem (.int .i64 ((q:Int)+1)) (.int .i64 (k:Int))=some (.int .i64 ((q+1) % k:Nat)):=by
      rw [vbin_rem hkne]
      have:((q:Int)+1).tmod (k:Int)=(((q+1) % k:Nat):Int):=tmod_nat (q+1) k
      rw [this]
    have hqi:q=i↔t=0:=by
      rw [hq,ring_at hi (by omega)]
      split<;>omega
    have aa:=(ha.mono x1).addr (i:=(q:Int)) (by omega)
    have ab:=(hb.mono x1).addr (i:=(q:Int)) (by omega)
    simp only [Int.toNat_natCast] at aa ab
    have la:=fun L=>(ha.mono x1).load (i:=q) (by omega) (L:=L)
    obtain ⟨u',H2,c1,c2,c3,c4⟩:=hT.push1 (lim:=lim) (x:=p.s.getD q 0) ⟨by omega,l1⟩ (by rw [rot_len];omega)
    have x2:=c3 H x1 (Nat.le_refl _)
    have lb:=fun L=>(hb.mono x2).load (i:=q) (by omega) (L:=L)
    obtain ⟨y,hy⟩:∃y,y=if t=0 then an else p.a.getD q 0:=⟨_,rfl⟩
    obtain ⟨w',H3,d1,d2,d3,d4⟩:=c2.push2 (lim:=lim) (x:=y) ⟨by omega,by omega⟩ (by rw [List.length_set,rot_len];omega)
    have x3:=d3 H x2 (Nat.le_refl _)
    have bq:=(h3 q (by omega)).2
    have by':1≤y∧y≤359:=by rw [hy];split<;>omega
    have yu:=c2.ou.sl.stor
    have yu1:=c2.ou.sl.one
    have yw:=d2.ow.sl.stor
    have yw1:=d2.ow.sl.one
    have es:(rot p.a k i (t+1)).set 0 an=(rot p.a k i t).set 0 an++[y]:=by rw [rotS_snoc,←hq,hy]
    have es':rot p.s k i (t+1)=rot p.s k i t++[p.s.getD q 0]:=by rw [rot_snoc,hq]
    have hsum:((rot p.a k i (t+1)).set 0 an).sum=((rot p.a k i t).set 0 an).sum+y:=by rw [es,List.sum_append];simp
    obtain ⟨Q,hQ⟩:∃Q,Q=(q+1) % k:=⟨_,rfl⟩
    rw [←hQ] at hrem
    by_cases h0:t=0
    · have hd:decide ((q:Int)=(i:Int))=true:=decide_eq_true (by have:=hqi.2 h0;omega)
      have hya:y=an:=by rw [hy,if_pos h0]
      rw [hya] at d1
      simp (disch:=omega) [f1,f2,f3,f4,f5,f10,f11,f12,f13,f14,f15,f16,hne2,hd,rd0,rd1',aa,ab,la,lb,c1,d1,yu,yu1,yw,yw1,splice,wrap_i64,hrem]
      refine ⟨htN,⟨by rw [hsum,hya],by rw [hQ,hnx];rfl⟩,u',w',⟨rfl,rfl⟩,x3,by rw [es,es'];exact d2⟩
    · have hd:decide ((q:Int)=(i:Int))=false:=decide_eq_false (fun g=>h0 (hqi.1 (by omega)))
      have hya:y=p.a.getD q 0:=by rw [hy,if_neg h0]
      rw [hya] at d1
      simp (disch:=omega) [f1,f2,f3,f4,f5,f10,f11,f12,f13,f14,f15,f16,hne2,hd,rd0,rd1',aa,ab,la,lb,c1,d1,yu,yu1,yw,yw1,splice,wrap_i64,hrem]
      refine ⟨htN,⟨by rw [hsum,hya],by rw [hQ,hnx];rfl⟩,u',w',⟨rfl,rfl⟩,x3,by rw [es,es'];exact d2⟩
  · have htN:t=N:=by omega
    subst htN
    have hqj:q=j:=by rw [hq,hN];exact stp_at hi hj
    have hne2:decide ((q:Int)=(j:Int))=true:=decide_eq_true (by omega)
    obtain ⟨u',H2,c1,c2,c3,c4⟩:=hT.push1 (lim:=lim) (x:=ln) ⟨by omega,l1⟩ (by rw [rot_len];omega)
    have x2:=c3 H x1 (Nat.le_refl _)
    have ulen:vlenS u'=some (.int .i64 ((t:Int)+1)):=by rw [c2.ou.sl.len,List.length_append,rot_len];rfl
    obtain ⟨z,hz⟩:∃z,z=lastZ p i t an:=⟨_,rfl⟩
    have hz':z=180*((t:Int)-1)-((rot p.a k i t).set 0 an).sum:=by rw [hz,lastZ,hk]
    have hz3:180*((t:Int)+1-2)-((rot p.a k i t).set 0 an).sum=z:=by omega
    obtain ⟨w',H3,d1,d2,d3,d4⟩:=c2.push2 (lim:=lim) (x:=z) ⟨by omega,by omega⟩ (by rw [List.length_set,rot_len];omega)
    have x3:=d3 H x2 (Nat.le_refl _)
    have l3:=x3.len
    have yu:=c2.ou.sl.stor
    have yu1:=c2.ou.sl.one
    have yw:=d2.ow.sl.stor
    have yw1:=d2.ow.sl.one
    have hT1:TwoV H.length H3 u' w' (half p i t ln an).s (half p i t ln an).a:=by
      unfold half
      simp only
      rw [←hk,←hz]
      exact d2
    rw [←hz] at hK hz2
    simp (disch:=omega) [f1,f2,f3,f4,f5,f10,f11,f12,f13,f14,f15,f16,hne2,rd0,rd1',c1,yu,yu1,splice,ulen,wrap_i64,hz3,d1,yw,yw1]
    refine wLoop_up M (fun t fr L H'=>∃u2 w2,(fr 1=.int .i64 (i:Nat)∧fr 2=.int .i64 (j:Nat)∧fr 3=.int .i64 ln∧fr 4=.int .i64 an∧fr 5=.lp 0 0∧fr 10=.lp 1 0∧fr 11=.lp 2 0∧fr 12=.int .i64 (k:Nat)∧fr 13=.lp 3 0∧fr 14=.lp 4 0∧fr 18=.int .i64 z∧fr 19=.int .i64 (rg j t k:Nat))∧L=[[a,b],[.snil,.snil],[.snil,.snil],[u',w'],[u2,w2]]∧HX H3 H'∧TwoV H3.length H' u2 w2 (rot p.s k j t) ((rot p.a k j t).set 0 (p.a.getD j 0-z))) ⟨.snil,.snil,by simp [f1,f2,f3,f4,f5,f10,f11,f12,f13,f14,rot,rg,Nat.mod_eq_of_lt hj],by simp,.refl,⟨by simpa [rot] using OwnV.nil,by simpa [rot] using OwnV.nil,fun b o z y o' z' y' e _=>by cases e⟩⟩ ?_
    clear f1 f2 f3 f4 f5 f10 f11 f12 f13 f14 f15 f16 hrg hq hqk hne2 hqj fr
    rintro r hr fr L H4 ⟨u2,w2,⟨f1,f2,f3,f4,f5,f10,f11,f12,f13,f14,f18,f19⟩,rfl,y1,hT2⟩
    have l4:=y1.len
    have x4:=x3.trans y1
    obtain ⟨q2,hq2⟩:∃q,q=(j+r) % k:=⟨_,rfl⟩
    have hrg2:rg j r k=q2:=hq2.symm
    rw [hrg2] at f19
    have hq2k:q2<k:=by rw [hq2];exact Nat.mod_lt _ (by omega)
    simp [f1,f2,f3,f4,f5,f10,f11,f12,f13,f14,f18,f19]
    by_cases hrM:r<M
    · have hne:¬(q2=i):=by rw [hq2];rw [hM] at hrM;exact stp_no hj hi hrM
      have hne2:decide ((q2:Int)=(i:Int))=false:=decide_eq_false (by omega)
      have hnx:(q2+1) % k=(j+(r+1)) % k:=by rw [hq2,Nat.mod_add_mod,Nat.add_assoc]
      have hrem:vbin .rem (.int .i64 ((q2:Int)+1)) (.int .i64 (k:Int))=some (.int .i64 ((q2+1) % k:Nat)):=by
        rw [vbin_rem hkne]
        have:((q2:Int)+1).tmod (k:Int)=(((q2+1) % k:Nat):Int):=tmod_nat (q2+1) k
        rw [this]
      have hqi:q2=j↔r=0:=by
        rw [hq2,ring_at hj (by omega)]
        split<;>omega
      have aa:=(ha.mono x4).addr (i:=(q2:Int)) (by omega)
      have ab:=(hb.mono x4).addr (i:=(q2:Int)) (by omega)
      simp only [Int.toNat_natCast] at aa ab
      have la:=fun L=>(ha.mono x4).load (i:=q2) (by omega) (L:=L)
      obtain ⟨u3,H5,g1,g2,g3,g4⟩:=hT2.push1 (lim:=lim) (x:=p.s.getD q2 0) ⟨by omega,l4⟩ (by rw [rot_len];omega)
      have x5:=g3 H x4 (by omega)
      have x5':=g3 H3 y1 (Nat.le_refl _)
      have lb:=fun L=>(hb.mono x5).load (i:=q2) (by omega) (L:=L)
      obtain ⟨y,hy⟩:∃y,y=if r=0 then p.a.getD j 0-z else p.a.getD q2 0:=⟨_,rfl⟩
      obtain ⟨w3,H6,e1,e2,e3,e4⟩:=g2.push2 (lim:=lim) (x:=y) ⟨by omega,by omega⟩ (by rw [List.length_set,rot_len];omega)
      have x6':=e3 H3 x5' (Nat.le_refl _)
      have bq:=(h3 q2 (by omega)).2
      have yu2:=g2.ou.sl.stor
      have yu21:=g2.ou.sl.one
      have yw2:=e2.ow.sl.stor
      have yw21:=e2.ow.sl.one
      have es:(rot p.a k j (r+1)).set 0 (p.a.getD j 0-z)=(rot p.a k j r).set 0 (p.a.getD j 0-z)++[y]:=by rw [rotS_snoc,←hq2,hy]
      have es':rot p.s k j (r+1)=rot p.s k j r++[p.s.getD q2 0]:=by rw [rot_snoc,hq2]
      obtain ⟨Q,hQ⟩:∃Q,Q=(q2+1) % k:=⟨_,rfl⟩
      rw [←hQ] at hrem
      by_cases h0:r=0
      · have hj2:=hqi.2 h0
        have hd:decide ((q2:Int)=(j:Int))=true:=decide_eq_true (by omega)
        have hya:y=p.a.getD q2 0-z:=by rw [hy,if_pos h0,hj2]
        rw [hya] at e1
        simp (disch:=omega) [f1,f2,f3,f4,f5,f10,f11,f12,f13,f14,f18,f19,hne2,hd,rd0,rd1',aa,ab,la,lb,g1,e1,yu2,yu21,yw2,yw21,splice,wrap_i64,hrem]
        refine ⟨hrM,by rw [hQ,hnx];rfl,u3,w3,⟨rfl,rfl⟩,x6',by rw [es,es'];exact e2⟩
      · have hd:decide ((q2:Int)=(j:Int))=false:=decide_eq_false (fun g=>h0 (hqi.1 (by omega)))
        have hya:y=p.a.getD q2 0:=by rw [hy,if_neg h0]
        rw [hya] at e1
        simp (disch:=omega) [f1,f2,f3,f4,f5,f10,f11,f12,f13,f14,f18,f19,hne2,hd,rd0,rd1',aa,ab,la,lb,g1,e1,yu2,yu21,yw2,yw21,splice,wrap_i64,hrem]
        refine ⟨hrM,by rw [hQ,hnx];rfl,u3,w3,⟨rfl,rfl⟩,x6',by rw [es,es'];exact e2⟩
    · have hrM:r=M:=by omega
      subst hrM
      have hqj:q2=i:=by rw [hq2,hM];exact stp_at hj hi
      have hne2:decide ((q2:Int)=(i:Int))=true:=decide_eq_true (by omega)
      obtain ⟨u3,H5,g1,g2,g3,g4⟩:=hT2.push1 (lim:=lim) (x:=ln) ⟨by omega,l4⟩ (by rw [rot_len];omega)
      have x5:=g3 H x4 (by omega)
      have x5':=g3 H3 y1 (Nat.le_refl _)
      have ai:=(hb.mono x5).addr (i:=(i:Int)) (by omega)
      simp only [Int.toNat_natCast] at ai
      have li:=fun L=>(hb.mono x5).load (i:=i) (by omega) (L:=L)
      have bi:=(h3 i hi).2
      obtain ⟨w3,H6,e1,e2,e3,e4⟩:=g2.push2 (lim:=lim) (x:=p.a.getD i 0-an) ⟨by omega,by omega⟩ (by rw [List.length_set,rot_len];omega)
      have x6':=e3 H3 x5' (Nat.le_refl _)
      have yu2:=g2.ou.sl.stor
      have yu21:=g2.ou.sl.one
      have yw2:=e2.ow.sl.stor
      have yw21:=e2.ow.sl.one
      have k1:=(hT1.mono x6').ou.sl.stor
      have k2:=(hT1.mono x6').ou.sl.one
      have k3:=(hT1.mono x6').ow.sl.stor
      have k4:=(hT1.mono x6').ow.sl.one
      have hres:=hK H3 H6 u' w' u3 w3 x3 x6' (hT1.mono x6') (by
        unfold half
        simp only
        rw [←hk,hz2]
        exact e2)
      simp (disch:=omega) [f1,f2,f3,f4,f5,f10,f11,f12,f13,f14,f18,f19,hne2,rd0,rd1',rdA2,ai,li,g1,e1,yu2,yu21,yw2,yw21,k1,k2,k3,k4,splice,wrap_i64]
      exact hres
end
end Go.Proofs.Ytclghkegfpcdpaa.Vm
namespace Go.Proofs.Ytclghkegfpcdpaa.Vm
set_option linter.unusedVariables false
set_option linter.unusedSimpArgs false
attribute [-simp] List.getD_eq_getElem?_getD
def mvP (A P k i n:Nat)(a b:Int):Int:=if a=A then (if stp k i b.toNat<n then (A:Int) else (P:Int)) else a
def mvI (A k i n:Nat)(a b:Int):Int:=if a=A then (if stp k i b.toNat<n then (stp k i b.toNat:Int) else ((stp k i b.toNat-n:Nat):Int)) else b
def mvS (A P k i n:Nat)(s:Sm):Sm:=⟨mvP A P k i n s.A s.I,mvI A k i n s.A s.I,mvP A P k i n s.B s.J,mvI A k i n s.B s.J⟩
def splB (k i j:Nat)(ln an:Int):Bool:=decide (i≠j∧(i+1) % k≠j∧(j+1) % k≠i∧(1≤ln∧ln≤200)∧(1≤an∧an≤359))
def splZ (p:Pc)(i j:Nat)(an:Int):Bool:=decide ((1≤lastZ p i (stp p.s.length i j) an∧lastZ p i (stp p.s.length i j) an≤359)∧(1≤p.a.getD j 0-lastZ p i (stp p.s.length i j) an∧p.a.getD j 0-lastZ p i (stp p.s.length i j) an≤359)∧(1≤p.a.getD i 0-an∧p.a.getD i 0-an≤359))
def splE (c:Cp)(A i j ln an:Int):Int :=
  if capE c≠0 then capE c else if !(sdOk c.P A i&&sdOk c.P A j) then 5 else
  if !(splB (ksN c.P A.toNat) i.toNat j.toNat ln an&&splZ (c.P.getD A.toNat default) i.toNat j.toNat an) then 1 else if c.P.length=8 then 4 else 0
def h1P (p:Pc)(i j:Nat)(ln an:Int):Pc:=half p i (stp p.s.length i j) ln an
def h2P (p:Pc)(i j:Nat)(ln an:Int):Pc:=half p j (stp p.s.length j i) ln (p.a.getD j 0-lastZ p i (stp p.s.length i j) an)
def splP (P:List Pc)(A i j:Nat)(ln an:Int):List Pc:=P.set A (h1P (P.getD A default) i j ln an)++[h2P (P.getD A default) i j ln an]
def splS (P:List Pc)(S:List Sm)(A i j:Nat):List Sm:=S.map (mvS A P.length (ksN P A) i (stp (ksN P A) i j))++[⟨(A:Int),(stp (ksN P A) i j:Int),(P.length:Int),(stp (ksN P A) j i:Int)⟩]
def splC (c:Cp)(A i j ln an:Int):Cp:=⟨splP c.P A.toNat i.toNat j.toNat ln an,splS c.P c.S A.toNat i.toNat j.toNat,c.e⟩
section
variable {k i j b:Nat}
theorem stp_rem (hi:i<k)(hj:j<k)(hb:b<k)(h:stp k i j≤stp k i b):stp k j b=stp k i b-stp k i j:=by
  have e1:=stp_eq hi hj
  have e2:=stp_eq hi hb
  rw [stp_eq hj hb]
  split at e1<;>split at e2<;>split<;>omega
theorem CapOk.smB {c:Cp}(h:CapOk c){t:Nat}(ht:t<c.S.length):sdOk c.P (c.S.getD t default).A (c.S.getD t default).I=true∧sdOk c.P (c.S.getD t default).B (c.S.getD t default).J=true:=(seam_ok (h.sm t ht)).1
end
end Go.Proofs.Ytclghkegfpcdpaa.Vm
namespace Go.Proofs.Ytclghkegfpcdpaa.Vm
open Go
set_option maxRecDepth 100000
set_option maxHeartbeats 1000000
set_option linter.unusedSimpArgs false
set_option linter.unusedVariables false
attribute [-simp] List.getD_eq_getElem?_getD
section
variable {n lim:Nat}{H H' H1:Hp}{K:V→Hp→Prop}{v pv sv a b u w:V}{ps:List (V×V)}{P:List Pc}{S:List Sm}{e:Int}{ws:List V}{c d:Cp}{l m:List Int}
theorem fr0_75 {a b c d e f g:V}:fr0 [a,b,c,d,e,f,g] 5=f:=Eq.trans rfl rfl
theorem fr0_76 {a b c d e f g:V}:fr0 [a,b,c,d,e,f,g] 6=g:=Eq.trans rfl rfl
theorem mv_rem {k i:Nat}{b:Int}(hi:i<k)(hb:0≤b∧b<k):(b-(i:Int)+(k:Int)).tmod (k:Int)=(stp k i b.toNat:Nat):=by
  have e:b-(i:Int)+(k:Int)=((b.toNat+k-i:Nat):Int):=by omega
  rw [e];exact tmod_nat _ _
theorem surf_mv {A P k i n b2 b3 b4 b5 b6:Nat}{x y:Int}{o2 o3 o4 o5 o6:Bool}(hi:i<k)(hk:k≤1000∧n≤1000)(hxy:x=A→0≤y∧y<k)(h2:H[b2]? = some (.row [.int .i64 (A:Nat)] o2))(h3:H[b3]? = some (.row [.int .i64 (i:Nat)] o3))(h4:H[b4]? = some (.row [.int .i64 (k:Nat)] o4))(h5:H[b5]? = some (.row [.int .i64 (n:Nat)] o5))(h6:H[b6]? = some (.row [.int .i64 (P:Nat)] o6))
    (hK:K (.tup [.int .i64 (mvP A P k i n x y),.int .i64 (mvI A k i n x y)]) H):VCall tbl lim 95 [.int .i64 x,.int .i64 y,.ptr b2 0,.ptr b3 0,.ptr b4 0,.ptr b5 0,.ptr b6 0] H K:=by
  refine VCall_fn tbl_at95 rfl ?_
  have r1:∀x:V,rd none [x] 0=some x:=fun _=>rfl
  by_cases hx:x=A
  case neg =>
    have hd:=decide_eq_false hx
    rw [mvP,mvI,if_neg hx,if_neg hx] at hK
    simp [vf95,h2,r1,hd]
    exact hK
  have hd:=decide_eq_true hx
  obtain ⟨hy1,hy2⟩:=hxy hx
  have hkne:(k:Int)≠0:=by omega
  have hrem:vbin .rem (.int .i64 (y-(i:Int)+(k:Int))) (.int .i64 (k:Int))=some (.int .i64 (stp k i y.toNat:Nat)):=by
    rw [vbin_rem hkne,mv_rem hi ⟨hy1,hy2⟩]
  rw [mvP,mvI,if_pos hx,if_pos hx] at hK
  by_cases hn:stp k i y.toNat<n
  · have hd2:decide ((stp k i y.toNat:Int)<(n:Int))=true:=decide_eq_true (by omega)
    rw [if_pos hn,if_pos hn] at hK
    simp (disch:=omega) [vf95,h2,h3,h4,h5,h6,r1,hd,wrap_i64,hrem,hn,fr0_75,fr0_76]
    exact hK
  · have hd2:decide ((stp k i y.toNat:Int)<(n:Int))=false:=decide_eq_false (by omega)
    have hlt:stp k i y.toNat<k:=stp_lt hi (by omega)
    rw [if_neg hn,if_neg hn] at hK
    have e:((stp k i y.toNat-n:Nat):Int)=(stp k i y.toNat:Int)-(n:Int):=by omega
    rw [e] at hK
    simp (disch:=omega) [vf95,h2,h3,h4,h5,h6,r1,hd,wrap_i64,hrem,hn,fr0_75,fr0_76]
    exact hK
theorem sm_st {i j:Nat}{x:Int}{y:Sm}(h:OwnT n smC H v S)(hlim:lim≤n)(hi:i<S.length)(hj:j<4)(hy:smC.cells y=splice (smC.cells (S.getD i default)) j [.int .i64 x]) :
    ∃H',(∀L,vstore lim L H (eptf 4 v i j) (.int .i64 x) 1=some (L,H'))∧OwnT n smC H' v (S.set i y)∧(∀b,(∀o z y,v≠.sl b o z y)→H'[b]? = H[b]?)∧H'.length=H.length:=by
  refine ⟨setH H v (smC.all (S.set i y)),fun L=>h.store hlim hi rfl rfl (by omega) hy,h.put (by simp),fun b hb => ?_,h.setLen⟩
  cases h with
  | nil=>rfl
  | row h1 h3=>simp only [setH];rw [List.getElem?_set_ne (fun e=>hb _ _ _ (by rw [e]))]
theorem set_setS {i:Nat}{x y:Sm}:(S.set i x).set i y=S.set i y:=by rw [List.set_set]
theorem getD_setS {i:Nat}{x:Sm}(h:i<S.length):(S.set i x).getD i default=x:=by
  simp [List.getD_eq_getElem?_getD,h]
def mvT (f:Sm→Sm)(S:List Sm)(t:Nat):List Sm:=(S.take t).map f++S.drop t
theorem mvT_len {f:Sm→Sm}{t:Nat}:(mvT f S t).length=S.length:=by simp [mvT];omega
theorem mvT_get {f:Sm→Sm}{t:Nat}(h:t<S.length):(mvT f S t).getD t default=S.getD t default:=by
  unfold mvT
  rw [getD_ge (j:=0) (by simp;omega)]
  simp [List.getD_eq_getElem?_getD]
theorem mvT_set {f:Sm→Sm}{t:Nat}(h:t<S.length):(mvT f S t).set t (f (S.getD t default))=mvT f S (t+1):=by
  unfold mvT
  have e:((S.take t).map f).length=t:=by simp;omega
  rw [List.set_append_right _ _ (by omega),e,Nat.sub_self,List.drop_eq_getElem_cons h,List.set_cons_zero,take_next h,List.map_append]
  simp
theorem fr0_65 {a b c d e f:V}:fr0 [a,b,c,d,e,f] 5=f:=Eq.trans rfl rfl
theorem surf_moveSeams {A N i m k:Nat}(ho:OwnT n smC H v S)(hlim:lim≤n∧n≤H.length)(hi:i<k)(hk:k≤1000∧m≤1000)(hs:∀t,t<S.length→((S.getD t default).A=A→0≤(S.getD t default).I∧(S.getD t default).I<k)∧((S.getD t default).B=A→0≤(S.getD t default).J∧(S.getD t default).J<k))(hl:S.length≤1000)
    (hK:∀H',OwnT n smC H' v (S.map (mvS A N k i m))→(∀b,b<H.length→(∀o z y,v≠.sl b o z y)→H'[b]? = H[b]?)→H.length≤H'.length→K (.tup []) H') :
    VCall tbl lim 77 [v,.int .i64 (A:Nat),.int .i64 (N:Nat),.int .i64 (i:Nat),.int .i64 (m:Nat),.int .i64 (k:Nat)] H K:=by
  refine VCall_fn tbl_at77 rfl ?_
  have hsv:=ho.lst.stor
  simp [vf77,ho.lst.len,fr0_65]
  obtain ⟨Hc,hHc⟩:∃Hc,Hc=H++[Blk.row [V.int IntKind.i64 (A:Nat)] true,Blk.row [V.int IntKind.i64 (N:Nat)] true,Blk.row [V.int IntKind.i64 (i:Nat)] true,Blk.row [V.int IntKind.i64 (m:Nat)] true,Blk.row [V.int IntKind.i64 (k:Nat)] true]:=⟨_,rfl⟩
  have hcl:Hc.length=H.length+5:=by rw [hHc];simp
  have c0:Hc[H.length]? = some (.row [.int .i64 (A:Nat)] true):=by rw [hHc,List.getElem?_append_right (by omega)];simp
  have c1:Hc[H.length+1]? = some (.row [.int .i64 (N:Nat)] true):=by rw [hHc,List.getElem?_append_right (by omega)];simp
  have c2:Hc[H.length+2]? = some (.row [.int .i64 (i:Nat)] true):=by rw [hHc,List.getElem?_append_right (by omega)];simp
  have c3:Hc[H.length+3]? = some (.row [.int .i64 (m:Nat)] true):=by rw [hHc,List.getElem?_append_right (by omega)];simp
  have c4:Hc[H.length+4]? = some (.row [.int .i64 (k:Nat)] true):=by rw [hHc,List.getElem?_append_right (by omega)];simp
  have cold:∀b,b<H.length→Hc[b]? = H[b]? := fun b hb=>by rw [hHc,List.getElem?_append_left hb]
  have hob:=ho.belowB
  have ho:OwnT n smC Hc v S:=ho.keepB fun b o z y e=>cold b (hob _ _ _ _ e).2
  rw [←hHc]
  refine wLoop_up S.length (fun t fr L H'=>(fr 0=v∧fr 12=.func (.func 95) [] [.ptr H.length 0,.ptr (H.length+2) 0,.ptr (H.length+4) 0,.ptr (H.length+3) 0,.ptr (H.length+1) 0]∧fr 16=.int .i64 S.length∧fr 17=.int .i64 t)∧L=[]∧OwnT n smC H' v (mvT (mvS A N k i m) S t)∧(∀b,(∀o z y,v≠.sl b o z y)→H'[b]? = Hc[b]?)∧H'.length=Hc.length) ⟨by simp,by simp,by simpa [mvT] using ho,fun _ _=>rfl,rfl⟩ ?_
  rintro t ht fr L H1 ⟨⟨f0,f12,f16,f17⟩,rfl,hT,hk1,hl1⟩
  have hov:∀b,H.length≤b→b<H.length+5→∀o z y,v≠.sl b o z y:=fun b hb _ o z y e=>by have:=(hob _ _ _ _ e).2;omega
  simp [f0,f12,f16,f17]
  refine cond_dec (fun htt => ?_) fun hfl => ?_
  · have htt:t<S.length:=by omega
    have hTl:(mvT (mvS A N k i m) S t).length=S.length:=mvT_len
    have hg:=mvT_get (f:=mvS A N k i m) htt
    obtain ⟨s,hs0⟩:∃s,s=S.getD t default:=⟨_,rfl⟩
    obtain ⟨hsA,hsB⟩:=hs t htt
    rw [←hs0] at hsA hsB hg
    have at1:=hT.lst.at (i:=t) (by omega)
    have fa1:=fun j=>hT.lst.faddr (i:=t) (j:=j) (by omega)
    have ldA:∀L,vload none L H1 (eptf 4 v t 0)=some (.int .i64 s.A):=fun L=>by rw [hT.lst.rd1 (by omega) (by omega),hg];rfl
    have ldI:∀L,vload none L H1 (eptf 4 v t 1)=some (.int .i64 s.I):=fun L=>by rw [hT.lst.rd1 (by omega) (by omega),hg];rfl
    obtain ⟨H2,w1,w2,w3,w4⟩:=sm_st (lim:=lim) (i:=t) (j:=0) (x:=mvP A N k i m s.A s.I) (y:=⟨mvP A N k i m s.A s.I,s.I,s.B,s.J⟩) hT hlim.1 (by omega) (by omega) (by rw [hg];rfl)
    have hg2:((mvT (mvS A N k i m) S t).set t ⟨mvP A N k i m s.A s.I,s.I,s.B,s.J⟩).getD t default=⟨mvP A N k i m s.A s.I,s.I,s.B,s.J⟩:=getD_setS (by omega)
    obtain ⟨H3,y1,y2,y3,y4⟩:=sm_st (lim:=lim) (i:=t) (j:=1) (x:=mvI A k i m s.A s.I) (y:=⟨mvP A N k i m s.A s.I,mvI A k i m s.A s.I,s.B,s.J⟩) w2 hlim.1 (by rw [List.length_set];omega) (by omega) (by rw [hg2];rfl)
    rw [set_setS] at y2
    have lp:∀j,isLp (eptf 4 v t j)=false:=fun j=>by
      obtain ⟨b,e,_⟩:=hT.row_of (by omega)
      rw [e];rfl
    have pt:∀j,isPtr (eptf 4 v t j)=true:=fun j=>by
      obtain ⟨b,e,_⟩:=hT.row_of (by omega)
      rw [e];rfl
    have k0:H1[H.length]? = some (.row [.int .i64 (A:Nat)] true):=by rw [hk1 _ (hov _ (by omega) (by omega))];exact c0
    have k1:H1[H.length+1]? = some (.row [.int .i64 (N:Nat)] true):=by rw [hk1 _ (hov _ (by omega) (by omega))];exact c1
    have k2:H1[H.length+2]? = some (.row [.int .i64 (i:Nat)] true):=by rw [hk1 _ (hov _ (by omega) (by omega))];exact c2
    have k3:H1[H.length+3]? = some (.row [.int .i64 (m:Nat)] true):=by rw [hk1 _ (hov _ (by omega) (by omega))];exact c3
    have k4:H1[H.length+4]? = some (.row [.int .i64 (k:Nat)] true):=by rw [hk1 _ (hov _ (by omega) (by omega))];exact c4
    simp [f0,f12,f16,f17,at1,fa1,ldA,ldI,lp,pt]
    refine surf_mv hi hk hsA k0 k2 k4 k3 k1 ?_
    have hg3:((mvT (mvS A N k i m) S t).set t ⟨mvP A N k i m s.A s.I,mvI A k i m s.A s.I,s.B,s.J⟩).getD t default=⟨mvP A N k i m s.A s.I,mvI A k i m s.A s.I,s.B,s.J⟩:=getD_setS (by omega)
    have hl3:((mvT (mvS A N k i m) S t).set t ⟨mvP A N k i m s.A s.I,mvI A k i m s.A s.I,s.B,s.J⟩).length=S.length:=by rw [List.length_set];omega
    have ldB:∀L,vload none L H3 (eptf 4 v t 2)=some (.int .i64 s.B):=fun L=>by rw [y2.lst.rd1 (by omega) (by omega),hg3];rfl
    have ldJ:∀L,vload none L H3 (eptf 4 v t 3)=some (.int .i64 s.J):=fun L=>by rw [y2.lst.rd1 (by omega) (by omega),hg3];rfl
    obtain ⟨H4,z1,z2,z3,z4⟩:=sm_st (lim:=lim) (i:=t) (j:=2) (x:=mvP A N k i m s.B s.J) (y:=⟨mvP A N k i m s.A s.I,mvI A k i m s.A s.I,mvP A N k i m s.B s.J,s.J⟩) y2 hlim.1 (by omega) (by omega) (by rw [hg3];rfl)
    rw [set_setS] at z2
    have hg4:((mvT (mvS A N k i m) S t).set t ⟨mvP A N k i m s.A s.I,mvI A k i m s.A s.I,mvP A N k i m s.B s.J,s.J⟩).getD t default=⟨mvP A N k i m s.A s.I,mvI A k i m s.A s.I,mvP A N k i m s.B s.J,s.J⟩:=getD_setS (by omega)
    obtain ⟨H5,u1,u2,u3,u4⟩:=sm_st (lim:=lim) (i:=t) (j:=3) (x:=mvI A k i m s.B s.J) (y:=mvS A N k i m s) z2 hlim.1 (by rw [List.length_set];omega) (by omega) (by rw [hg4];rfl)
    rw [set_setS,hs0,mvT_set htt] at u2
    have kp3:∀b,(∀o z y,v≠.sl b o z y)→H3[b]? = Hc[b]? := fun b hb=>by rw [y3 b hb,w3 b hb,hk1 b hb]
    have q0:H3[H.length]? = some (.row [.int .i64 (A:Nat)] true):=by rw [kp3 _ (hov _ (by omega) (by omega))];exact c0
    have q1:H3[H.length+1]? = some (.row [.int .i64 (N:Nat)] true):=by rw [kp3 _ (hov _ (by omega) (by omega))];exact c1
    have q2:H3[H.length+2]? = some (.row [.int .i64 (i:Nat)] true):=by rw [kp3 _ (hov _ (by omega) (by omega))];exact c2
    have q3:H3[H.length+3]? = some (.row [.int .i64 (m:Nat)] true):=by rw [kp3 _ (hov _ (by omega) (by omega))];exact c3
    have q4:H3[H.length+4]? = some (.row [.int .i64 (k:Nat)] true):=by rw [kp3 _ (hov _ (by omega) (by omega))];exact c4
    simp [f0,f12,f16,f17,at1,fa1,lp,pt,w1,y1,ldB,ldJ,-vstore,lpId_ept]
    refine surf_mv hi hk hsB q0 q2 q4 q3 q1 ?_
    simp (disch:=omega) [f0,f12,f16,f17,at1,fa1,lp,pt,z1,u1,-vstore,lpId_ept,wrap_i64]
    exact ⟨htt,u2,fun b hb=>by rw [u3 b hb,z3 b hb,kp3 b hb],by omega⟩
  · have:t=S.length:=by omega
    subst this
    have e:mvT (mvS A N k i m) S S.length=S.map (mvS A N k i m):=by simp [mvT]
    rw [e] at hT
    simp
    exact hK H1 hT (fun b hb hv=>by rw [hk1 b hv,cold b hb]) (by omega)
structure YC (n:Nat)(H:Hp)(pv sv:V)(ps:List (V×V))(P:List Pc)(S:List Sm):Prop where
  p:OPcsV n H pv ps P
  s:OwnT n smC H sv S
  a1:nal pv sv
  a2:∀i,i<P.length→nal sv (ps.getD i default).1∧nal sv (ps.getD i default).2
theorem XC.yc (h:XC n H pv sv ps P S):YC n H pv sv ps P S:=⟨h.p,h.s,h.a1,h.a2⟩
theorem YC.le {n':Nat}(hn:n'≤n)(h:YC n H pv sv ps P S):YC n' H pv sv ps P S:=⟨h.p.le hn,h.s.le hn,h.a1,h.a2⟩
theorem YC.cap (h:YC n H pv sv ps P S):CapV H [pv,sv,.int .i64 e] ⟨P,S,e⟩:=.mk h.p.pcsV h.s.lst
theorem getD_setV {ps:List (V×V)}{i t:Nat}{x:V×V}(h:i<ps.length):(ps.set i x).getD t default=if t=i then x else ps.getD t default:=by
  simp only [List.getD_eq_getElem?_getD,List.getElem?_set]
  by_cases e:i=t
  · subst e;simp [h]
  · rw [if_neg e,if_neg (fun h=>e h.symm)]
theorem YC.setP {q:Nat}{p:Pc}(h:YC n H pv sv ps P S)(hq:q<P.length)(ha:OwnV n H a p.s)(hb:OwnV n H b p.a)(na:nal pv a∧nal sv a)(nb:nal pv b∧nal sv b)(hlim:lim≤n) :
    ∃H',(∀L,vstore lim L H (ept 2 pv q) (.agg [a,b]) 2=some (L,H'))∧YC n H' pv sv (ps.set q (a,b)) (P.set q p) S∧(∀H0,HX H0 H→H0.length≤n→HX H0 H')∧(∀b,(∀o z y,pv≠.sl b o z y)→H'[b]? = H[b]?)∧H'.length=H.length:=by
  obtain ⟨h1,h2,h3,h4⟩:=h
  have hql:q<ps.length:=by rw [h1.len];exact hq
  have he:eptf 2 pv q 0=ept 2 pv q:=by
    obtain ⟨b',e,_⟩:=h1.own.row_of (by omega)
    rw [e];rfl
  have sa:stor a=true:=ha.sl.stor
  have sb:stor b=true:=hb.sl.stor
  have ca:cellsV a=[a]:=ha.sl.one
  have cb:cellsV b=[b]:=hb.sl.one
  have st:stor (.agg [a,b])=true:=by simp [stor,sa,sb,ca,cb]
  have kp:∀b',(∀o z y,pv≠.sl b' o z y)→(setH H pv (pvC.all (ps.set q (a,b))))[b']? = H[b']? := fun b' hb'=>by
    cases hv:pv with
    | sl b2 o z y =>
      simp only [setH]
      rw [List.getElem?_set_ne (fun e=>hb' o z y (by rw [hv,e]))]
    | _=>rfl
  have kv:∀{u:V},nal pv u→∀b' o m z,u=.sl b' o m z→(setH H pv (pvC.all (ps.set q (a,b))))[b']? = H[b']? := fun hu b' o m z e=>kp b' fun o' z' y' e'=>hu _ _ _ _ _ _ _ e' e
  refine ⟨setH H pv (pvC.all (ps.set q (a,b))),fun L => ?_,⟨⟨h1.own.put (by simp),by simp [h1.len],fun i hi => ?_,fun i hi => ?_⟩,h2.keepB (kv h3),h3,fun i hi => ?_⟩,fun H0 hx hl=>HX.of (by rw [h1.own.setLen];exact hx.len) fun b' hb'=>by rw [kp b' fun o z y e=>by have:=(h1.own.belowB _ _ _ _ e).1;omega,hx.same hb'],kp,h1.own.setLen⟩
  · rw [←he]
    exact h1.own.store hlim hql st rfl (by omega) rfl
  · rw [List.length_set] at hi
    rw [getD_setV hql,getD_setP hq]
    split
    · exact ⟨ha.keepB (kv na.1),hb.keepB (kv nb.1)⟩
    · have t:=h1.at' i hi
      exact ⟨t.1.keepB (kv fun b o z w o' z' w' e e'=>h1.ap i hi _ _ _ _ _ _ _ e (Or.inl e')),t.2.keepB (kv fun b o z w o' z' w' e e'=>h1.ap i hi _ _ _ _ _ _ _ e (Or.inr e'))⟩
  · rw [List.length_set] at hi
    rw [getD_setV hql]
    intro b' o z y o' z' y' e e'
    split at e'
    · rcases e' with e' | e'
      · exact na.1 _ _ _ _ _ _ _ e e'
      · exact nb.1 _ _ _ _ _ _ _ e e'
    · exact h1.ap i hi _ _ _ _ _ _ _ e e'
  · rw [List.length_set] at hi
    rw [getD_setV hql]
    split
    · exact ⟨na.2,nb.2⟩
    · exact h4 i hi
theorem YC.pushP2 {p:Pc}(h:YC n H pv sv ps P S)(ha:OwnV n H a p.s)(hb:OwnV n H b p.a)(na:nal pv a∧nal sv a)(nb:nal pv b∧nal sv b)(hn:lim≤n∧n≤H.length)(hl:P.length<1000000) :
    ∃pv' H',vappend lim 2 48 (H++[.row [a,b] true]) pv (.sl H.length 0 1 2)=some (pv',H')∧YC n H' pv' sv (ps++[(a,b)]) (P++[p]) S∧(∀H0,HX H0 H→H0.length≤n→HX H0 H')∧H.length≤H'.length:=by
  obtain ⟨h1,h2,h3,h4⟩:=h
  obtain ⟨v',H2,a1,a2,a3,a4,a5,a6⟩:=h1.own.appendF2 (lim:=lim) (bytes:=48) (x:=(a,b)) (cs:=[a,b]) rfl hn (by omega) (by rw [h1.len];exact hl)
  have kv:∀{u:V},nal pv u→(∀b o m z,u=.sl b o m z→b<H.length)→∀b' o m z,u=.sl b' o m z→H2[b']? = H[b']? := fun hu hb b' o m z e=>a5 b' (hb _ _ _ _ e) fun o' z' y' e'=>hu _ _ _ _ _ _ _ e' e
  have la:=fun b o m z e=>(ha.belowB b o m z e).2
  have lb:=fun b o m z e=>(hb.belowB b o m z e).2
  refine ⟨v',H2,a1,⟨⟨a2,by simp [h1.len],fun i hi => ?_,fun i hi b' o z y o' z' y' e e' => ?_⟩,h2.keepB (kv h3 fun b o m z e=>(h2.belowB _ _ _ _ e).2),fun b o z y o' z' y' e e' => ?_,fun i hi => ?_⟩,a3,a4⟩
  · rw [List.length_append,List.length_singleton] at hi
    by_cases hlt:i<P.length
    · rw [getD_lt (l:=ps) (by rw [h1.len];exact hlt),getD_lt hlt]
      have t:=h1.at' i hlt
      exact ⟨t.1.keepB (kv (fun b o z w o' z' w' e e'=>h1.ap i hlt _ _ _ _ _ _ _ e (Or.inl e')) fun b o m z e=>(t.1.belowB _ _ _ _ e).2),t.2.keepB (kv (fun b o z w o' z' w' e e'=>h1.ap i hlt _ _ _ _ _ _ _ e (Or.inr e')) fun b o m z e=>(t.2.belowB _ _ _ _ e).2)⟩
    · have:i=P.length:=by omega
      subst this
      rw [getD_last h1.len.symm,getD_last rfl]
      exact ⟨ha.keepB (kv na.1 la),hb.keepB (kv nb.1 lb)⟩
  · rw [List.length_append,List.length_singleton] at hi
    have h6:=a6 _ _ _ _ e
    by_cases hlt:i<P.length
    · rw [getD_lt (l:=ps) (by rw [h1.len];exact hlt)] at e'
      have t:=h1.at' i hlt
      rcases e' with e' | e'
      · have:=(t.1.belowB _ _ _ _ e').2;omega
      · have:=(t.2.belowB _ _ _ _ e').2;omega
    · have:i=P.length:=by omega
      subst this
      rw [getD_last h1.len.symm] at e'
      rcases e' with e' | e'
      · have:=la _ _ _ _ e';omega
      · have:=lb _ _ _ _ e';omega
  · have:=a6 _ _ _ _ e
    have:=(h2.belowB _ _ _ _ e').2
    omega
  · rw [List.length_append,List.length_singleton] at hi
    by_cases hlt:i<P.length
    · rw [getD_lt (l:=ps) (by rw [h1.len];exact hlt)];exact h4 i hlt
    · have:i=P.length:=by omega
      subst this
      rw [getD_last h1.len.symm];exact ⟨na.2,nb.2⟩
theorem YC.seams {S':List Sm}(h:YC n H pv sv ps P S)(hs:OwnT n smC H' sv S')(hk:∀b,b<H.length→(∀o z y,sv≠.sl b o z y)→H'[b]? = H[b]?):YC n H' pv sv ps P S':=by
  obtain ⟨h1,h2,h3,h4⟩:=h
  refine ⟨h1.keepB (fun b o m z e=>hk b (h1.own.belowB _ _ _ _ e).2 fun o' z' y' e'=>h3 _ _ _ _ _ _ _ e e') fun i hi b o m z e => ?_,hs,h3,h4⟩
  rcases e with e | e
  · exact hk b ((h1.at' i hi).1.belowB _ _ _ _ e).2 fun o' z' y' e'=>(h4 i hi).1 _ _ _ _ _ _ _ e' e
  · exact hk b ((h1.at' i hi).2.belowB _ _ _ _ e).2 fun o' z' y' e'=>(h4 i hi).2 _ _ _ _ _ _ _ e' e
theorem YC.pushS {x:Sm}{cs:List V}(hcs:smC.cells x=cs)(h:YC n H pv sv ps P S)(hn:lim≤n∧n≤H.length)(hl:S.length<1000000) :
    ∃sv' H',vappend lim 4 32 (H++[.row cs true]) sv (.sl H.length 0 1 4)=some (sv',H')∧YC n H' pv sv' ps P (S++[x])∧(∀H0,HX H0 H→H0.length≤n→HX H0 H')∧H.length≤H'.length:=by
  obtain ⟨h1,h2,h3,h4⟩:=h
  obtain ⟨v',H',a1,a2,a3,a4,a5,a6⟩:=h2.appendF2 (lim:=lim) (bytes:=32) hcs hn (by omega) hl
  refine ⟨v',H',a1,⟨h1.keepB (fun b o m z e=>a5 b (h1.own.belowB _ _ _ _ e).2 fun o' z' y' e'=>h3 _ _ _ _ _ _ _ e e') fun i hi b o m z e => ?_,a2,fun b o z y o' z' y' e e' => ?_,fun i hi=>⟨fun b o z y o' z' y' e e' => ?_,fun b o z y o' z' y' e e' => ?_⟩⟩,a3,a4⟩
  · rcases e with e | e
    · exact a5 b ((h1.at' i hi).1.belowB _ _ _ _ e).2 fun o' z' y' e'=>(h4 i hi).1 _ _ _ _ _ _ _ e' e
    · exact a5 b ((h1.at' i hi).2.belowB _ _ _ _ e).2 fun o' z' y' e'=>(h4 i hi).2 _ _ _ _ _ _ _ e' e
  · have:=(h1.own.belowB _ _ _ _ e).2
    have:=a6 _ _ _ _ e'
    omega
  · have h6:=a6 _ _ _ _ e
    have:=((h1.at' i hi).1.belowB _ _ _ _ e').2;omega
  · have h6:=a6 _ _ _ _ e
    have:=((h1.at' i hi).2.belowB _ _ _ _ e').2;omega
end
end Go.Proofs.Ytclghkegfpcdpaa.Vm
namespace Go.Proofs.Ytclghkegfpcdpaa.Vm
open Go
set_option maxRecDepth 100000
set_option maxHeartbeats 1000000
set_option linter.unusedSimpArgs false
set_option linter.unusedVariables false
attribute [-simp] List.getD_eq_getElem?_getD
section
variable {n lim:Nat}{H H' H1:Hp}{K:V→Hp→Prop}{v pv sv a b u w:V}{ps:List (V×V)}{P:List Pc}{S:List Sm}{e:Int}{ws:List V}{c d:Cp}{l m:List Int}
theorem half_len {p:Pc}{i m:Nat}{ln x:Int}:(half p i m ln x).a.length=m+1∧(half p i m ln x).s.length=m+1:=by simp [half,rot_len]
theorem half_last {p:Pc}{i m:Nat}{ln x:Int}:(half p i m ln x).a.getD ((half p i m ln x).a.length-1) 0=lastZ p i m x:=by
  rw [half_len.1]
  unfold half
  simp only [Nat.add_sub_cancel]
  rw [getD_ge (j:=0) (by simp [rot_len])]
  rfl
theorem half_first {p:Pc}{i m:Nat}{ln x:Int}(hm:0<m):(half p i m ln x).a.getD 0 0=x:=by
  unfold half
  simp only
  rw [getD_lt (by simp [rot_len];omega),getD_setI (by rw [rot_len];exact hm),if_pos rfl]
theorem lastZ_bd {p:Pc}{i m:Nat}{x:Int}(hp:pieceB p=true)(hi:i<p.s.length)(hm:0<m∧m≤6)(hx : -5000≤x∧x≤5000) : -20000≤lastZ p i m x∧lastZ p i m x≤20000:=by
  rw [lastZ_eq hm.1 hi]
  have b:=rot_bd hp (i:=i) (t:=m)
  have b2:=((piece_ok hp).2.2.1 i hi).2
  omega
theorem r02_moved {A P k i j:Nat}{x y:Int}(hi:i<k)(hj:j<k)(hk:k≤1000)(hxy:x=A→0≤y∧y<k)
    (hK:K (.tup [.int .i64 (mvP A P k i (stp k i j) x y),.int .i64 (mvI A k i (stp k i j) x y)]) H):VCall tbl lim 80 [.int .i64 x,.int .i64 y,.int .i64 (A:Nat),.int .i64 (i:Nat),.int .i64 (j:Nat),.int .i64 (k:Nat),.int .i64 (P:Nat)] H K:=by
  refine VCall_fn tbl_at80 rfl ?_
  by_cases hx:x=A
  case neg =>
    have hd:=decide_eq_false hx
    rw [mvP,mvI,if_neg hx,if_neg hx] at hK
    simp [vf80,hd]
    exact hK
  have hd:=decide_eq_true hx
  obtain ⟨hy1,hy2⟩:=hxy hx
  have hkne:(k:Int)≠0:=by omega
  have hrem:vbin .rem (.int .i64 (y-(i:Int)+(k:Int))) (.int .i64 (k:Int))=some (.int .i64 (stp k i y.toNat:Nat)):=by
    rw [vbin_rem hkne,mv_rem hi ⟨hy1,hy2⟩]
  have hrem2:vbin .rem (.int .i64 ((j:Int)-(i:Int)+(k:Int))) (.int .i64 (k:Int))=some (.int .i64 (stp k i j:Nat)):=by
    rw [vbin_rem hkne,mv_rem hi (by omega),Int.toNat_natCast]
  have hrem3:vbin .rem (.int .i64 (y-(j:Int)+(k:Int))) (.int .i64 (k:Int))=some (.int .i64 (stp k j y.toNat:Nat)):=by
    rw [vbin_rem hkne,mv_rem hj ⟨hy1,hy2⟩]
  rw [mvP,mvI,if_pos hx,if_pos hx] at hK
  by_cases hn:stp k i y.toNat<stp k i j
  · rw [if_pos hn,if_pos hn,←hx] at hK
    simp (disch:=omega) [vf80,hd,wrap_i64,hrem,hrem2,hn,fr0_75,fr0_76]
    exact hK
  · rw [if_neg hn,if_neg hn,←stp_rem hi hj (by omega) (Nat.le_of_not_lt hn)] at hK
    simp (disch:=omega) [vf80,hd,wrap_i64,hrem,hrem2,hrem3,hn,fr0_75,fr0_76]
    exact hK
theorem sm_stW {i:Nat}{y:Sm}(h:OwnT n smC H v S)(hlim:lim≤n)(hi:i<S.length) :
    ∃H',(∀L,vstore lim L H (ept 4 v i) (.agg [.int .i64 y.A,.int .i64 y.I,.int .i64 y.B,.int .i64 y.J]) 4=some (L,H'))∧OwnT n smC H' v (S.set i y)∧(∀b,(∀o z y,v≠.sl b o z y)→H'[b]? = H[b]?)∧H'.length=H.length:=by
  have he:eptf 4 v i 0=ept 4 v i:=by
    obtain ⟨b',e,_⟩:=h.row_of (by omega)
    rw [e];rfl
  refine ⟨setH H v (smC.all (S.set i y)),fun L => ?_,h.put (by simp),fun b hb => ?_,h.setLen⟩
  · rw [←he];exact h.store hlim hi rfl rfl (by omega) rfl
  · cases h with
    | nil=>rfl
    | row h1 h3=>simp only [setH];rw [List.getElem?_set_ne (fun e=>hb _ _ _ (by rw [e]))]
theorem r02_Split {A i j ln an:Int}(iA:I64 A)(ii:I64 i)(ij:I64 j)(hc:CapV H ws c)(hsh:ShortC c)(hlim:lim≤H.length)(hK:∀H' ws',HX H H'→CapV H' ws' (if splE c A i j ln an=0 then splC c A i j ln an else zCap)→K (.tup [.agg ws',.int .i64 (splE c A i j ln an)]) H'):VCall tbl lim 42 [.agg ws,.int .i64 A,.int .i64 i,.int .i64 j,.int .i64 ln,.int .i64 an] H K:=by
  obtain ⟨pv,sv,ps,rfl,hp,hs,z1,z2,z3,z4⟩:=hc.form
  have s1:=hsh.np
  have s2:=hsh.ns
  have hz:∀{H'},CapV H' [.snil,.snil,.int .i64 0] zCap:=fun {H'}=>zCapV (m:=0) |>.cap
  refine VCall_fn tbl_at42 rfl ?_
  simp [vf42,z1,z2,z3,z4,rdA3,fr0_65]
  refine r02_Validate hc ⟨by omega,by omega,fun q hq=>by have:=hsh.pc q hq;omega⟩ ?_
  obtain ⟨H1,eH⟩:∃H1,H1=H:=⟨_,rfl⟩
  have x1:HX H H1:=by rw [eH];exact HX.refl
  have l1:=x1.len
  have hbs:c.P.length≤1000000∧∀q,q<c.P.length→ksN c.P q≤1000000:=⟨by omega,fun q hq=>by have:=hsh.pc q hq;unfold ksN;omega⟩
  rw [←eH]
  by_cases h0:capE c=0
  case neg =>
    have e1:splE c A i j ln an=capE c:=by rw [splE,if_pos h0]
    have:=hK H1 [.snil,.snil,.int .i64 0] x1 (by rw [if_neg (by rw [e1];exact h0)];exact hz)
    rw [e1] at this
    simp [h0,rdA3,splice]
    exact this
  have hok:=capE_ok.1 h0
  have hp1:=hp.mono x1
  have bad:∀{x:Int} {H2:Hp},splE c A i j ln an=x→x≠0→HX H H2→K (.tup [.agg [.snil,.snil,.int .i64 0],.int .i64 x]) H2:=fun {x H2} e1 h x2=>by
    have:=hK H2 [.snil,.snil,.int .i64 0] x2 (by rw [if_neg (by rw [e1];exact h)];exact hz)
    rw [e1] at this
    exact this
  simp [h0,rdA3,z1,z2,z3,z4]
  refine r02_side hp1 z3 z4 hbs ?_
  by_cases q1:sdOk c.P A i=true
  case neg =>
    have q1:=Bool.eq_false_iff.2 q1
    simp [q1,rdA3,splice]
    exact bad (by rw [splE,if_neg (fun g=>g h0),q1];rfl) (by omega) x1
  simp [q1,rdA3,z1,z2,z3,z4]
  refine r02_side hp1 z3 z4 hbs ?_
  by_cases q2:sdOk c.P A j=true
  case neg =>
    have q2:=Bool.eq_false_iff.2 q2
    simp [q2,rdA3,splice]
    exact bad (by rw [splE,if_neg (fun g=>g h0),q1,q2];rfl) (by omega) x1
  obtain ⟨hA,hi,eA,ei⟩:=sd_ok q1
  obtain ⟨_,hj,_,ej⟩:=sd_ok q2
  have hE:splE c A i j ln an=if !(splB (ksN c.P A.toNat) i.toNat j.toNat ln an&&splZ (c.P.getD A.toNat default) i.toNat j.toNat an) then 1 else if c.P.length=8 then 4 else 0:=by
    rw [splE,if_neg (fun g=>g h0),q1,q2];rfl
  have hC:splC c A i j ln an=⟨splP c.P A.toNat i.toNat j.toNat ln an,splS c.P c.S A.toNat i.toNat j.toNat,c.e⟩:=rfl
  generalize A.toNat=q at *
  generalize i.toNat=i' at *
  generalize j.toNat=j' at *
  subst eA ei ej
  obtain ⟨t1,t2⟩:=hp1.at' q hA
  have hpo:=hok.pc q hA
  have hld:=hp1.ld2 hA
  have hat:=hp1.at hA
  obtain ⟨pc,hpc⟩:∃pc,pc=c.P.getD q default:=⟨_,rfl⟩
  have hkn:ksN c.P q=pc.s.length:=by rw [hpc];rfl
  rw [hkn] at hE hi hj
  rw [←hpc] at hE t1 t2 hpo
  obtain ⟨p1,p2,p3,p4⟩:=piece_ok hpo
  generalize (ps.getD q default).1=pa at *
  generalize (ps.getD q default).2=pb at *
  have hvl:vlenS pa=some (.int .i64 (pc.s.length:Nat)):=t1.len
  have hkne:(pc.s.length:Int)≠0:=by omega
  obtain ⟨m1,hm1⟩:∃m,m=(i'+1) % pc.s.length:=⟨_,rfl⟩
  obtain ⟨m2,hm2⟩:∃m,m=(j'+1) % pc.s.length:=⟨_,rfl⟩
  have hr1:vbin .rem (.int .i64 ((i':Int)+1)) (.int .i64 (pc.s.length:Int))=some (.int .i64 (m1:Nat)):=by
    rw [vbin_rem hkne,hm1]
    have:((i':Int)+1).tmod (pc.s.length:Int)=(((i'+1) % pc.s.length:Nat):Int):=tmod_nat _ _
    rw [this]
  have hr2:vbin .rem (.int .i64 ((j':Int)+1)) (.int .i64 (pc.s.length:Int))=some (.int .i64 (m2:Nat)):=by
    rw [vbin_rem hkne,hm2]
    have:((j':Int)+1).tmod (pc.s.length:Int)=(((j'+1) % pc.s.length:Nat):Int):=tmod_nat _ _
    rw [this]
  have bad1:∀{H2:Hp},splB pc.s.length i' j' ln an=false→HX H H2→K (.tup [.agg [.snil,.snil,.int .i64 0],.int .i64 1]) H2:=fun {H2} g x2=>bad (by rw [hE,g];rfl) (by omega) x2
  have hB:splB pc.s.length i' j' ln an=decide (i'≠j'∧m1≠j'∧m2≠i'∧(1≤ln∧ln≤200)∧(1≤an∧an≤359)):=by rw [hm1,hm2];rfl
  rw [hB] at bad1 hE
  have y1:=t1.stor
  have y2:=t1.one
  have y3:=t2.stor
  have y4:=t2.one
  simp [q2,hat,hld,rd0,rd1',rdA2,hvl,y1,y2,y3,y4,splice]
  by_cases b1:i'=j'
  · have d1:decide ((i':Int)=(j':Int))=true:=decide_eq_true (by omega)
    simp (disch:=omega) [d1,wrap_i64,hr1,rdA3,splice]
    exact bad1 (decide_eq_false (fun g=>g.1 b1)) x1
  have d1:decide ((i':Int)=(j':Int))=false:=decide_eq_false (by omega)
  by_cases b2:m1=j'
  · have d2:decide ((m1:Int)=(j':Int))=true:=decide_eq_true (by omega)
    simp (disch:=omega) [d1,wrap_i64,hr1,d2,rdA3,splice]
    exact bad1 (decide_eq_false (fun g=>g.2.1 b2)) x1
  have d2:decide ((m1:Int)=(j':Int))=false:=decide_eq_false (by omega)
  by_cases b3:m2=i'
  · have d3:decide ((m2:Int)=(i':Int))=true:=decide_eq_true (by omega)
    simp (disch:=omega) [d1,wrap_i64,hr1,d2,hr2,d3,rdA3,splice]
    exact bad1 (decide_eq_false (fun g=>g.2.2.1 b3)) x1
  have d3:decide ((m2:Int)=(i':Int))=false:=decide_eq_false (by omega)
  simp (disch:=omega) [d1,wrap_i64,hr1,d2,hr2,d3]
  refine r02_within ?_
  by_cases b4:1≤ln∧ln≤200
  case neg =>
    have d4:=decide_eq_false b4
    simp only [d4]
    simp [rdA3,splice]
    exact bad1 (decide_eq_false (fun g=>b4 g.2.2.2.1)) x1
  have d4:=decide_eq_true b4
  simp only [d4]
  simp [fr0_65]
  refine r02_within ?_
  by_cases b5:1≤an∧an≤359
  case neg =>
    have d5:=decide_eq_false b5
    simp only [d5]
    simp [rdA3,splice]
    exact bad1 (decide_eq_false (fun g=>b5 g.2.2.2.2)) x1
  have d5:=decide_eq_true b5
  simp only [d5]
  have hBt:decide (i'≠j'∧m1≠j'∧m2≠i'∧(1≤ln∧ln≤200)∧(1≤an∧an≤359))=true:=decide_eq_true ⟨b1,b2,b3,b4,b5⟩
  rw [hBt] at hE
  simp [fr0_65,rdA2,y1,y2,y3,y4]
  refine r02_halves (p:=pc) t1 t2 hpo hi hj b1 b5 (by omega) fun H2 H3 u w u2 w2 x2 x3 hT3 hT2 => ?_
  replace x2:HX H1 H2:=x2
  replace x3:HX H2 H3:=x3
  have l2:=x2.len
  have l3:=x3.len
  obtain ⟨N,hN⟩:∃N,N=stp pc.s.length i' j':=⟨_,rfl⟩
  obtain ⟨M,hM⟩:∃M,M=stp pc.s.length j' i':=⟨_,rfl⟩
  obtain ⟨z,hz0⟩:∃z,z=lastZ pc i' N an:=⟨_,rfl⟩
  have hZ2:=lastZ_two (x:=an) hpo hi hj b1
  have hZb:splZ pc i' j' an=decide ((1≤z∧z≤359)∧(1≤pc.a.getD j' 0-z∧pc.a.getD j' 0-z≤359)∧(1≤pc.a.getD i' 0-an∧pc.a.getD i' 0-an≤359)):=by rw [hz0,hN];rfl
  rw [←hN,←hz0,←hM] at hZ2
  rw [←hN] at hT3
  rw [hZb] at hE
  have N0:0<N:=by rw [hN];exact stp_pos hi hj b1
  have M0:0<M:=by rw [hM];exact stp_pos hj hi (Ne.symm b1)
  have Nk:N<pc.s.length:=by rw [hN];exact stp_lt hi hj
  have Mk:M<pc.s.length:=by rw [hM];exact stp_lt hj hi
  have zb : -20000≤z∧z≤20000:=by rw [hz0];exact lastZ_bd hpo hi (by omega) (by omega)
  have badZ:∀{H2:Hp},¬((1≤z∧z≤359)∧(1≤pc.a.getD j' 0-z∧pc.a.getD j' 0-z≤359)∧(1≤pc.a.getD i' 0-an∧pc.a.getD i' 0-an≤359))→HX H H2→K (.tup [.agg [.snil,.snil,.int .i64 0],.int .i64 1]) H2:=fun {H2} g x2=>bad (by rw [hE,decide_eq_false g];rfl) (by omega) x2
  have x13:=x1.trans (x2.trans x3)
  have k1:=hT3.ou.sl.stor
  have k2:=hT3.ou.sl.one
  have k3:=hT3.ow.sl.stor
  have k4:=hT3.ow.sl.one
  have g1:=hT2.ou.sl.stor
  have g2:=hT2.ou.sl.one
  have g3:=hT2.ow.sl.stor
  have g4:=hT2.ow.sl.one
  have hlw:(half pc i' N ln an).a.length=N+1:=half_len.1
  have hlw2:(half pc j' M ln (pc.a.getD j' 0-z)).a.length=M+1:=by rw [hM];exact half_len.1
  rw [←hM,←hN,←hz0] at hT2
  have lu:vlenS u=some (.int .i64 ((N:Int)+1)):=by rw [hT3.ou.sl.len,half_len.2];rfl
  have lu2:vlenS u2=some (.int .i64 ((M:Int)+1)):=by rw [hT2.ou.sl.len,half_len.2];rfl
  have aN:=hT3.ow.sl.addr (i:=(N:Int)) (by omega)
  have aM:=hT2.ow.sl.addr (i:=(M:Int)) (by omega)
  simp only [Int.toNat_natCast] at aN aM
  have lN:=fun L=>hT3.ow.sl.load (i:=N) (by omega) (L:=L)
  have lM:=fun L=>hT2.ow.sl.load (i:=M) (by omega) (L:=L)
  have hgN:(half pc i' N ln an).a.getD N 0=z:=by
    have:=half_last (p:=pc) (i:=i') (m:=N) (ln:=ln) (x:=an)
    rw [hlw] at this
    rw [hz0];exact this
  have hgM:(half pc j' M ln (pc.a.getD j' 0-z)).a.getD M 0=pc.a.getD i' 0-an:=by
    have:=half_last (p:=pc) (i:=j') (m:=M) (ln:=ln) (x:=pc.a.getD j' 0-z)
    rw [hlw2] at this
    rw [←hZ2];exact this
  rw [hgN] at lN
  rw [hgM] at lM
  have eN:(N:Int)+1-1=N:=by omega
  have eM:(M:Int)+1-1=M:=by omega
  simp (disch:=omega) [k1,k2,k3,k4,g1,g2,g3,g4,splice,rd0,rd1',rdA2,lu,lu2,wrap_i64,eN,eM,aN,lN]
  refine r02_within ?_
  by_cases c1:1≤z∧z≤359
  case neg =>
    have e1:=decide_eq_false c1
    simp only [e1]
    simp [rdA3,splice]
    exact badZ (fun g=>c1 g.1) x13
  have e1:=decide_eq_true c1
  simp only [e1]
  have a0:=hT2.ow.sl.addr (i:=0) (by omega)
  have a0:viaddrS 1 w2 (.int .i64 0)=some (ept 1 w2 0):=by simpa using a0
  have l0:=fun L=>hT2.ow.sl.load (i:=0) (by omega) (L:=L)
  rw [half_first M0] at l0
  simp [rd0,rd1',a0,l0]
  refine r02_within ?_
  by_cases c2:1≤pc.a.getD j' 0-z∧pc.a.getD j' 0-z≤359
  case neg =>
    have e2:=decide_eq_false c2
    simp only [e2]
    simp [rdA3,splice]
    exact badZ (fun g=>c2 g.2.1) x13
  have e2:=decide_eq_true c2
  simp only [e2]
  simp [rd0,rd1',aM,lM]
  refine r02_within ?_
  by_cases c3:1≤pc.a.getD i' 0-an∧pc.a.getD i' 0-an≤359
  case neg =>
    have e3:=decide_eq_false c3
    simp only [e3]
    simp [rdA3,splice]
    exact badZ (fun g=>c3 g.2.2) x13
  have e3:=decide_eq_true c3
  simp only [e3]
  rw [decide_eq_true (show (1≤z∧z≤359)∧(1≤pc.a.getD j' 0-z∧pc.a.getD j' 0-z≤359)∧(1≤pc.a.getD i' 0-an∧pc.a.getD i' 0-an≤359) from ⟨c1,c2,c3⟩)] at hE
  have hvP:vlenS pv=some (.int .i64 c.P.length):=hp.vlen
  by_cases h8:c.P.length=8
  · have e8:decide ((c.P.length:Int)=8)=true:=decide_eq_true (by omega)
    simp [rd0,hvP,e8,rdA3,splice]
    exact bad (by rw [hE,if_pos h8];rfl) (by omega) x13
  have e8:decide ((c.P.length:Int)=8)=false:=decide_eq_false (by omega)
  have hE:splE c q i' j' ln an=0:=by rw [hE,if_neg h8];rfl
  simp [rd0,hvP,e8,rdA3,z1,z2,z3,z4]
  refine r02_CopyX (hc.mono x13) hsh (by omega) fun H4 ws4 x4 o4 => ?_
  replace x4:HX H3 H4:=x4
  have l4:=x4.len
  obtain ⟨pv4,sv4,ps4,rfl,hX⟩:=o4.parts
  have x14:=x13.trans x4
  have hT4:=hT3.mono x4
  have hT24:=hT2.mono x4
  have b_u:=fun b o m z e=>(hT3.ou.belowB b o m z e).2
  have b_w:=fun b o m z e=>(hT3.ow.belowB b o m z e).2
  have b_u2:=fun b o m z e=>(hT2.ou.belowB b o m z e).2
  have b_w2:=fun b o m z e=>(hT2.ow.belowB b o m z e).2
  have b_p:=fun b o m z e=>(hX.p.own.belowB b o m z e).1
  have b_s:=fun b o m z e=>(hX.s.belowB b o m z e).1
  have ap:∀{x y:V},(∀b o m z,x=.sl b o m z→H3.length≤b)→(∀b o m z,y=.sl b o m z→b<H3.length)→nal x y:=fun hx hy b o z w o' z' w' e e'=>by
    have:=hx _ _ _ _ e
    have:=hy _ _ _ _ e'
    omega
  have Y4:YC H.length H4 pv4 sv4 ps4 c.P c.S:=hX.yc.le (by omega)
  have q1':=hX.p.own.lst.stor
  have q2':=hX.p.own.lst.one
  have q3':=hX.s.lst.stor
  have q4':=hX.s.lst.one
  have at4:=hX.p.pcsV.at hA
  obtain ⟨H5,w1,Y5,w3,w4,w5⟩:=Y4.setP (lim:=lim) (p:=half pc i' N ln an) hA (hT4.ou.le (by omega)) (hT4.ow.le (by omega)) ⟨ap b_p b_u,ap b_s b_u⟩ ⟨ap b_p b_w,ap b_s b_w⟩ (by omega)
  have x5:=w3 H x14 (Nat.le_refl _)
  have ku:∀b',b'<H3.length→H5[b']? = H4[b']? := fun b' hb'=>w4 b' fun o z y e=>by have:=b_p _ _ _ _ e;omega
  have hT25:TwoV H.length H5 u2 w2 (half pc j' M ln (pc.a.getD j' 0-z)).s (half pc j' M ln (pc.a.getD j' 0-z)).a :=
    ⟨(hT24.ou.le (by omega)).keepB fun b o m z e=>ku b (b_u2 _ _ _ _ e),(hT24.ow.le (by omega)).keepB fun b o m z e=>ku b (b_w2 _ _ _ _ e),hT24.ap⟩
  obtain ⟨pv6,H6,v1,Y6,v3,v4⟩:=Y5.pushP2 (lim:=lim) (p:=half pc j' M ln (pc.a.getD j' 0-z)) hT25.ou hT25.ow ⟨ap b_p b_u2,ap b_s b_u2⟩ ⟨ap b_p b_w2,ap b_s b_w2⟩ ⟨by omega,x5.len⟩ (by rw [List.length_set];omega)
  have x6:=v3 H x5 (Nat.le_refl _)
  have l6:=x6.len
  have r1':=Y6.p.own.lst.stor
  have r2':=Y6.p.own.lst.one
  have hrem3:vbin .rem (.int .i64 ((j':Int)-(i':Int)+(pc.s.length:Int))) (.int .i64 (pc.s.length:Int))=some (.int .i64 (N:Nat)):=by
    rw [vbin_rem hkne,mv_rem hi (by omega),Int.toNat_natCast,←hN]
  simp [q1',q2',q3',q4',splice,rd0,rd1',rdA2,rdA3,k1,k2,k3,k4,g1,g2,g3,g4]
  simp [rd0,rdA2,at4,w1,k1,k2,k3,k4,-vstore,lpId_ept]
  simp (disch:=omega) [splice,rd0,rd1',rdA2,rdA3,q1',q2',q3',q4',k1,k2,k3,k4,g1,g2,g3,g4,v1,r1',r2',hp.vlen,wrap_i64]
  have hsq:∀t,t<c.S.length→((c.S.getD t default).A=q→0≤(c.S.getD t default).I∧(c.S.getD t default).I<pc.s.length)∧((c.S.getD t default).B=q→0≤(c.S.getD t default).J∧(c.S.getD t default).J<pc.s.length):=fun t ht=>by
    obtain ⟨o1,o2⟩:=hok.smB ht
    obtain ⟨_,o3,o4,o5⟩:=sd_ok o1
    obtain ⟨_,o6,o7,o8⟩:=sd_ok o2
    refine ⟨fun g => ?_,fun g => ?_⟩
    · rw [g,Int.toNat_natCast,hkn] at o3;omega
    · rw [g,Int.toNat_natCast,hkn] at o6;omega
  have hPC:splC c q i' j' ln an=⟨c.P.set q (half pc i' N ln an)++[half pc j' M ln (pc.a.getD j' 0-z)],c.S.map (mvS q c.P.length pc.s.length i' N)++[⟨(q:Int),(N:Int),(c.P.length:Int),(M:Int)⟩],c.e⟩:=by
    rw [hC,splP,splS,h1P,h2P,hkn,←hpc,←hN,←hM,←hz0]
  rw [hE,if_pos rfl,hPC] at hK
  refine wLoop_up c.S.length (fun t fr L H'=>∃X,(fr 1=.int .i64 (q:Nat)∧fr 2=.int .i64 (i':Nat)∧fr 3=.int .i64 (j':Nat)∧fr 6=.lp 0 0∧fr 12=.lp 1 0∧fr 16=.int .i64 (pc.s.length:Nat)∧fr 19=.int .i64 (N:Nat)∧fr 20=.int .i64 (M:Nat)∧fr 21=.lp 5 0∧fr 22=.int .i64 t)∧L=[pv,sv,.int .i64 c.e] :: [.snil,.snil,.int .i64 0] :: [pa,pb] :: [u,w] :: [u2,w2] :: [pv6,sv4,.int .i64 c.e] :: X∧HX H H'∧YC H.length H' pv6 sv4 (ps4.set q (u,w)++[(u2,w2)]) (c.P.set q (half pc i' N ln an)++[half pc j' M ln (pc.a.getD j' 0-z)]) (mvT (mvS q c.P.length pc.s.length i' N) c.S t)) ⟨[],by simp,by simp,x6,by simpa [mvT] using Y6⟩ ?_
  rintro t ht fr L H7 ⟨X,⟨f1,f2,f3,f6,f12,f16,f19,f20,f21,f22⟩,rfl,x7,Y7⟩
  have l7:=x7.len
  have s1':=Y7.s.lst.stor
  have s2':=Y7.s.lst.one
  have hsl:vlenS sv4=some (.int .i64 c.S.length):=by rw [Y7.s.lst.len,mvT_len]
  simp [f1,f2,f3,f6,f12,f16,f19,f20,f21,f22,rd1',hsl]
  refine cond_dec (fun htt => ?_) fun hfl => ?_
  · have htt:t<c.S.length:=by omega
    have hs7:=hs.mono x7
    have ld:=fun L=>hs7.load htt (L:=L)
    obtain ⟨s,hs0⟩:∃s,s=c.S.getD t default:=⟨_,rfl⟩
    obtain ⟨hsA,hsB⟩:=hsq t htt
    rw [←hs0] at hsA hsB ld
    have ec:smC.cells s=[.int .i64 s.A,.int .i64 s.I,.int .i64 s.B,.int .i64 s.J]:=rfl
    rw [ec] at ld
    have hpv:=hp.vlen
    have at7:=Y7.s.lst.at (i:=t) (by rw [mvT_len];exact htt)
    obtain ⟨H8,w1',w2',w3',w4'⟩:=sm_stW (lim:=lim) (i:=t) (y:=mvS q c.P.length pc.s.length i' N s) Y7.s hlim (by rw [mvT_len];exact htt)
    rw [hs0,mvT_set htt] at w2'
    have Y8:=Y7.seams w2' fun b _ hb=>w3' b hb
    have x8:HX H H8:=HX.of (by omega) fun b hb=>by
      rw [w3' b fun o z y e=>by have:=(Y7.s.belowB _ _ _ _ e).1;omega,x7.same hb]
    simp [f1,f2,f3,f6,f12,f16,f19,f20,f21,f22,rd0,rd1',hs7.at htt,ld,splice,zs4,hpv]
    refine r02_moved hi hj (by omega) hsA ?_
    rw [←hN]
    simp [f1,f2,f3,f6,f12,f16,f19,f20,f21,f22,rd0,rd1',rd2',rd3',splice,hpv]
    refine r02_moved hi hj (by omega) hsB ?_
    rw [←hN]
    simp [f1,f2,f3,f6,f12,f16,f19,f20,f21,f22,rd0,rd1',rd2',rd3',rdA4,splice]
    have w1'':∀L,vstore lim L H7 (ept 4 sv4 t) (.agg [.int .i64 (mvP q c.P.length pc.s.length i' N s.A s.I),.int .i64 (mvI q pc.s.length i' N s.A s.I),.int .i64 (mvP q c.P.length pc.s.length i' N s.B s.J),.int .i64 (mvI q pc.s.length i' N s.B s.J)]) 4=some (L,H8):=w1'
    simp (disch:=omega) [f1,f2,f3,f6,f12,f16,f19,f20,f21,f22,rd1',rdA4,at7,w1'',-vstore,lpId_ept,wrap_i64]
    exact ⟨htt,x8,Y8⟩
  · have:t=c.S.length:=by omega
    subst this
    have e:mvT (mvS q c.P.length pc.s.length i' N) c.S c.S.length=c.S.map (mvS q c.P.length pc.s.length i' N):=by simp [mvT]
    rw [e] at Y7
    obtain ⟨sv8,H8,u1,Y8,u3,u4⟩:=Y7.pushS (lim:=lim) (x:=⟨(q:Int),(N:Int),(c.P.length:Int),(M:Int)⟩) (cs:=[.int .i64 (q:Int),.int .i64 (N:Int),.int .i64 (c.P.length:Int),.int .i64 (M:Int)]) rfl ⟨hlim,l7⟩ (by rw [List.length_map];omega)
    have x8:=u3 H x7 (Nat.le_refl _)
    have z1':=Y8.p.own.lst.stor
    have z2':=Y8.p.own.lst.one
    have z3':=Y8.s.lst.stor
    have z4':=Y8.s.lst.one
    have hr:=hK H8 _ x8 Y8.cap
    simp [f1,f2,f3,f6,f12,f16,f19,f20,f21,f22,rd0,rd1',rdA3,splice,zs4,hp.vlen,u1,z1',z2',z3',z4']
    exact hr
end
end Go.Proofs.Ytclghkegfpcdpaa.Vm
namespace Go.Proofs.Ytclghkegfpcdpaa.Vm
open Go
set_option maxRecDepth 100000
set_option maxHeartbeats 1000000
set_option linter.unusedSimpArgs false
set_option linter.unusedVariables false
attribute [-simp] List.getD_eq_getElem?_getD
section
variable {n lim:Nat}{H H' H1:Hp}{K:V→Hp→Prop}{v pv sv a b u w:V}{ps:List (V×V)}{P:List Pc}{S:List Sm}{e:Int}{ws:List V}{c d:Cp}{l m:List Int}
theorem surf_Split {A i j ln an:Int}(iA:I64 A)(ii:I64 i)(ij:I64 j)(hc:CapV H ws c)(hsh:ShortC c)(hlim:lim≤H.length)(hK:∀H' ws',HX H H'→CapV H' ws' (if splE c A i j ln an=0 then splC c A i j ln an else zCap)→K (.tup [.agg ws',.int .i64 (splE c A i j ln an)]) H'):VCall tbl lim 41 [.agg ws,.int .i64 A,.int .i64 i,.int .i64 j,.int .i64 ln,.int .i64 an] H K:=by
  obtain ⟨pv,sv,ps,rfl,hp,hs,z1,z2,z3,z4⟩:=hc.form
  have s1:=hsh.np
  have s2:=hsh.ns
  have hz:∀{H'},CapV H' [.snil,.snil,.int .i64 0] zCap:=fun {H'}=>zCapV (m:=0) |>.cap
  refine VCall_fn tbl_at41 rfl ?_
  simp [vf41,z1,z2,z3,z4,rdA3,fr0_65]
  refine surf_Validate hc (by omega) (by omega) fun H1 x1 => ?_
  replace x1:HX H H1:=x1
  have l1:=x1.len
  by_cases h0:capE c=0
  case neg =>
    have e1:splE c A i j ln an=capE c:=by rw [splE,if_pos h0]
    have:=hK H1 [.snil,.snil,.int .i64 0] x1 (by rw [if_neg (by rw [e1];exact h0)];exact hz)
    rw [e1] at this
    simp [h0,rdA3,splice]
    exact this
  have hok:=capE_ok.1 h0
  have hp1:=hp.mono x1
  have bad:∀{x:Int} {H2:Hp},splE c A i j ln an=x→x≠0→HX H H2→K (.tup [.agg [.snil,.snil,.int .i64 0],.int .i64 x]) H2:=fun {x H2} e1 h x2=>by
    have:=hK H2 [.snil,.snil,.int .i64 0] x2 (by rw [if_neg (by rw [e1];exact h)];exact hz)
    rw [e1] at this
    exact this
  simp [h0,rdA3,z1,z2,z3,z4]
  refine surf_hasSide hp1 z3 z4 ?_
  by_cases q1:sdOk c.P A i=true
  case neg =>
    have q1:=Bool.eq_false_iff.2 q1
    simp [q1,rdA3,splice]
    exact bad (by rw [splE,if_neg (fun g=>g h0),q1];rfl) (by omega) x1
  simp [q1,rdA3,z1,z2,z3,z4]
  refine surf_hasSide hp1 z3 z4 ?_
  by_cases q2:sdOk c.P A j=true
  case neg =>
    have q2:=Bool.eq_false_iff.2 q2
    simp [q2,rdA3,splice]
    exact bad (by rw [splE,if_neg (fun g=>g h0),q1,q2];rfl) (by omega) x1
  obtain ⟨hA,hi,eA,ei⟩:=sd_ok q1
  obtain ⟨_,hj,_,ej⟩:=sd_ok q2
  have hE:splE c A i j ln an=if !(splB (ksN c.P A.toNat) i.toNat j.toNat ln an&&splZ (c.P.getD A.toNat default) i.toNat j.toNat an) then 1 else if c.P.length=8 then 4 else 0:=by
    rw [splE,if_neg (fun g=>g h0),q1,q2];rfl
  have hC:splC c A i j ln an=⟨splP c.P A.toNat i.toNat j.toNat ln an,splS c.P c.S A.toNat i.toNat j.toNat,c.e⟩:=rfl
  generalize A.toNat=q at *
  generalize i.toNat=i' at *
  generalize j.toNat=j' at *
  subst eA ei ej
  obtain ⟨t1,t2⟩:=hp1.at' q hA
  have hpo:=hok.pc q hA
  have hld:=hp1.ld2 hA
  have hat:=hp1.at hA
  obtain ⟨pc,hpc⟩:∃pc,pc=c.P.getD q default:=⟨_,rfl⟩
  have hkn:ksN c.P q=pc.s.length:=by rw [hpc];rfl
  rw [hkn] at hE hi hj
  rw [←hpc] at hE t1 t2 hpo
  obtain ⟨p1,p2,p3,p4⟩:=piece_ok hpo
  generalize (ps.getD q default).1=pa at *
  generalize (ps.getD q default).2=pb at *
  have hvl:vlenS pa=some (.int .i64 (pc.s.length:Nat)):=t1.len
  have hkne:(pc.s.length:Int)≠0:=by omega
  obtain ⟨m1,hm1⟩:∃m,m=(i'+1) % pc.s.length:=⟨_,rfl⟩
  obtain ⟨m2,hm2⟩:∃m,m=(j'+1) % pc.s.length:=⟨_,rfl⟩
  have hr1:vbin .rem (.int .i64 ((i':Int)+1)) (.int .i64 (pc.s.length:Int))=some (.int .i64 (m1:Nat)):=by
    rw [vbin_rem hkne,hm1]
    have:((i':Int)+1).tmod (pc.s.length:Int)=(((i'+1) % pc.s.length:Nat):Int):=tmod_nat _ _
    rw [this]
  have hr2:vbin .rem (.int .i64 ((j':Int)+1)) (.int .i64 (pc.s.length:Int))=some (.int .i64 (m2:Nat)):=by
    rw [vbin_rem hkne,hm2]
    have:((j':Int)+1).tmod (pc.s.length:Int)=(((j'+1) % pc.s.length:Nat):Int):=tmod_nat _ _
    rw [this]
  have bad1:∀{H2:Hp},splB pc.s.length i' j' ln an=false→HX H H2→K (.tup [.agg [.snil,.snil,.int .i64 0],.int .i64 1]) H2:=fun {H2} g x2=>bad (by rw [hE,g];rfl) (by omega) x2
  have hB:splB pc.s.length i' j' ln an=decide (i'≠j'∧m1≠j'∧m2≠i'∧(1≤ln∧ln≤200)∧(1≤an∧an≤359)):=by rw [hm1,hm2];rfl
  rw [hB] at bad1 hE
  have y1:=t1.stor
  have y2:=t1.one
  have y3:=t2.stor
  have y4:=t2.one
  simp [q2,hat,hld,rd0,rd1',rdA2,hvl,y1,y2,y3,y4,splice]
  by_cases b1:i'=j'
  · have d1:decide ((i':Int)=(j':Int))=true:=decide_eq_true (by omega)
    simp (disch:=omega) [d1,wrap_i64,hr1,rdA3,splice]
    exact bad1 (decide_eq_false (fun g=>g.1 b1)) x1
  have d1:decide ((i':Int)=(j':Int))=false:=decide_eq_false (by omega)
  by_cases b2:m1=j'
  · have d2:decide ((m1:Int)=(j':Int))=true:=decide_eq_true (by omega)
    simp (disch:=omega) [d1,wrap_i64,hr1,d2,rdA3,splice]
    exact bad1 (decide_eq_false (fun g=>g.2.1 b2)) x1
  have d2:decide ((m1:Int)=(j':Int))=false:=decide_eq_false (by omega)
  by_cases b3:m2=i'
  · have d3:decide ((m2:Int)=(i':Int))=true:=decide_eq_true (by omega)
    simp (disch:=omega) [d1,wrap_i64,hr1,d2,hr2,d3,rdA3,splice]
    exact bad1 (decide_eq_false (fun g=>g.2.2.1 b3)) x1
  have d3:decide ((m2:Int)=(i':Int))=false:=decide_eq_false (by omega)
  simp (disch:=omega) [d1,wrap_i64,hr1,d2,hr2,d3]
  refine surf_isSide ?_
  by_cases b4:1≤ln∧ln≤200
  case neg =>
    have d4:=decide_eq_false b4
    simp only [d4]
    simp [rdA3,splice]
    exact bad1 (decide_eq_false (fun g=>b4 g.2.2.2.1)) x1
  have d4:=decide_eq_true b4
  simp only [d4]
  simp [fr0_65]
  refine surf_isAngle ?_
  by_cases b5:1≤an∧an≤359
  case neg =>
    have d5:=decide_eq_false b5
    simp only [d5]
    simp [rdA3,splice]
    exact bad1 (decide_eq_false (fun g=>b5 g.2.2.2.2)) x1
  have d5:=decide_eq_true b5
  simp only [d5]
  have hBt:decide (i'≠j'∧m1≠j'∧m2≠i'∧(1≤ln∧ln≤200)∧(1≤an∧an≤359))=true:=decide_eq_true ⟨b1,b2,b3,b4,b5⟩
  rw [hBt] at hE
  simp [fr0_65,rdA2,y1,y2,y3,y4]
  refine surf_part (p:=pc) t1 t2 hpo hi hj b1 (by omega) (by omega) fun H2 u w x2 hT => ?_
  replace x2:HX H1 H2:=x2
  have l2:=x2.len
  obtain ⟨N,hN⟩:∃N,N=stp pc.s.length i' j':=⟨_,rfl⟩
  obtain ⟨M,hM⟩:∃M,M=stp pc.s.length j' i':=⟨_,rfl⟩
  obtain ⟨z,hz0⟩:∃z,z=lastZ pc i' N an:=⟨_,rfl⟩
  have hZ2:=lastZ_two (x:=an) hpo hi hj b1
  have hZb:splZ pc i' j' an=decide ((1≤z∧z≤359)∧(1≤pc.a.getD j' 0-z∧pc.a.getD j' 0-z≤359)∧(1≤pc.a.getD i' 0-an∧pc.a.getD i' 0-an≤359)):=by rw [hz0,hN];rfl
  rw [←hN,←hz0,←hM] at hZ2
  rw [←hN] at hT
  rw [hZb] at hE
  have N0:0<N:=by rw [hN];exact stp_pos hi hj b1
  have M0:0<M:=by rw [hM];exact stp_pos hj hi (Ne.symm b1)
  have Nk:N<pc.s.length:=by rw [hN];exact stp_lt hi hj
  have Mk:M<pc.s.length:=by rw [hM];exact stp_lt hj hi
  have zb : -20000≤z∧z≤20000:=by rw [hz0];exact lastZ_bd hpo hi (by omega) (by omega)
  have k1:=hT.ou.sl.stor
  have k2:=hT.ou.sl.one
  have k3:=hT.ow.sl.stor
  have k4:=hT.ow.sl.one
  have hlw:(half pc i' N ln an).a.length=N+1:=half_len.1
  have ta:=t2.mono x2
  have aj:=ta.addr (i:=(j':Int)) (by omega)
  simp only [Int.toNat_natCast] at aj
  have lj:=fun L=>ta.load (i:=j') (by omega) (L:=L)
  have bj:=(p3 j' hj).2
  have bi:=(p3 i' hi).2
  simp [k1,k2,k3,k4,splice,rd0,rd1',rdA2,y1,y2,y3,y4,aj,lj]
  refine surf_last hT.ow.sl (by omega) ?_
  rw [half_last,←hz0]
  simp (disch:=omega) [wrap_i64,rdA2,y1,y2,y3,y4]
  refine surf_part (p:=pc) (t1.mono x2) ta hpo hj hi (Ne.symm b1) (by omega) (by omega) fun H3 u2 w2 x3 hT2 => ?_
  replace x3:HX H2 H3:=x3
  have l3:=x3.len
  rw [←hM] at hT2
  have hT3:=hT.mono x3
  have g1:=hT2.ou.sl.stor
  have g2:=hT2.ou.sl.one
  have g3:=hT2.ow.sl.stor
  have g4:=hT2.ow.sl.one
  simp [g1,g2,g3,g4,k1,k2,k3,k4,splice,rd0,rd1',rdA2]
  have badZ:∀{H2:Hp},¬((1≤z∧z≤359)∧(1≤pc.a.getD j' 0-z∧pc.a.getD j' 0-z≤359)∧(1≤pc.a.getD i' 0-an∧pc.a.getD i' 0-an≤359))→HX H H2→K (.tup [.agg [.snil,.snil,.int .i64 0],.int .i64 1]) H2:=fun {H2} g x2=>bad (by rw [hE,decide_eq_false g];rfl) (by omega) x2
  have x13:=x1.trans (x2.trans x3)
  refine surf_last hT3.ow.sl (by omega) ?_
  rw [half_last,←hz0]
  simp
  refine surf_isAngle ?_
  by_cases c1:1≤z∧z≤359
  case neg =>
    have e1:=decide_eq_false c1
    simp only [e1]
    simp [rdA3,splice]
    exact badZ (fun g=>c1 g.1) x13
  have e1:=decide_eq_true c1
  simp only [e1]
  have hlw2:(half pc j' M ln (pc.a.getD j' 0-z)).a.length=M+1:=half_len.1
  have a0:=hT2.ow.sl.addr (i:=0) (by omega)
  have a0:viaddrS 1 w2 (.int .i64 0)=some (ept 1 w2 0):=by simpa using a0
  have l0:=fun L=>hT2.ow.sl.load (i:=0) (by omega) (L:=L)
  rw [half_first M0] at l0
  simp [rd0,rd1',a0,l0]
  refine surf_isAngle ?_
  by_cases c2:1≤pc.a.getD j' 0-z∧pc.a.getD j' 0-z≤359
  case neg =>
    have e2:=decide_eq_false c2
    simp only [e2]
    simp [rdA3,splice]
    exact badZ (fun g=>c2 g.2.1) x13
  have e2:=decide_eq_true c2
  simp only [e2]
  simp [rd0,rd1',g3]
  refine surf_last hT2.ow.sl (by omega) ?_
  rw [half_last,hZ2]
  simp
  refine surf_isAngle ?_
  by_cases c3:1≤pc.a.getD i' 0-an∧pc.a.getD i' 0-an≤359
  case neg =>
    have e3:=decide_eq_false c3
    simp only [e3]
    simp [rdA3,splice]
    exact badZ (fun g=>c3 g.2.2) x13
  have e3:=decide_eq_true c3
  simp only [e3]
  rw [decide_eq_true (show (1≤z∧z≤359)∧(1≤pc.a.getD j' 0-z∧pc.a.getD j' 0-z≤359)∧(1≤pc.a.getD i' 0-an∧pc.a.getD i' 0-an≤359) from ⟨c1,c2,c3⟩)] at hE
  have hvP:vlenS pv=some (.int .i64 c.P.length):=hp.vlen
  by_cases h8:c.P.length=8
  · have e8:decide ((c.P.length:Int)=8)=true:=decide_eq_true (by omega)
    simp [rd0,hvP,e8,rdA3,splice]
    exact bad (by rw [hE,if_pos h8];rfl) (by omega) x13
  have e8:decide ((c.P.length:Int)=8)=false:=decide_eq_false (by omega)
  have hE:splE c q i' j' ln an=0:=by rw [hE,if_neg h8];rfl
  simp [rd0,hvP,e8,rdA3,z1,z2,z3,z4]
  refine surf_cloneX (hc.mono x13) hsh (by omega) fun H4 ws4 x4 o4 => ?_
  replace x4:HX H3 H4:=x4
  have l4:=x4.len
  obtain ⟨pv4,sv4,ps4,rfl,hX⟩:=o4.parts
  have x14:=x13.trans x4
  have hT4:=hT3.mono x4
  have hT24:=hT2.mono x4
  have b_u:=fun b o m z e=>(hT3.ou.belowB b o m z e).2
  have b_w:=fun b o m z e=>(hT3.ow.belowB b o m z e).2
  have b_u2:=fun b o m z e=>(hT2.ou.belowB b o m z e).2
  have b_w2:=fun b o m z e=>(hT2.ow.belowB b o m z e).2
  have b_p:=fun b o m z e=>(hX.p.own.belowB b o m z e).1
  have b_s:=fun b o m z e=>(hX.s.belowB b o m z e).1
  have ap:∀{x y:V},(∀b o m z,x=.sl b o m z→H3.length≤b)→(∀b o m z,y=.sl b o m z→b<H3.length)→nal x y:=fun hx hy b o z w o' z' w' e e'=>by
    have:=hx _ _ _ _ e
    have:=hy _ _ _ _ e'
    omega
  have Y4:YC H.length H4 pv4 sv4 ps4 c.P c.S:=hX.yc.le (by omega)
  have q1':=hX.p.own.lst.stor
  have q2':=hX.p.own.lst.one
  have q3':=hX.s.lst.stor
  have q4':=hX.s.lst.one
  have at4:=hX.p.pcsV.at hA
  obtain ⟨H5,w1,Y5,w3,w4,w5⟩:=Y4.setP (lim:=lim) (p:=half pc i' N ln an) hA (hT4.ou.le (by omega)) (hT4.ow.le (by omega)) ⟨ap b_p b_u,ap b_s b_u⟩ ⟨ap b_p b_w,ap b_s b_w⟩ (by omega)
  have x5:=w3 H x14 (Nat.le_refl _)
  have ku:∀b',b'<H3.length→H5[b']? = H4[b']? := fun b' hb'=>w4 b' fun o z y e=>by have:=b_p _ _ _ _ e;omega
  have hT25:TwoV H.length H5 u2 w2 (half pc j' M ln (pc.a.getD j' 0-z)).s (half pc j' M ln (pc.a.getD j' 0-z)).a :=
    ⟨(hT24.ou.le (by omega)).keepB fun b o m z e=>ku b (b_u2 _ _ _ _ e),(hT24.ow.le (by omega)).keepB fun b o m z e=>ku b (b_w2 _ _ _ _ e),hT24.ap⟩
  obtain ⟨pv6,H6,v1,Y6,v3,v4⟩:=Y5.pushP2 (lim:=lim) (p:=half pc j' M ln (pc.a.getD j' 0-z)) hT25.ou hT25.ow ⟨ap b_p b_u2,ap b_s b_u2⟩ ⟨ap b_p b_w2,ap b_s b_w2⟩ ⟨by omega,x5.len⟩ (by rw [List.length_set];omega)
  have x6:=v3 H x5 (Nat.le_refl _)
  have l6:=x6.len
  have r1':=Y6.p.own.lst.stor
  have r2':=Y6.p.own.lst.one
  have hrem3:vbin .rem (.int .i64 ((j':Int)-(i':Int)+(pc.s.length:Int))) (.int .i64 (pc.s.length:Int))=some (.int .i64 (N:Nat)):=by
    rw [vbin_rem hkne,mv_rem hi (by omega),Int.toNat_natCast,←hN]
  simp [q1',q2',q3',q4',splice,rd0,rd1',rdA2,rdA3,k1,k2,k3,k4,g1,g2,g3,g4]
  simp [rd0,rdA2,at4,w1,k1,k2,k3,k4,-vstore,lpId_ept]
  simp (disch:=omega) [splice,rd0,rd1',rdA2,rdA3,q1',q2',q3',q4',k1,k2,k3,k4,g1,g2,g3,g4,v1,r1',r2',hp.vlen,wrap_i64,hrem3]
  have hsq:∀t,t<c.S.length→((c.S.getD t default).A=q→0≤(c.S.getD t default).I∧(c.S.getD t default).I<pc.s.length)∧((c.S.getD t default).B=q→0≤(c.S.getD t default).J∧(c.S.getD t default).J<pc.s.length):=fun t ht=>by
    obtain ⟨o1,o2⟩:=hok.smB ht
    obtain ⟨_,o3,o4,o5⟩:=sd_ok o1
    obtain ⟨_,o6,o7,o8⟩:=sd_ok o2
    refine ⟨fun g => ?_,fun g => ?_⟩
    · rw [g,Int.toNat_natCast,hkn] at o3;omega
    · rw [g,Int.toNat_natCast,hkn] at o6;omega
  have hPC:splC c q i' j' ln an=⟨c.P.set q (half pc i' N ln an)++[half pc j' M ln (pc.a.getD j' 0-z)],c.S.map (mvS q c.P.length pc.s.length i' N)++[⟨(q:Int),(N:Int),(c.P.length:Int),(M:Int)⟩],c.e⟩:=by
    rw [hC,splP,splS,h1P,h2P,hkn,←hpc,←hN,←hM,←hz0]
  rw [hE,if_pos rfl,hPC] at hK
  refine surf_moveSeams (A:=q) (N:=c.P.length) (i:=i') (m:=N) (k:=pc.s.length) Y6.s ⟨hlim,l6⟩ hi (by omega) hsq (by omega) fun H7 hs7 hk7 hl7 => ?_
  have Y7:=Y6.seams hs7 hk7
  have x7:HX H H7:=HX.of (by omega) fun b hb=>by
    rw [hk7 b (by omega) fun o z y e=>by have:=(Y6.s.belowB _ _ _ _ e).1;omega,x6.same hb]
  obtain ⟨sv8,H8,u1,Y8,u3,u4⟩:=Y7.pushS (lim:=lim) (x:=⟨(q:Int),(N:Int),(c.P.length:Int),(M:Int)⟩) (cs:=[.int .i64 (q:Int),.int .i64 (N:Int),.int .i64 (c.P.length:Int),.int .i64 (M:Int)]) rfl ⟨hlim,x7.len⟩ (by rw [List.length_map];omega)
  have x8:=u3 H x7 (Nat.le_refl _)
  have z1':=Y8.p.own.lst.stor
  have z2':=Y8.p.own.lst.one
  have z3':=Y8.s.lst.stor
  have z4':=Y8.s.lst.one
  have lu:vlenS u=some (.int .i64 ((N:Int)+1)):=by rw [hT3.ou.sl.len,half_len.2];rfl
  have lu2:vlenS u2=some (.int .i64 ((M:Int)+1)):=by rw [hT2.ou.sl.len,half_len.2];rfl
  have eN:(N:Int)+1-1=N:=by omega
  have eM:(M:Int)+1-1=M:=by omega
  have hr:=hK H8 _ x8 Y8.cap
  simp (disch:=omega) [splice,rd0,rd1',rdA3,rdA4,zs4,lu,lu2,eN,eM,wrap_i64,hp.vlen,u1,z1',z2',z3',z4']
  exact hr
end
end Go.Proofs.Ytclghkegfpcdpaa.Vm
namespace Go.Proofs.Ytclghkegfpcdpaa.Vm
set_option linter.unusedVariables false
set_option linter.unusedSimpArgs false
attribute [-simp] List.getD_eq_getElem?_getD
section
variable {k i j b:Nat}
theorem stp_inj {b':Nat}(hi:i<k)(hb:b<k)(hb':b'<k)(h:stp k i b=stp k i b'):b=b':=by
  have e1:=stp_at hi hb
  have e2:=stp_at hi hb'
  rw [h] at e1;omega
end
structure Cut (P P':List Pc)(q i j n m:Nat):Prop where
  hq:q<P.length
  hi:i<ksN P q
  hj:j<ksN P q
  hij:i≠j
  hn:n=stp (ksN P q) i j
  hm:m=stp (ksN P q) j i
  len:P'.length=P.length+1
  ks:∀t,t<P.length→t≠q→ksN P' t=ksN P t
  k1:ksN P' q=n+1
  k2:ksN P' P.length=m+1
def gS (P P':List Pc)(q i n x:Nat):Nat :=
  if pcN P x=q then (if stp (ksN P q) i (x-offN P (pcN P x))<n then offN P' q+stp (ksN P q) i (x-offN P (pcN P x)) else offN P' P.length+(stp (ksN P q) i (x-offN P (pcN P x))-n)) else offN P' (pcN P x)+(x-offN P (pcN P x))
section
variable {P P':List Pc}{q i j n m t b:Nat}
theorem gS_at (ht:t<P.length)(hb:b<ksN P t):gS P P' q i n (offN P t+b)=if t=q then (if stp (ksN P q) i b<n then offN P' q+stp (ksN P q) i b else offN P' P.length+(stp (ksN P q) i b-n)) else offN P' t+b:=by
  unfold gS
  rw [pc_at ht hb,show offN P t+b-offN P t=b by omega]
theorem Cut.nm (h:Cut P P' q i j n m):(0<n∧0<m)∧n+m=ksN P q:=by
  refine ⟨⟨?_,?_⟩,?_⟩
  · rw [h.hn];exact stp_pos h.hi h.hj h.hij
  · rw [h.hm];exact stp_pos h.hj h.hi h.hij.symm
  · rw [h.hn,h.hm];exact stp_add h.hi h.hj h.hij
theorem Cut.loc (h:Cut P P' q i j n m)(ht:t<P.length)(hb:b<ksN P t):∃t' b',t'<P'.length∧b'<ksN P' t'∧gS P P' q i n (offN P t+b)=offN P' t'+b'∧(t'=q→b'<n)∧(t'=P.length→b'<m)∧((t≠q∧t'=t∧b'=b)∨(t=q∧stp (ksN P q) i b<n∧t'=q∧b'=stp (ksN P q) i b)∨(t=q∧n≤stp (ksN P q) i b∧t'=P.length∧b'=stp (ksN P q) i b-n)):=by
  obtain ⟨⟨n0,m0⟩,nm⟩:=h.nm
  have hq:=h.hq
  have hl:=h.len
  rw [gS_at ht hb]
  by_cases e:t=q
  · subst e
    have hs:stp (ksN P t) i b<ksN P t:=stp_lt h.hi hb
    rw [if_pos rfl]
    by_cases e2:stp (ksN P t) i b<n
    · rw [if_pos e2]
      exact ⟨t,_,by omega,by rw [h.k1];omega,rfl,fun _=>e2,fun g=>by omega,Or.inr (Or.inl ⟨rfl,e2,rfl,rfl⟩)⟩
    · rw [if_neg e2]
      exact ⟨P.length,_,by omega,by rw [h.k2];omega,rfl,fun g=>by omega,fun _=>by omega,Or.inr (Or.inr ⟨rfl,by omega,rfl,rfl⟩)⟩
  · rw [if_neg e]
    exact ⟨t,b,by omega,by rw [h.ks t ht e];exact hb,rfl,fun g=>absurd g e,fun g=>by omega,Or.inl ⟨e,rfl,rfl⟩⟩
end
end Go.Proofs.Ytclghkegfpcdpaa.Vm
namespace Go.Proofs.Ytclghkegfpcdpaa.Vm
set_option linter.unusedVariables false
set_option linter.unusedSimpArgs false
attribute [-simp] List.getD_eq_getElem?_getD
section
variable {P P':List Pc}{c:Cp}{q i j n m t b:Nat}{ln an e:Int}
theorem Cut.glt (h:Cut P P' q i j n m){x:Nat}(hx:x<nsN P):gS P P' q i n x<nsN P'∧gS P P' q i n x≠offN P' q+n∧gS P P' q i n x≠offN P' P.length+m:=by
  have k1:=h.k1
  have k2:=h.k2
  obtain ⟨t,b,h1,h2,rfl⟩:=off_loc hx
  obtain ⟨t',b',g1,g2,g3,g4,g5,_⟩:=h.loc h1 h2
  rw [g3]
  refine ⟨off_lt g1 g2,fun e => ?_,fun e => ?_⟩
  · obtain ⟨e1,e2⟩:=off_inj g2 (by rw [k1];omega) e
    have:=g4 e1;omega
  · obtain ⟨e1,e2⟩:=off_inj g2 (by rw [k2];omega) e
    have:=g5 e1;omega
theorem Cut.ginj (h:Cut P P' q i j n m){x y:Nat}(hx:x<nsN P)(hy:y<nsN P)(e:gS P P' q i n x=gS P P' q i n y):x=y:=by
  have hq:=h.hq
  obtain ⟨t,b,h1,h2,rfl⟩:=off_loc hx
  obtain ⟨u,c,h3,h4,rfl⟩:=off_loc hy
  obtain ⟨t',b',g1,g2,g3,g4,g5,g6⟩:=h.loc h1 h2
  obtain ⟨u',c',f1,f2,f3,f4,f5,f6⟩:=h.loc h3 h4
  rw [g3,f3] at e
  obtain ⟨e1,e2⟩:=off_inj g2 f2 e
  have key:t=u∧b=c:=by
    rcases g6 with ⟨p1,p2,p3⟩ | ⟨p1,p2,p3,p4⟩ | ⟨p1,p2,p3,p4⟩<;>rcases f6 with ⟨r1,r2,r3⟩ | ⟨r1,r2,r3,r4⟩ | ⟨r1,r2,r3,r4⟩
    · omega
    · omega
    · omega
    · omega
    · subst p1;subst r1;exact ⟨rfl,stp_inj h.hi h2 h4 (by omega)⟩
    · omega
    · omega
    · omega
    · subst p1;subst r1;exact ⟨rfl,stp_inj h.hi h2 h4 (by omega)⟩
  rw [key.1,key.2]
theorem splP_get {P:List Pc}(ht:t<P.length):(splP P q i j ln an).getD t default=if t=q then h1P (P.getD q default) i j ln an else P.getD t default:=by
  unfold splP
  rw [getD_lt (by simpa using ht)]
  by_cases hq:q<P.length
  · rw [getD_setP hq]
  · rw [List.set_eq_of_length_le (by omega),if_neg (by omega)]
theorem splP_last {P:List Pc}:(splP P q i j ln an).getD P.length default=h2P (P.getD q default) i j ln an:=by
  unfold splP
  rw [getD_ge (j:=0) (by simp)];rfl
theorem spl_cut (hq:q<P.length)(hi:i<ksN P q)(hj:j<ksN P q)(hij:i≠j):Cut P (splP P q i j ln an) q i j (stp (ksN P q) i j) (stp (ksN P q) j i):=by
  refine ⟨hq,hi,hj,hij,rfl,rfl,by simp [splP],fun t ht hne => ?_,?_,?_⟩
  · unfold ksN;rw [splP_get ht,if_neg hne]
  · unfold ksN;rw [splP_get hq,if_pos rfl];simp [h1P,half,rot_len]
  · unfold ksN;rw [splP_last];simp [h2P,half,rot_len]
theorem mv_at (h:Cut P P' q i j n m){a b:Int}(hs:sdOk P a b=true):sdOk P' (mvP q P.length (ksN P q) i n a b) (mvI q (ksN P q) i n a b)=true∧offN P' (mvP q P.length (ksN P q) i n a b).toNat+(mvI q (ksN P q) i n a b).toNat=gS P P' q i n (offN P a.toNat+b.toNat):=by
  obtain ⟨h1,h2,h3,h4⟩:=sd_ok hs
  obtain ⟨⟨n0,m0⟩,nm⟩:=h.nm
  have hq:=h.hq
  have hl:=h.len
  have k1:=h.k1
  have k2:=h.k2
  rw [gS_at h1 h2]
  unfold mvP mvI sdOk
  by_cases e:a=q
  · have e':a.toNat=q:=by omega
    have hst:stp (ksN P q) i b.toNat<ksN P q:=stp_lt h.hi (by rw [←e'];exact h2)
    rw [if_pos e,if_pos e,if_pos e']
    by_cases e2:stp (ksN P q) i b.toNat<n
    · rw [if_pos e2,if_pos e2,if_pos e2]
      simp only [Int.toNat_natCast,Bool.and_eq_true,decide_eq_true_eq]
      exact ⟨⟨by omega,by rw [k1];omega⟩,trivial⟩
    · rw [if_neg e2,if_neg e2,if_neg e2]
      simp only [Int.toNat_natCast,Bool.and_eq_true,decide_eq_true_eq]
      exact ⟨⟨by omega,by rw [k2];omega⟩,trivial⟩
  · have e':¬a.toNat=q:=by omega
    rw [if_neg e,if_neg e,if_neg e']
    simp only [Bool.and_eq_true,decide_eq_true_eq]
    exact ⟨⟨by omega,by rw [h.ks _ h1 e'];omega⟩,trivial⟩
theorem spl_ln (hq:q<P.length)(hi:i<ksN P q)(hj:j<ksN P q)(hij:i≠j){x:Nat}(hx:x<nsN P):lnN (splP P q i j ln an) (gS P (splP P q i j ln an) q i (stp (ksN P q) i j) x)=lnN P x:=by
  have h:=spl_cut (ln:=ln) (an:=an) hq hi hj hij
  obtain ⟨t,b,h1,h2,rfl⟩:=off_loc hx
  obtain ⟨t',b',g1,g2,g3,g4,g5,g6⟩:=h.loc h1 h2
  rw [g3,ln_at g1 g2,ln_at h1 h2]
  rcases g6 with ⟨p1,p2,p3⟩ | ⟨p1,p2,p3,p4⟩ | ⟨p1,p2,p3,p4⟩
  · subst p2;subst p3
    rw [splP_get h1,if_neg p1]
  · subst p3;subst p1;subst p4
    rw [splP_get hq,if_pos rfl]
    unfold h1P half
    simp only
    rw [getD_lt (by rw [rot_len];exact p2),rot_get (show stp (ksN P t) i b<stp (P.getD t default).s.length i j from p2)]
    show (P.getD t default).s.getD ((i+stp (ksN P t) i b) % ksN P t) 0=_
    rw [stp_at h.hi h2]
  · subst p3;subst p1;subst p4
    rw [splP_last]
    have hr:=stp_rem h.hi h.hj h2 p2
    have hlt:stp (ksN P t) i b-stp (ksN P t) i j<stp (ksN P t) j i:=g5 rfl
    unfold h2P half
    simp only
    rw [getD_lt (by rw [rot_len];exact hlt),rot_get (show stp (ksN P t) i b-stp (ksN P t) i j<stp (P.getD t default).s.length j i from hlt)]
    show (P.getD t default).s.getD ((j+(stp (ksN P t) i b-stp (ksN P t) i j)) % ksN P t) 0=_
    rw [←hr,stp_at h.hj h2]
theorem seam_mk {ease:Int}{pre:List Sm}{s:Sm}(h1:sdOk P s.A s.I=true∧sdOk P s.B s.J=true)(h2:¬(s.A=s.B∧s.I=s.J))(h3:∀t∈pre,usesB t s.A s.I=false∧usesB t s.B s.J=false)(h4:(P.getD s.A.toNat default).s.getD s.I.toNat 0-(P.getD s.B.toNat default).s.getD s.J.toNat 0≤ease∧-((P.getD s.A.toNat default).s.getD s.I.toNat 0-(P.getD s.B.toNat default).s.getD s.J.toNat 0)≤ease):seamE P ease pre s=0:=by
  unfold seamE
  rw [h1.1,h1.2]
  have e1:(decide (s.A=s.B)&&decide (s.I=s.J))=false:=by
    rw [Bool.and_eq_false_iff]
    by_cases g:s.A=s.B
    · exact Or.inr (decide_eq_false fun g2=>h2 ⟨g,g2⟩)
    · exact Or.inl (decide_eq_false g)
  have e2:(pre.any fun t=>usesB t s.A s.I||usesB t s.B s.J)=false:=by
    rw [List.any_eq_false]
    intro t ht
    rw [(h3 t ht).1,(h3 t ht).2];simp
  rw [e1,e2,if_neg (by simp),if_neg (by simp),if_neg (by omega)]
theorem half_ok {p:Pc}{x:Int}{d:Nat}(hp:pieceB p=true)(hi:i<p.s.length)(hd:2≤d∧d≤5)(hln:1≤ln∧ln≤200)(hx:1≤x∧x≤359)(hz:1≤lastZ p i d x∧lastZ p i d x≤359):pieceB (half p i d ln x)=true:=by
  obtain ⟨h1,h2,h3,h4⟩:=piece_ok hp
  have e1:(half p i d ln x).s.length=d+1:=by simp [half,rot_len]
  have e2:(half p i d ln x).a.length=d+1:=by simp [half,rot_len]
  have hrl:(rot p.a p.s.length i d).length=d:=rot_len
  unfold pieceB
  simp only [Bool.and_eq_true,decide_eq_true_eq,List.all_eq_true,List.mem_range]
  refine ⟨by omega,by omega,fun t ht => ?_,?_⟩
  · rw [e1] at ht
    have hm:=h3 ((i+t) % p.s.length) (Nat.mod_lt _ (by omega))
    unfold half
    simp only
    by_cases e:t=d
    · subst e
      rw [getD_ge (j:=0) (by simp [rot_len]),getD_ge (j:=0) (by simp [rot_len])]
      exact ⟨hln,hz⟩
    · rw [getD_lt (by rw [rot_len];omega),getD_lt (by rw [List.length_set,rot_len];omega),rot_get (by omega),getD_setI (by omega),rot_get (by omega)]
      refine ⟨hm.1,?_⟩
      split
      · exact hx
      · exact hm.2
  · rw [e1]
    unfold half lastZ
    simp only
    rw [List.sum_append]
    simp only [List.sum_cons,List.sum_nil]
    omega
structure GoodC (c:Cp)(q i j:Nat)(ln an:Int):Prop where
  ok:CapOk c
  hq:q<c.P.length
  hi:i<ksN c.P q
  hj:j<ksN c.P q
  hB:splB (ksN c.P q) i j ln an=true
  hZ:splZ (c.P.getD q default) i j an=true
  h8:c.P.length≠8
theorem good_of {A I J:Int}(h:splE c A I J ln an=0):∃q i j:Nat,A=q∧I=i∧J=j∧GoodC c q i j ln an:=by
  unfold splE at h
  by_cases h0:capE c=0
  case neg=>rw [if_pos h0] at h;exact absurd h h0
  rw [if_neg (fun g=>g h0)] at h
  cases h1:sdOk c.P A I&&sdOk c.P A J with
  | false=>rw [h1] at h;simp at h
  | true =>
    rw [h1] at h
    cases h2:splB (ksN c.P A.toNat) I.toNat J.toNat ln an&&splZ (c.P.getD A.toNat default) I.toNat J.toNat an with
    | false=>rw [h2] at h;simp at h
    | true =>
      rw [h2] at h
      rw [Bool.and_eq_true] at h1 h2
      obtain ⟨a1,a2,a3,a4⟩:=sd_ok h1.1
      obtain ⟨_,b2,_,b4⟩:=sd_ok h1.2
      refine ⟨A.toNat,I.toNat,J.toNat,by omega,by omega,by omega,capE_ok.1 h0,a1,a2,b2,h2.1,h2.2,fun g => ?_⟩
      rw [g] at h;simp at h
theorem GoodC.ij (h:GoodC c q i j ln an):i≠j∧(2≤stp (ksN c.P q) i j∧2≤stp (ksN c.P q) j i)∧(1≤ln∧ln≤200)∧(1≤an∧an≤359):=by
  have hB:=h.hB
  simp only [splB,decide_eq_true_eq] at hB
  obtain ⟨b1,b2,b3,b4,b5⟩:=hB
  have hi:=h.hi
  have hj:=h.hj
  have p1:=stp_pos hi hj b1
  have p2:=stp_pos hj hi b1.symm
  have a1:=stp_at hi hj
  have a2:=stp_at hj hi
  refine ⟨b1,⟨?_,?_⟩,b4,b5⟩
  · apply Classical.byContradiction
    intro g
    have:stp (ksN c.P q) i j=1:=by omega
    rw [this] at a1;exact b2 a1
  · apply Classical.byContradiction
    intro g
    have:stp (ksN c.P q) j i=1:=by omega
    rw [this] at a2;exact b3 a2
def cutC (c:Cp)(q i j:Nat)(ln an:Int):Cp:=⟨splP c.P q i j ln an,splS c.P c.S q i j,c.e⟩
theorem cutC_eq {A I J:Int}(hA:A=q)(hI:I=i)(hJ:J=j):splC c A I J ln an=cutC c q i j ln an:=by
  subst hA hI hJ;rfl
theorem GoodC.cut (h:GoodC c q i j ln an):Cut c.P (splP c.P q i j ln an) q i j (stp (ksN c.P q) i j) (stp (ksN c.P q) j i):=spl_cut h.hq h.hi h.hj h.ij.1
theorem GoodC.pieces (h:GoodC c q i j ln an):∀t,t<(splP c.P q i j ln an).length→pieceB ((splP c.P q i j ln an).getD t default)=true:=by
  intro t ht
  have hl:=h.cut.len
  have hp:=h.ok.pc q h.hq
  obtain ⟨h1,⟨h2,h3⟩,h4,h5⟩:=h.ij
  have ha:=stp_add h.hi h.hj h1
  have hk:=h.ok.ks h.hq
  have hZ:=h.hZ
  simp only [splZ,decide_eq_true_eq] at hZ
  by_cases e:t=c.P.length
  · subst e
    rw [splP_last]
    have z2:=lastZ_two (x:=an) hp h.hi h.hj h1
    refine half_ok hp h.hj ⟨h3,?_⟩ h4 hZ.2.1 (by rw [z2];exact hZ.2.2)
    show stp (ksN c.P q) j i≤5
    omega
  · rw [splP_get (by omega)]
    split
    · refine half_ok hp h.hi ⟨h2,?_⟩ h4 h5 hZ.1
      show stp (ksN c.P q) i j≤5
      omega
    · exact h.ok.pc t (by omega)
theorem pair_lt {s:Sm}(h1:sdOk P s.A s.I=true∧sdOk P s.B s.J=true):(prS P s).1<nsN P∧(prS P s).2<nsN P:=by
  obtain ⟨a1,a2,a3,a4⟩:=sd_ok h1.1
  obtain ⟨b1,b2,b3,b4⟩:=sd_ok h1.2
  exact ⟨off_lt a1 a2,off_lt b1 b2⟩
theorem uses_of {s:Sm}{a b:Int}(h1:sdOk P s.A s.I=true∧sdOk P s.B s.J=true)(hs:sdOk P a b=true):usesB s a b=true↔(prS P s).1=offN P a.toNat+b.toNat∨(prS P s).2=offN P a.toNat+b.toNat:=by
  obtain ⟨a1,a2,a3,a4⟩:=sd_ok h1.1
  obtain ⟨b1,b2,b3,b4⟩:=sd_ok h1.2
  obtain ⟨c1,c2,c3,c4⟩:=sd_ok hs
  simp only [usesB,Bool.or_eq_true,Bool.and_eq_true,decide_eq_true_eq,prS]
  constructor
  · rintro (⟨e1,e2⟩ | ⟨e1,e2⟩)
    · exact Or.inl (by rw [e1,e2])
    · exact Or.inr (by rw [e1,e2])
  · rintro (e | e)
    · obtain ⟨e1,e2⟩:=off_inj a2 c2 e
      exact Or.inl ⟨by omega,by omega⟩
    · obtain ⟨e1,e2⟩:=off_inj b2 c2 e
      exact Or.inr ⟨by omega,by omega⟩
end
end Go.Proofs.Ytclghkegfpcdpaa.Vm
namespace Go.Proofs.Ytclghkegfpcdpaa.Vm
set_option linter.unusedVariables false
set_option linter.unusedSimpArgs false
attribute [-simp] List.getD_eq_getElem?_getD
section
variable {P P':List Pc}{c:Cp}{q i j n m t b:Nat}{ln an e:Int}
theorem CapOk.sdM (h:CapOk c){s:Sm}(hs:s∈c.S):sdOk c.P s.A s.I=true∧sdOk c.P s.B s.J=true:=by
  obtain ⟨k,hk,hk2⟩:=List.getElem_of_mem hs
  have e:c.S.getD k default=s:=by rw [←hk2,List.getD_eq_getElem?_getD,List.getElem?_eq_getElem hk];rfl
  rw [←e];exact h.smB hk
theorem mv_pair (h:Cut P P' q i j n m){s:Sm}(hs:sdOk P s.A s.I=true∧sdOk P s.B s.J=true) :
    (sdOk P' (mvS q P.length (ksN P q) i n s).A (mvS q P.length (ksN P q) i n s).I=true∧sdOk P' (mvS q P.length (ksN P q) i n s).B (mvS q P.length (ksN P q) i n s).J=true) ∧
      prS P' (mvS q P.length (ksN P q) i n s)=(gS P P' q i n (prS P s).1,gS P P' q i n (prS P s).2):=by
  obtain ⟨a1,a2⟩:=mv_at h hs.1
  obtain ⟨b1,b2⟩:=mv_at h hs.2
  exact ⟨⟨a1,b1⟩,Prod.ext a2 b2⟩
theorem side_ln {a b:Int}(hs:sdOk P a b=true):(P.getD a.toNat default).s.getD b.toNat 0=lnN P (offN P a.toNat+b.toNat):=by
  obtain ⟨a1,a2,_,_⟩:=sd_ok hs
  rw [ln_at a1 a2]
theorem new_pair (h:Cut P P' q i j n m):(sdOk P' (q:Int) (n:Int)=true∧sdOk P' (P.length:Int) (m:Int)=true)∧prS P' ⟨(q:Int),(n:Int),(P.length:Int),(m:Int)⟩=(offN P' q+n,offN P' P.length+m):=by
  have k1:=h.k1
  have k2:=h.k2
  have hl:=h.len
  have hq:=h.hq
  refine ⟨⟨?_,?_⟩,by simp [prS]⟩
  · simp only [sdOk,Bool.and_eq_true,decide_eq_true_eq,Int.toNat_natCast];omega
  · simp only [sdOk,Bool.and_eq_true,decide_eq_true_eq,Int.toNat_natCast];omega
theorem GoodC.lns (h:GoodC c q i j ln an):lnN (splP c.P q i j ln an) (offN (splP c.P q i j ln an) q+stp (ksN c.P q) i j)=ln∧lnN (splP c.P q i j ln an) (offN (splP c.P q i j ln an) c.P.length+stp (ksN c.P q) j i)=ln:=by
  have hc:=h.cut
  have k1:=hc.k1
  have k2:=hc.k2
  have hl:=hc.len
  have hq:=h.hq
  constructor
  · rw [ln_at (by omega) (by omega),splP_get hq,if_pos rfl]
    unfold h1P half
    simp only
    rw [getD_ge (j:=0) (by rw [rot_len];rfl)];rfl
  · rw [ln_at (by omega) (by omega),splP_last]
    unfold h2P half
    simp only
    rw [getD_ge (j:=0) (by rw [rot_len];rfl)];rfl
theorem GoodC.capOk (h:GoodC c q i j ln an):CapOk (cutC c q i j ln an):=by
  have hc:=h.cut
  have hl:=hc.len
  have hq:=h.hq
  have hok:=h.ok
  have hsl:(splS c.P c.S q i j).length=c.S.length+1:=by simp [splS]
  refine ⟨?_,h.pieces,hok.e,fun t ht => ?_⟩
  · have:=hok.np
    have:=h.h8
    show 1≤(splP c.P q i j ln an).length∧(splP c.P q i j ln an).length≤8
    omega
  · show seamE (splP c.P q i j ln an) c.e ((splS c.P c.S q i j).take t) ((splS c.P c.S q i j).getD t default)=0
    have ht:t<(splS c.P c.S q i j).length:=ht
    have hml:(c.S.map (mvS q c.P.length (ksN c.P q) i (stp (ksN c.P q) i j))).length=c.S.length:=by simp
    by_cases e:t=c.S.length
    · subst e
      have e1:(splS c.P c.S q i j).take c.S.length=c.S.map (mvS q c.P.length (ksN c.P q) i (stp (ksN c.P q) i j)):=by
        unfold splS
        rw [List.take_append_of_le_length (by omega),List.take_of_length_le (by omega)]
      have e2:(splS c.P c.S q i j).getD c.S.length default=⟨(q:Int),(stp (ksN c.P q) i j:Int),(c.P.length:Int),(stp (ksN c.P q) j i:Int)⟩:=by
        unfold splS
        rw [getD_ge (j:=0) (by rw [hml];rfl)];rfl
      rw [e1,e2]
      obtain ⟨n1,n2⟩:=new_pair hc
      obtain ⟨l1,l2⟩:=h.lns
      have s1:=side_ln n1.1
      have s2:=side_ln n1.2
      simp only [Int.toNat_natCast] at s1 s2
      refine seam_mk n1 (fun g => ?_) (fun u hu => ?_) ?_
      · have:=g.1;simp only at this;omega
      · obtain ⟨s,hs,rfl⟩:=List.mem_map.1 hu
        have hsd:=hok.sdM hs
        obtain ⟨m1,m2⟩:=mv_pair hc hsd
        obtain ⟨p1,p2⟩:=pair_lt hsd
        obtain ⟨g1,g2,g3⟩:=hc.glt p1
        obtain ⟨f1,f2,f3⟩:=hc.glt p2
        refine ⟨?_,?_⟩
        · rw [Bool.eq_false_iff]
          intro g
          rcases (uses_of m1 n1.1).1 g with g | g
          · rw [m2] at g;simp only [Int.toNat_natCast] at g;exact g2 g
          · rw [m2] at g;simp only [Int.toNat_natCast] at g;exact f2 g
        · rw [Bool.eq_false_iff]
          intro g
          rcases (uses_of m1 n1.2).1 g with g | g
          · rw [m2] at g;simp only [Int.toNat_natCast] at g;exact g3 g
          · rw [m2] at g;simp only [Int.toNat_natCast] at g;exact f3 g
      · simp only [Int.toNat_natCast]
        rw [s1,s2,l1,l2]
        have:=hok.e
        omega
    · have htl:t<c.S.length:=by omega
      have e1:(splS c.P c.S q i j).take t=(c.S.take t).map (mvS q c.P.length (ksN c.P q) i (stp (ksN c.P q) i j)):=by
        unfold splS
        rw [List.take_append_of_le_length (by omega),List.map_take]
      have e2:(splS c.P c.S q i j).getD t default=mvS q c.P.length (ksN c.P q) i (stp (ksN c.P q) i j) (c.S.getD t default):=by
        unfold splS
        rw [getD_lt (by omega)]
        simp [List.getD_eq_getElem?_getD,htl]
      rw [e1,e2]
      obtain ⟨o1,o2,o3,o4⟩:=seam_ok (hok.sm t htl)
      have hsd:=hok.smB htl
      generalize hs0:c.S.getD t default=s at *
      obtain ⟨m1,m2⟩:=mv_pair hc hsd
      obtain ⟨p1,p2⟩:=pair_lt hsd
      have x1:offN (splP c.P q i j ln an) (mvS q c.P.length (ksN c.P q) i (stp (ksN c.P q) i j) s).A.toNat+(mvS q c.P.length (ksN c.P q) i (stp (ksN c.P q) i j) s).I.toNat=gS c.P (splP c.P q i j ln an) q i (stp (ksN c.P q) i j) (prS c.P s).1:=congrArg Prod.fst m2
      have x2:offN (splP c.P q i j ln an) (mvS q c.P.length (ksN c.P q) i (stp (ksN c.P q) i j) s).B.toNat+(mvS q c.P.length (ksN c.P q) i (stp (ksN c.P q) i j) s).J.toNat=gS c.P (splP c.P q i j ln an) q i (stp (ksN c.P q) i j) (prS c.P s).2:=congrArg Prod.snd m2
      obtain ⟨a1,a2,a3,a4⟩:=sd_ok hsd.1
      obtain ⟨b1,b2,b3,b4⟩:=sd_ok hsd.2
      refine seam_mk m1 (fun g => ?_) (fun u hu => ?_) ?_
      · have:gS c.P (splP c.P q i j ln an) q i (stp (ksN c.P q) i j) (prS c.P s).1=gS c.P (splP c.P q i j ln an) q i (stp (ksN c.P q) i j) (prS c.P s).2:=by rw [←x1,←x2,g.1,g.2]
        have:=hc.ginj p1 p2 this
        obtain ⟨y1,y2⟩:=off_inj a2 b2 this
        exact o2 ⟨by omega,by omega⟩
      · obtain ⟨w,hw,rfl⟩:=List.mem_map.1 hu
        have hwd:=hok.sdM (List.mem_of_mem_take hw)
        obtain ⟨w1,w2⟩:=mv_pair hc hwd
        obtain ⟨r1,r2⟩:=pair_lt hwd
        obtain ⟨u1,u2⟩:=o3 w hw
        refine ⟨?_,?_⟩
        · rw [Bool.eq_false_iff]
          intro g
          rw [uses_of w1 m1.1,x1,w2] at g
          have:usesB w s.A s.I=true:=(uses_of hwd hsd.1).2 (g.imp (fun g=>hc.ginj r1 p1 g) fun g=>hc.ginj r2 p1 g)
          rw [u1] at this;cases this
        · rw [Bool.eq_false_iff]
          intro g
          rw [uses_of w1 m1.2,x2,w2] at g
          have:usesB w s.B s.J=true:=(uses_of hwd hsd.2).2 (g.imp (fun g=>hc.ginj r1 p2 g) fun g=>hc.ginj r2 p2 g)
          rw [u2] at this;cases this
      · rw [side_ln m1.1,side_ln m1.2,x1,x2,spl_ln hq h.hi h.hj h.ij.1 p1,spl_ln hq h.hi h.hj h.ij.1 p2]
        rw [side_ln hsd.1,side_ln hsd.2] at o4
        exact o4
theorem GoodC.ls (h:GoodC c q i j ln an):lsN (cutC c q i j ln an)=(offN (splP c.P q i j ln an) q+stp (ksN c.P q) i j,offN (splP c.P q i j ln an) c.P.length+stp (ksN c.P q) j i) :: (lsN c).map fun s=>(gS c.P (splP c.P q i j ln an) q i (stp (ksN c.P q) i j) s.1,gS c.P (splP c.P q i j ln an) q i (stp (ksN c.P q) i j) s.2):=by
  have hc:=h.cut
  unfold lsN cutC prL splS
  simp only
  rw [List.map_append,List.reverse_append,List.map_map,List.map_reverse,List.map_map]
  simp only [List.map_cons,List.map_nil,List.reverse_cons,List.reverse_nil,List.nil_append,List.cons_append]
  rw [(new_pair hc).2]
  have:List.map (prS (splP c.P q i j ln an)∘mvS q c.P.length (ksN c.P q) i (stp (ksN c.P q) i j)) c.S=List.map ((fun s=>(gS c.P (splP c.P q i j ln an) q i (stp (ksN c.P q) i j) s.1,gS c.P (splP c.P q i j ln an) q i (stp (ksN c.P q) i j) s.2))∘prS c.P) c.S :=
    List.map_congr_left fun s hs=>(mv_pair hc (h.ok.sdM hs)).2
  rw [this]
end
end Go.Proofs.Ytclghkegfpcdpaa.Vm
namespace Go.Proofs.Ytclghkegfpcdpaa.Vm
open Go
set_option maxRecDepth 100000
set_option maxHeartbeats 1000000
set_option linter.unusedSimpArgs false
set_option linter.unusedVariables false
attribute [-simp] List.getD_eq_getElem?_getD
def SplitSays:Prop:=∀{lim:Nat} {H:Hp} {K:V→Hp→Prop} {c:Cp} {ws:List V} {A i j ln an:Int},I64 A→I64 i→I64 j→CapV H ws c→ShortC c→lim≤H.length→(∀H' ws',HX H H'→CapV H' ws' (if splE c A i j ln an=0 then splC c A i j ln an else zCap)→K (.tup [.agg ws',.int .i64 (splE c A i j ln an)]) H')→VCall tbl lim 41 [.agg ws,.int .i64 A,.int .i64 i,.int .i64 j,.int .i64 ln,.int .i64 an] H K
section
variable {n lim:Nat}{H H' H1:Hp}{K:V→Hp→Prop}{v pv sv a b u w:V}{ps:List (V×V)}{P:List Pc}{S:List Sm}{e:Int}{ws:List V}{c d:Cp}{l m:List Int}
theorem spl_bd {A i j ln an:Int}(hsh:ShortC c):(if splE c A i j ln an=0 then splC c A i j ln an else zCap).P.length≤1000000∧(if splE c A i j ln an=0 then splC c A i j ln an else zCap).S.length≤1000000∧∀q,q<(if splE c A i j ln an=0 then splC c A i j ln an else zCap).P.length→((if splE c A i j ln an=0 then splC c A i j ln an else zCap).P.getD q default).s.length≤1000000∧((if splE c A i j ln an=0 then splC c A i j ln an else zCap).P.getD q default).a.length≤1000000:=by
  have s2:=hsh.ns
  split
  · rename_i h0
    obtain ⟨q,i',j',e1,e2,e3,hg⟩:=good_of h0
    rw [cutC_eq e1 e2 e3]
    have hk:=hg.capOk
    have h1:=hk.np
    refine ⟨by omega,by simp [cutC,splS];omega,fun t ht => ?_⟩
    obtain ⟨g1,g2,_,_⟩:=piece_ok (hk.pc t ht)
    omega
  · exact ⟨by simp [zCap],by simp [zCap],fun q hq=>by simp [zCap] at hq⟩
theorem spl_CapSplits {n0 n1 n2 n3 n4:Int}(hS:SplitSays)(ha:CapA H ws c)(hlim:lim≤H.length)(i0:I64 n0)(i1:I64 n1)(i2:I64 n2)(i3:I64 n3)(i4:I64 n4)(hK:∀H',K (.bool true) H'):VCall tbl lim 11 [.agg ws,.agg [.int .i64 n0,.int .i64 n1,.int .i64 n2,.int .i64 n3,.int .i64 n4]] H K:=by
  have hc:=ha.cap
  obtain ⟨pv,sv,ps,rfl,hp,hs,z1,z2,z3,z4⟩:=hc.form
  have r4:∀{x y z u w:V},rd none [x,y,z,u,w] 4=some w:=fun {x y z u w}=>Eq.trans rfl rfl
  refine VCall_fn tbl_at11 rfl ?_
  simp [vf11,z1,z2,z3,z4,rdA3]
  refine l02_Long hc ?_
  cases hl:longB c with
  | true =>
    simp
    refine cp_known hlim fun H' _ => ?_
    simp
    exact hK _
  | false =>
  have hsh:=short_of hl
  have hbd:=spl_bd (A:=n0) (i:=n1) (j:=n2) (ln:=n3) (an:=n4) hsh
  simp [rdA3,z1,z2,z3,z4]
  refine r02_Copy hc hsh hlim fun H1 ws1 x1 o1 => ?_
  replace x1:HX H H1:=x1
  have l1:=x1.len
  obtain ⟨pv1,sv1,ps1,rfl,hp1,hs1,q1,q2,q3,q4⟩:=o1.cap.form
  simp [rdA3,rd0,rd1',rd2',rd3',r4,q1,q2,q3,q4,splice]
  refine hS i0 i1 i2 o1.cap hsh (by omega) fun H2 ws2 x2 o2 => ?_
  replace x2:HX H1 H2:=x2
  have l2:=x2.len
  generalize hA:(if splE c n0 n1 n2 n3 n4=0 then splC c n0 n1 n2 n3 n4 else zCap)=A at *
  obtain ⟨pv2,sv2,ps2,rfl,hp2,hs2,y1,y2,y3,y4⟩:=o2.form
  simp [rdA3,rd0,rd1',rd2',rd3',r4,z1,z2,z3,z4,y1,y2,y3,y4,splice]
  refine r02_Split i0 i1 i2 (hc.mono (x1.trans x2)) hsh (by omega) fun H3 ws3 x3 o3 => ?_
  replace x3:HX H2 H3:=x3
  have l3:=x3.len
  rw [hA] at o3
  obtain ⟨pv3,sv3,ps3,rfl,hp3,hs3,t1,t2,t3,t4⟩:=o3.form
  simp [rdA3,y1,y2,y3,y4,t1,t2,t3,t4,splice]
  refine r02_Same (c:=A) (d:=A) (o2.mono x3) o3 (Or.inr hbd) ?_
  simp [same_refl,rdA3,q1,q3,z1,z3]
  refine r02_Same (c:=c) (d:=c) (o1.cap.mono (x2.trans x3)) (hc.mono ((x1.trans x2).trans x3)) (Or.inl hsh) ?_
  simp [same_refl]
  refine cp_known (by omega) fun H8 _ => ?_
  simp
  exact hK _
def swpI (l:List Int)(i j:Nat):List Int:=(l.set i (l.getD j 0)).set j (l.getD i 0)
theorem splitSays:SplitSays:=fun iA ii ij hc hsh hlim hK=>surf_Split iA ii ij hc hsh hlim hK
theorem law_CapSplits {n0 n1 n2 n3 n4:Int}(ha:CapA H ws c)(hlim:lim≤H.length)(i0:I64 n0)(i1:I64 n1)(i2:I64 n2)(i3:I64 n3)(i4:I64 n4)(hK:∀H',K (.bool true) H'):VCall tbl lim 11 [.agg ws,.agg [.int .i64 n0,.int .i64 n1,.int .i64 n2,.int .i64 n3,.int .i64 n4]] H K:=spl_CapSplits splitSays ha hlim i0 i1 i2 i3 i4 hK
end
end Go.Proofs.Ytclghkegfpcdpaa.Vm
