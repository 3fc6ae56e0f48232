/- A cap of which only angles of one piece changed. Pure. -/
import Derived.Test.YtclghkegfpcdpaaQCapDartsA
import Derived.Test.YtclghkegfpcdpaaQCapDartsC
namespace Go.Proofs.Ytclghkegfpcdpaa.Vm
set_option linter.unusedVariables false
set_option linter.unusedSimpArgs false
attribute [-simp] List.getD_eq_getElem?_getD
structure SameS (P P':List Pc):Prop where
  len:P'.length=P.length
  s:∀q,(P'.getD q default).s=(P.getD q default).s
section
variable {P P':List Pc}{c:Cp}
theorem SameS.ks (h:SameS P P'){q:Nat}:ksN P' q=ksN P q:=by unfold ksN;rw [h.s]
theorem SameS.off (h:SameS P P'):∀{q:Nat},offN P' q=offN P q
  | 0=>rfl
  | q+1=>by rw [offN,offN,h.off,h.ks]
theorem SameS.ns (h:SameS P P'):nsN P'=nsN P:=by unfold nsN;rw [h.len,h.off]
theorem bas_out {i:Nat}(h:¬i<nsN P):(basT P P.length).getD i default=default:=by
  rw [List.getD_eq_getElem?_getD,List.getElem?_eq_none (by rw [basT_len];exact Nat.le_of_not_lt h)];rfl
theorem SameS.nx (h:SameS P P'):nxN P'=nxN P:=by
  funext i
  by_cases hi:i<nsN P
  · obtain ⟨q,j,h1,h2,rfl⟩:=off_loc hi
    rw [nx_at h1 h2,←h.off,nx_at (by rw [h.len];exact h1) (by rw [h.ks];exact h2),h.ks]
  · unfold nxN
    rw [bas_out hi,bas_out (by rw [h.ns];exact hi)]
theorem SameS.ln (h:SameS P P'):lnN P'=lnN P:=by
  funext i
  by_cases hi:i<nsN P
  · obtain ⟨q,j,h1,h2,rfl⟩:=off_loc hi
    rw [ln_at h1 h2,←h.off,ln_at (by rw [h.len];exact h1) (by rw [h.ks];exact h2),h.s]
  · unfold lnN
    rw [bas_out hi,bas_out (by rw [h.ns];exact hi)]
theorem SameS.pc (h:SameS P P'):pcN P'=pcN P:=by
  funext i
  by_cases hi:i<nsN P
  · obtain ⟨q,j,h1,h2,rfl⟩:=off_loc hi
    rw [pc_at h1 h2,←h.off,pc_at (by rw [h.len];exact h1) (by rw [h.ks];exact h2)]
  · unfold pcN
    rw [List.getD_eq_getElem?_getD,List.getD_eq_getElem?_getD,List.getElem?_eq_none (by rw [pcT_len];have:=h.ns;unfold nsN at this hi;omega),List.getElem?_eq_none (by rw [pcT_len];unfold nsN at hi;omega)]
theorem SameS.sd (h:SameS P P'):sdOk P'=sdOk P:=by
  funext a i
  unfold sdOk
  rw [h.len,h.ks]
theorem SameS.seam (h:SameS P P'):seamE P'=seamE P:=by
  funext e pre s
  unfold seamE
  rw [h.sd,h.s,h.s]
theorem SameS.pr (h:SameS P P'):prL P'=prL P:=by
  funext l
  unfold prL
  have:prS P'=prS P:=by funext s;unfold prS;rw [h.off,h.off]
  rw [this]
def withP (c:Cp)(P':List Pc):Cp:=⟨P',c.S,c.e⟩
theorem SameS.ls (h:SameS c.P P'):lsN (withP c P')=lsN c:=by unfold lsN withP;exact congrFun h.pr _
theorem SameS.ok (h:SameS c.P P')(hok:CapOk c)(hp:∀q,q<c.P.length→pieceB (P'.getD q default)=true):CapOk (withP c P'):=by
  refine ⟨by unfold withP;simp only;rw [h.len];exact hok.np,fun q hq=>hp q (by unfold withP at hq;simp only at hq;rw [h.len] at hq;exact hq),hok.e,fun i hi => ?_⟩
  have:=hok.sm i hi
  unfold withP
  simp only
  rw [h.seam];exact this
theorem SameS.part (h:SameS c.P P'):partP (withP c P')=partP c:=by
  unfold partP
  rw [h.ls]
  unfold withP;simp only
  rw [h.pc,h.len]
theorem SameS.loop (h:SameS c.P P'):loopP (withP c P')=loopP c:=by
  unfold loopP
  rw [h.ls]
  unfold withP;simp only
  rw [h.nx,h.ns]
theorem SameS.euler (h:SameS c.P P'):eulP (withP c P')=eulP c:=by
  have e1:PtR (withP c P')=PtR c:=by
    unfold PtR
    rw [h.ls]
    unfold withP;simp only
    rw [h.nx,h.ns]
  unfold eulP ptsP
  rw [List.length_map,List.length_map,e1]
  unfold withP;simp only
  rw [h.ns,h.len]
theorem SameS.hand (h:SameS c.P P'):handP (withP c P')=handP c:=by
  unfold handP
  rw [h.part,h.euler,h.loop]
theorem SameS.hair (h:SameS c.P P'):hairP (withP c P')=hairP c:=by
  unfold hairP
  rw [h.loop]
  unfold withP;simp only
  rw [h.ln]
theorem SameS.miss (h:SameS c.P P')(h1:CapOk c)(h2:CapOk (withP c P')):missP (withP c P')=missP c:=by
  rw [miss_euler h1,miss_euler h2,h.euler]
theorem sum_set:∀{l:List Int} {i:Nat} {x:Int},i<l.length→(l.set i x).sum=l.sum-l.getD i 0+x
  | a :: l,0,x,_=>by simp [List.getD_eq_getElem?_getD];omega
  | a :: l,i+1,x,h=>by
    have:=sum_set (l:=l) (i:=i) (x:=x) (by simpa using h)
    have e:(a :: l).getD (i+1) 0=l.getD i 0:=by simp [List.getD_eq_getElem?_getD]
    rw [List.set_cons_succ,List.sum_cons,List.sum_cons,this,e];omega
theorem getD_setI {l:List Int}{i t:Nat}{x:Int}(h:i<l.length):(l.set i x).getD t 0=if t=i then x else l.getD t 0:=by
  simp only [List.getD_eq_getElem?_getD,List.getElem?_set]
  by_cases e:i=t
  · subst e;simp [h]
  · rw [if_neg e,if_neg (fun h=>e h.symm)]
def dartA (a:List Int)(j k:Nat)(n:Int):List Int:=(a.set j (a.getD j 0-n)).set ((j+1) % k) ((a.set j (a.getD j 0-n)).getD ((j+1) % k) 0+n)
def dartB (a:List Int)(j k:Nat)(n:Int):Bool:=decide (1≤n∧n≤a.getD j 0-1∧n≤359-a.getD ((j+1) % k) 0)
def dartP (P:List Pc)(q j:Nat)(n:Int):List Pc:=P.set q ⟨(P.getD q default).s,dartA (P.getD q default).a j (ksN P q) n⟩
theorem getD_setP {i t:Nat}{x:Pc}(h:i<P.length):(P.set i x).getD t default=if t=i then x else P.getD t default:=by
  simp only [List.getD_eq_getElem?_getD,List.getElem?_set]
  by_cases e:i=t
  · subst e;simp [h]
  · rw [if_neg e,if_neg (fun h=>e h.symm)]
theorem dart_same {q j:Nat}{n:Int}(hq:q<P.length):SameS P (dartP P q j n):=by
  refine ⟨by simp [dartP],fun t => ?_⟩
  rw [dartP,getD_setP hq]
  split
  · rename_i e;rw [e]
  · rfl
theorem next_ne {j k:Nat}(h:j<k)(h2:2≤k):(j+1) % k≠j∧(j+1) % k<k:=by
  have:(j+1) % k<k:=Nat.mod_lt _ (by omega)
  rw [mod_next h] at *
  split<;>omega
theorem dart_piece {p:Pc}{j:Nat}{n:Int}(hp:pieceB p=true)(hj:j<p.s.length)(hb:dartB p.a j p.s.length n=true):pieceB ⟨p.s,dartA p.a j p.s.length n⟩=true:=by
  obtain ⟨h1,h2,h3,h4⟩:=piece_ok hp
  obtain ⟨n1,n2⟩:=next_ne hj (by omega)
  simp only [dartB,decide_eq_true_eq] at hb
  unfold pieceB dartA
  generalize (j+1) % p.s.length=m at *
  have hj2:j<p.a.length:=by omega
  have hm2:m<(p.a.set j (p.a.getD j 0-n)).length:=by rw [List.length_set];omega
  have e1:(p.a.set j (p.a.getD j 0-n)).getD m 0=p.a.getD m 0:=by rw [getD_setI hj2,if_neg n1]
  have hm3:=(h3 m n2).2
  have hj3:=(h3 j hj).2
  simp only [Bool.and_eq_true,decide_eq_true_eq,List.all_eq_true,List.mem_range]
  refine ⟨h1,by simp [h2],fun i hi=>⟨(h3 i hi).1,?_⟩,?_⟩
  · have hi3:=(h3 i hi).2
    rw [getD_setI hm2,e1,getD_setI hj2]
    split
    · rename_i e;rw [e] at hi3;omega
    · split
      · rename_i e;rw [e] at hi3;omega
      · omega
  · rw [sum_set hm2,e1,sum_set hj2,h4];omega
theorem dart_ok {q j:Nat}{n:Int}(hok:CapOk c)(hq:q<c.P.length)(hj:j<ksN c.P q)(hb:dartB (c.P.getD q default).a j (ksN c.P q) n=true):CapOk (withP c (dartP c.P q j n)):=by
  refine (dart_same hq).ok hok fun t ht => ?_
  rw [dartP,getD_setP hq]
  split
  · exact dart_piece (hok.pc q hq) hj hb
  · exact hok.pc t ht
def atQ (P:List Pc)(i:Nat):Nat:=pcN P i
def atJ (P:List Pc)(i:Nat):Nat:=i-offN P (pcN P i)
noncomputable def dartE (c:Cp)(i n:Int):Int :=
  if capE c≠0 then capE c else if ¬(0≤i∧i<nsN c.P) then 5 else
  if dartB (c.P.getD (atQ c.P i.toNat) default).a (atJ c.P i.toNat) (ksN c.P (atQ c.P i.toNat)) n then 0 else 1
noncomputable def dartC (c:Cp)(i n:Int):Cp:=withP c (dartP c.P (atQ c.P i.toNat) (atJ c.P i.toNat) n)
theorem at_loc {q j:Nat}(hq:q<P.length)(hj:j<ksN P q):atQ P (offN P q+j)=q∧atJ P (offN P q+j)=j:=by
  unfold atQ atJ
  rw [pc_at hq hj]
  exact ⟨rfl,by omega⟩
theorem dart_keeps {i n:Int}(h:dartE c i n=0):CapOk c∧CapOk (dartC c i n)∧SameS c.P (dartC c i n).P∧dartC c i n=withP c (dartC c i n).P:=by
  unfold dartE at h
  by_cases h0:capE c=0
  case neg=>rw [if_pos h0] at h;exact absurd h h0
  rw [if_neg (fun g=>g h0)] at h
  by_cases h1:0≤i∧i<nsN c.P
  case neg=>rw [if_pos h1] at h;omega
  rw [if_neg (fun g=>g h1)] at h
  have hok:=capE_ok.1 h0
  obtain ⟨q,j,g1,g2,g3⟩:=off_loc (pcs:=c.P) (i:=i.toNat) (p:=c.P.length) (by have:offN c.P c.P.length=nsN c.P:=rfl;omega)
  unfold dartC
  rw [g3,(at_loc g1 g2).1,(at_loc g1 g2).2] at h ⊢
  split at h
  · rename_i hb
    exact ⟨hok,dart_ok hok g1 g2 hb,dart_same g1,rfl⟩
  · omega
end
end Go.Proofs.Ytclghkegfpcdpaa.Vm
namespace Go.Proofs.Ytclghkegfpcdpaa.Vm
open Go
set_option maxRecDepth 100000
set_option maxHeartbeats 1000000
set_option linter.unusedSimpArgs false
set_option linter.unusedVariables false
attribute [-simp] List.getD_eq_getElem?_getD
def nal (x y:V):Prop:=∀b o z w o' z' w',x=.sl b o z w→y=.sl b o' z' w'→False
def DisP (ps:List (V×V)):Prop:=∀i,i<ps.length→∀j,j<ps.length→nal (ps.getD i default).1 (ps.getD j default).2∧(i≠j→nal (ps.getD i default).1 (ps.getD j default).1∧nal (ps.getD i default).2 (ps.getD j default).2)
structure XC (n:Nat)(H:Hp)(pv sv:V)(ps:List (V×V))(P:List Pc)(S:List Sm):Prop where
  p:OPcsV n H pv ps P
  s:OwnT n smC H sv S
  a1:nal pv sv
  a2:∀i,i<P.length→nal sv (ps.getD i default).1∧nal sv (ps.getD i default).2
  d:DisP ps
inductive XCapV (n:Nat)(H:Hp):List V→Cp→Prop
  | mk {pv sv:V} {ps:List (V×V)} {P:List Pc} {S:List Sm} {e:Int}:XC n H pv sv ps P S→XCapV n H [pv,sv,.int .i64 e] ⟨P,S,e⟩
section
variable {n lim:Nat}{H H' H1:Hp}{K:V→Hp→Prop}{v pv sv a b u:V}{ps:List (V×V)}{pcs P:List Pc}{S:List Sm}{e:Int}{ws:List V}{c d:Cp}
theorem nal.sy (h:nal a b):nal b a:=fun x o z w o' z' w' e e'=>h x o' z' w' o z w e' e
theorem nal_of {l m:List Int}(ha:OwnV n H a l)(hb:OwnV H.length H1 b m):nal a b:=fun x o z w o' z' w' e e'=>by
  have:=(ha.belowB _ _ _ _ e).2
  have:=(hb.belowB _ _ _ _ e').1
  omega
theorem XC.oc (h:XC n H pv sv ps P S):OCapV n H [pv,sv,.int .i64 e] ⟨P,S,e⟩ :=
  .mk h.p h.s h.a1 fun i hi b o z y o' z' y' e e'=>by
    rcases e' with e' | e'
    · exact (h.a2 i hi).1 _ _ _ _ _ _ _ e e'
    · exact (h.a2 i hi).2 _ _ _ _ _ _ _ e e'
theorem XCapV.toO (h:XCapV n H ws c):OCapV n H ws c:=by cases h with | mk h=>exact h.oc
theorem XCapV.cap (h:XCapV n H ws c):CapV H ws c:=h.toO.cap
theorem XC.mono (hx:HX H H')(h:XC n H pv sv ps P S):XC n H' pv sv ps P S:=⟨h.p.mono hx,h.s.mono hx,h.a1,h.a2,h.d⟩
theorem XCapV.mono (hx:HX H H')(h:XCapV n H ws c):XCapV n H' ws c:=by cases h with | mk h=>exact .mk (h.mono hx)
theorem XCapV.vals (h:XCapV n H [pv,sv,.int .i64 e] ⟨P,S,e⟩):stor pv=true∧cellsV pv=[pv]∧stor sv=true∧cellsV sv=[sv]:=h.toO.vals
theorem XCapV.start {sv:V}{S:List Sm}(h:OwnT n smC H sv S):XCapV n H [.snil,sv,.int .i64 e] ⟨[],S,e⟩:=.mk (ps:=[]) ⟨OPcsV.nil,h,(fun b o z y o' z' y' e _=>by cases e),(fun i hi=>by simp at hi),(fun i hi=>by simp at hi)⟩
theorem XCapV.parts (h:XCapV n H ws c):∃pv sv ps,ws=[pv,sv,.int .i64 c.e]∧XC n H pv sv ps c.P c.S:=by
  cases h with
  | mk h=>exact ⟨_,_,_,rfl,h⟩
theorem XCapV.pushS {x:Sm}{cs:List V}(hcs:smC.cells x=cs)(h:XCapV n H [pv,sv,.int .i64 e] ⟨P,S,e⟩)(hn:lim≤n∧n≤H.length)(hl:S.length<1000000) :
    ∃sv' H',vappend lim 4 32 (H++[.row cs true]) sv (.sl H.length 0 1 4)=some (sv',H')∧XCapV n H' [pv,sv',.int .i64 e] ⟨P,S++[x],e⟩∧(∀H0,HX H0 H→H0.length≤n→HX H0 H')∧H.length≤H'.length:=by
  cases h with
  | mk h =>
  rename_i ps
  obtain ⟨h1,h2,h3,h4,h5⟩:=h
  obtain ⟨v',H',a1,a2,a3,a4,a5,a6⟩:=h2.appendF2 (lim:=lim) (bytes:=32) hcs hn (by omega) hl
  refine ⟨v',H',a1,.mk (ps:=ps) ⟨h1.keepB (fun b o m z e=>a5 b (h1.own.belowB _ _ _ _ e).2 fun o' z' y' e'=>h3 _ _ _ _ _ _ _ e e') fun i hi b o m z e => ?_,a2,fun b o z y o' z' y' e e' => ?_,fun i hi=>⟨fun b o z y o' z' y' e e' => ?_,fun b o z y o' z' y' e e' => ?_⟩,h5⟩,a3,a4⟩
  · rcases e with e | e
    · exact a5 b ((h1.at' i hi).1.belowB _ _ _ _ e).2 fun o' z' y' e'=>(h4 i hi).1 _ _ _ _ _ _ _ e' e
    · exact a5 b ((h1.at' i hi).2.belowB _ _ _ _ e).2 fun o' z' y' e'=>(h4 i hi).2 _ _ _ _ _ _ _ e' e
  · have:=(h1.own.belowB _ _ _ _ e).2
    have:=a6 _ _ _ _ e'
    omega
  · have h6:=a6 _ _ _ _ e
    have:=((h1.at' i hi).1.belowB _ _ _ _ e').2;omega
  · have h6:=a6 _ _ _ _ e
    have:=((h1.at' i hi).2.belowB _ _ _ _ e').2;omega
theorem DisP.push (h:DisP ps)(hab:nal a b)(h1:∀i,i<ps.length→(nal (ps.getD i default).1 a∧nal (ps.getD i default).1 b)∧nal (ps.getD i default).2 a∧nal (ps.getD i default).2 b):DisP (ps++[(a,b)]):=by
  intro i hi j hj
  rw [List.length_append,List.length_singleton] at hi hj
  by_cases hi1:i<ps.length
  · rw [getD_lt hi1]
    by_cases hj1:j<ps.length
    · rw [getD_lt hj1];exact h i hi1 j hj1
    · have:j=ps.length:=by omega
      subst this
      rw [getD_last rfl]
      exact ⟨(h1 i hi1).1.2,fun _=>⟨(h1 i hi1).1.1,(h1 i hi1).2.2⟩⟩
  · have:i=ps.length:=by omega
    subst this
    rw [getD_last rfl]
    by_cases hj1:j<ps.length
    · rw [getD_lt hj1]
      exact ⟨(h1 j hj1).2.1.sy,fun _=>⟨(h1 j hj1).1.1.sy,(h1 j hj1).2.2.sy⟩⟩
    · have:j=ps.length:=by omega
      subst this
      rw [getD_last rfl]
      exact ⟨hab,fun g=>absurd rfl g⟩
theorem XCapV.pushP {p:Pc}(h:XCapV n H [pv,sv,.int .i64 e] ⟨P,S,e⟩)(hx:HX H H1)(ha:OwnV H.length H1 a p.s)(hb:OwnV H.length H1 b p.a)(hab:nal a b)(hn:lim≤n∧n≤H.length)(hl:P.length<1000000) :
    ∃pv' H2,vappend lim 2 48 (H1++[.row [a,b] true]) pv (.sl H1.length 0 1 2)=some (pv',H2)∧XCapV n H2 [pv',sv,.int .i64 e] ⟨P++[p],S,e⟩∧(∀H0,HX H0 H1→H0.length≤n→HX H0 H2)∧H1.length≤H2.length:=by
  cases h with
  | mk h =>
  rename_i ps
  obtain ⟨h1,h2,h3,h4,h5⟩:=h
  have hlen:=hx.len
  obtain ⟨v',H2,a1,a2,a3,a4,a5,a6⟩:=h1.append hx ha hb hn hl
  have hs:=fun b o z y (e:sv=.sl b o z y)=>h2.belowB b o z y e
  refine ⟨v',H2,a1,.mk ⟨a2,((h2.mono hx).keepB fun b o m z e=>a5 b (by have:=(hs _ _ _ _ e).2;omega) fun o' z' y' e'=>h3 _ _ _ _ _ _ _ e' e),(fun b o z y o' z' y' e e' => ?_),fun i hi => ?_,h5.push hab fun i hi => ?_⟩,a3,a4⟩
  · have:=(hs _ _ _ _ e').2
    have:=a6 _ _ _ _ e
    omega
  · rw [List.length_append,List.length_singleton] at hi
    by_cases hlt:i<P.length
    · rw [getD_lt (l:=ps) (by rw [h1.len];exact hlt)]
      exact h4 i hlt
    · have:i=P.length:=by omega
      subst this
      rw [getD_last h1.len.symm]
      refine ⟨fun b' o z y o' z' y' e e' => ?_,fun b' o z y o' z' y' e e' => ?_⟩
      · have:=(hs _ _ _ _ e).2;have:=(ha.belowB _ _ _ _ e').1;omega
      · have:=(hs _ _ _ _ e).2;have:=(hb.belowB _ _ _ _ e').1;omega
  · have hi:i<P.length:=by rw [←h1.len];exact hi
    have t1:=(h1.at' i hi).1
    have t2:=(h1.at' i hi).2
    exact ⟨⟨nal_of t1 ha,nal_of t1 hb⟩,nal_of t2 ha,nal_of t2 hb⟩
theorem r02_CopyPieceX {p:Pc}(ha:SlV H a p.s)(hb:SlV H b p.a)(hlim:lim≤H.length)(hl:p.s.length≤1000∧p.a.length≤1000)(hK:∀H' a' b',HX H H'→OwnV H.length H' a' p.s→OwnV H.length H' b' p.a→nal a' b'→K (.agg [a',b']) H'):VCall tbl lim 52 [.agg [a,b]] H K:=by
  refine VCall_fn tbl_at52 rfl ?_
  simp [vf52,ha.stor,ha.one,hb.stor,hb.one,rd0,rd1']
  refine ref01_CopyInts ha (by omega) hl.1 fun H1 v1 x1 o1 => ?_
  replace x1:HX H H1:=x1
  have l1:=x1.len
  simp [rd0,rd1',hb.stor]
  refine ref01_CopyInts (hb.mono x1) (by omega) hl.2 fun H2 v2 x2 o2 => ?_
  replace x2:HX H1 H2:=x2
  have:=hK H2 v1 v2 (x1.trans x2) (o1.mono x2) (o2.le l1) (nal_of o1 o2)
  simp [o1.sl.stor,o1.sl.one,o2.sl.stor,o2.sl.one,splice,rdA2]
  exact this
theorem r02_CopyX (hc:CapV H ws c)(hsh:ShortC c)(hlim:lim≤H.length)(hK:∀H' ws',HX H H'→XCapV H.length H' ws' c→K (.agg ws') H'):VCall tbl lim 17 [.agg ws] H K:=by
  obtain ⟨pv,sv,ps,rfl,hp,hs,z1,z2,z3,z4⟩:=hc.form
  have s1:=hsh.np
  have s2:=hsh.ns
  refine VCall_fn tbl_at17 rfl ?_
  simp [vf17,z1,z2,z3,z4,rd0,rd1',rd2',splice]
  refine wLoop_up c.P.length (fun i fr L H'=>∃v,(fr 1=.lp 0 0∧fr 2=.lp 1 0∧fr 3=.lp 2 0∧fr 4=.int .i64 i)∧L=[[pv,sv,.int .i64 c.e],[.snil,.snil,.int .i64 0],[v,.snil,.int .i64 c.e]]∧HX H H'∧XCapV H.length H' [v,.snil,.int .i64 c.e] ⟨c.P.take i,[],c.e⟩) ⟨.snil,by simp,by simp,.refl,.start .nil⟩ ?_
  rintro i hi fr L H1 ⟨v,⟨f1,f2,f3,f4⟩,rfl,x1,hO⟩
  have l1:=x1.len
  simp [f1,f2,f3,f4,rd0,hp.vlen]
  refine cond_dec (fun ht => ?_) fun hfl => ?_
  · have ht:i<c.P.length:=by omega
    have hp1:=hp.mono x1
    obtain ⟨t1,t2⟩:=hp1.at' i ht
    obtain ⟨b1,b2⟩:=hsh.pc i ht
    simp [f1,f2,f3,f4,rd0,rd1',hp1.at ht,hp1.ld2 ht,t1.stor,t2.stor]
    refine r02_CopyPieceX (p:=c.P.getD i default) t1 t2 (by omega) ⟨by omega,by omega⟩ fun H2 a' b' x2 oa ob oab => ?_
    replace x2:HX H1 H2:=x2
    obtain ⟨pv',H3,c1,c2,c3,c4⟩:=hO.pushP (lim:=lim) x2 oa ob oab ⟨by omega,l1⟩ (by rw [List.length_take];omega)
    obtain ⟨y1,y2,_,_⟩:=c2.vals
    simp (disch:=omega) [f1,f2,f3,f4,oa.sl.one,ob.sl.one,oa.sl.stor,ob.sl.stor,splice,c1,y1,y2,wrap_i64]
    exact ⟨ht,c3 _ (x1.trans x2) (Nat.le_refl _),by rw [take_nextP ht];exact c2⟩
  · have:i=c.P.length:=by omega
    subst this
    rw [List.take_length] at hO
    simp [f1,f2,f3,f4]
    refine wLoop_up c.S.length (fun i fr L H'=>∃s,(fr 1=.lp 0 0∧fr 2=.lp 1 0∧fr 3=.lp 2 0∧fr 5=.int .i64 i)∧L=[[pv,sv,.int .i64 c.e],[.snil,.snil,.int .i64 0],[v,s,.int .i64 c.e]]∧HX H H'∧XCapV H.length H' [v,s,.int .i64 c.e] ⟨c.P,c.S.take i,c.e⟩) ⟨.snil,by simp [f1,f2,f3],rfl,x1,by simpa using hO⟩ ?_
    clear f1 f2 f3 f4 hO hi fr hfl x1 l1
    rintro i hi fr L H1 ⟨s,⟨f1,f2,f3,f5⟩,rfl,x1,hO⟩
    have l1:=x1.len
    simp [f1,f2,f3,f5,rd1',hs.len]
    refine cond_dec (fun ht => ?_) fun hfl => ?_
    · have ht:i<c.S.length:=by omega
      have hs1:=hs.mono x1
      have ld:=fun L=>hs1.load ht (L:=L)
      have ec:smC.cells (c.S.getD i default)=[.int .i64 (c.S.getD i default).A,.int .i64 (c.S.getD i default).I,.int .i64 (c.S.getD i default).B,.int .i64 (c.S.getD i default).J]:=rfl
      rw [ec] at ld
      obtain ⟨s',H3,c1,c2,c3,c4⟩:=hO.pushS (lim:=lim) ec ⟨by omega,l1⟩ (by rw [List.length_take];omega)
      obtain ⟨_,_,y1,y2⟩:=c2.vals
      simp (disch:=omega) [f1,f2,f3,f5,rd0,rd1',hs1.at ht,ld,splice,zs4,c1,y1,y2,wrap_i64]
      exact ⟨ht,c3 _ x1 (Nat.le_refl _),by rw [take_next ht];exact c2⟩
    · have:i=c.S.length:=by omega
      subst this
      rw [List.take_length] at hO
      obtain ⟨y1,y2,y3,y4⟩:=hO.vals
      simp [f1,f2,f3,f5,rdA3,splice,y1,y2,y3,y4]
      exact hK _ _ x1 hO
theorem surf_cloneX (hc:CapV H ws c)(hsh:ShortC c)(hlim:lim≤H.length)(hK:∀H' ws',HX H H'→XCapV H.length H' ws' c→K (.agg ws') H'):VCall tbl lim 70 [.agg ws] H K:=by
  obtain ⟨pv,sv,ps,rfl,hp,hs,z1,z2,z3,z4⟩:=hc.form
  have s1:=hsh.np
  have s2:=hsh.ns
  refine VCall_fn tbl_at70 rfl ?_
  simp [vf70,z1,z2,z3,z4,rd0,rd1',rd2']
  refine clone_sms hs (by omega) (by omega) fun H1 sv1 x1 o1 => ?_
  replace x1:HX H H1:=x1
  have l1:=x1.len
  simp [rd0,rd1',rd2',z1,z2,o1.lst.stor,o1.lst.one,splice,hp.vlen]
  refine wLoop_up c.P.length (fun i fr L H'=>∃v X,(fr 1=.lp 0 0∧fr 2=.lp 1 0∧fr 3=.lp 2 0∧fr 13=pv∧fr 14=.int .i64 c.P.length∧fr 15=.int .i64 i)∧L=[pv,sv,.int .i64 c.e] :: [.snil,.snil,.int .i64 0] :: [v,sv1,.int .i64 c.e] :: X∧HX H H'∧XCapV H.length H' [v,sv1,.int .i64 c.e] ⟨c.P.take i,c.S,c.e⟩) ⟨.snil,[],by simp,by simp,x1,.start o1⟩ ?_
  rintro i hi fr L H2 ⟨v,X,⟨f1,f2,f3,f13,f14,f15⟩,rfl,x2,hO⟩
  have l2:=x2.len
  simp [f1,f2,f3,f13,f14,f15]
  refine cond_dec (fun ht => ?_) fun hfl => ?_
  · have ht:i<c.P.length:=by omega
    have hp1:=hp.mono x2
    obtain ⟨t1,t2⟩:=hp1.at' i ht
    obtain ⟨b1,b2⟩:=hsh.pc i ht
    simp [f1,f2,f3,f13,f14,f15,rd0,rd1',hp1.at ht,hp1.ld2 ht,t1.stor,t1.one,t2.stor,t2.one,splice,lastO,lastS]
    refine clone_ints t1 (by omega) (by omega) fun H3 a' x3 oa => ?_
    replace x3:HX H2 H3:=x3
    have l3:=x3.len
    simp [f1,f2,f3,f13,f14,f15,rd0,rd1',t2.stor,lastO]
    refine clone_ints (t2.mono x3) (by omega) (by omega) fun H4 b' x4 ob => ?_
    replace x4:HX H3 H4:=x4
    obtain ⟨pv',H5,c1,c2,c3,c4⟩:=hO.pushP (lim:=lim) (x3.trans x4) (oa.mono x4) (ob.le l3) (nal_of oa ob) ⟨by omega,l2⟩ (by rw [List.length_take];omega)
    obtain ⟨y1,y2,_,_⟩:=c2.vals
    simp (disch:=omega) [f1,f2,f3,f13,f14,f15,oa.sl.one,ob.sl.one,oa.sl.stor,ob.sl.stor,splice,c1,y1,y2,wrap_i64]
    exact ⟨ht,c3 _ ((x2.trans x3).trans x4) (Nat.le_refl _),by rw [take_nextP ht];exact c2⟩
  · have:i=c.P.length:=by omega
    subst this
    rw [List.take_length] at hO
    obtain ⟨y1,y2,y3,y4⟩:=hO.vals
    simp [f1,f2,f3,f13,f14,f15,rdA3,splice,y1,y2,y3,y4]
    exact hK _ _ x2 hO
theorem XC.wr {q k:Nat}{x:Int}(h:XC n H pv sv ps P S)(hq:q<P.length)(hk:k<(P.getD q default).a.length)(hlim:lim≤n) :
    ∃H',(∀L,vstore lim L H (ept 1 (ps.getD q default).2 k) (.int .i64 x) 1=some (L,H'))∧XC n H' pv sv ps (P.set q ⟨(P.getD q default).s,(P.getD q default).a.set k x⟩) S∧∀H0,HX H0 H→H0.length≤n→HX H0 H':=by
  obtain ⟨h1,h2,h3,h4,h5⟩:=h
  have ho:=(h1.at' q hq).2
  have hql:q<ps.length:=by rw [h1.len];exact hq
  have kp:∀{u:V},nal u (ps.getD q default).2→∀b o m z,u=.sl b o m z→(setH H (ps.getD q default).2 (ints ((P.getD q default).a.set k x)))[b]? = H[b]? := by
    intro u hu b o m z e
    cases hv:(ps.getD q default).2 with
    | sl b' o' z' y' =>
      simp only [setH]
      rw [List.getElem?_set_ne]
      rintro rfl
      exact hu _ _ _ _ _ _ _ e hv
    | _=>rfl
  have hnp:nal pv (ps.getD q default).2:=fun b o z y o' z' y' e e'=>h1.ap q hq _ _ _ _ _ _ _ e (Or.inr e')
  refine ⟨setH H (ps.getD q default).2 (ints ((P.getD q default).a.set k x)),fun L=>ho.store ⟨hlim,hk⟩,⟨⟨h1.own.keepB (kp hnp),by simp [h1.len],fun i hi => ?_,fun i hi=>h1.ap i (by simpa using hi)⟩,h2.keepB (kp (h4 q hq).2),h3,fun i hi=>h4 i (by simpa using hi),h5⟩,fun H0 hx hl=>setH_X hx ho hl⟩
  rw [List.length_set] at hi
  rw [getD_setP hq]
  have t:=h1.at' i hi
  refine ⟨?_,?_⟩
  · have:=t.1.keepB (kp (h5 i (by rw [h1.len];exact hi) q hql).1)
    split
    · rename_i e;subst e;exact this
    · exact this
  · split
    · rename_i e;subst e;exact ho.put (by simp)
    · rename_i e
      exact t.2.keepB (kp ((h5 i (by rw [h1.len];exact hi) q hql).2 e).2)
end
end Go.Proofs.Ytclghkegfpcdpaa.Vm
namespace Go.Proofs.Ytclghkegfpcdpaa.Vm
open Go
set_option maxRecDepth 100000
set_option maxHeartbeats 1000000
set_option linter.unusedSimpArgs false
set_option linter.unusedVariables false
attribute [-simp] List.getD_eq_getElem?_getD
section
variable {n lim:Nat}{H H' H1:Hp}{K:V→Hp→Prop}{v pv sv a b u:V}{ps:List (V×V)}{P:List Pc}{S:List Sm}{e:Int}{ws:List V}{c d:Cp}
theorem XC.dart {q j:Nat}{x:Int}(h:XC n H pv sv ps P S)(hq:q<P.length)(hj:j<(P.getD q default).a.length)(hm:(j+1) % ksN P q<(P.getD q default).a.length)(hlim:lim≤n) :
    ∃ H1 H2,(∀L,vstore lim L H (ept 1 (ps.getD q default).2 j) (.int .i64 ((P.getD q default).a.getD j 0-x)) 1=some (L,H1))∧SlV H1 (ps.getD q default).2 ((P.getD q default).a.set j ((P.getD q default).a.getD j 0-x)) ∧
      (∀L,vstore lim L H1 (ept 1 (ps.getD q default).2 ((j+1) % ksN P q)) (.int .i64 (((P.getD q default).a.set j ((P.getD q default).a.getD j 0-x)).getD ((j+1) % ksN P q) 0+x)) 1=some (L,H2))∧XC n H2 pv sv ps (dartP P q j x) S∧(∀H0,HX H0 H→H0.length≤n→HX H0 H2):=by
  obtain ⟨H1,a1,a2,a3⟩:=h.wr (x:=(P.getD q default).a.getD j 0-x) hq hj hlim
  have hq2:q<(P.set q ⟨(P.getD q default).s,(P.getD q default).a.set j ((P.getD q default).a.getD j 0-x)⟩).length:=by simpa using hq
  have e1:(P.set q ⟨(P.getD q default).s,(P.getD q default).a.set j ((P.getD q default).a.getD j 0-x)⟩).getD q default=⟨(P.getD q default).s,(P.getD q default).a.set j ((P.getD q default).a.getD j 0-x)⟩:=by rw [getD_setP hq,if_pos rfl]
  have t:=(a2.p.at' q hq2).2.sl
  obtain ⟨H2,b1,b2,b3⟩:=a2.wr (q:=q) (k:=(j+1) % ksN P q) (x:=((P.getD q default).a.set j ((P.getD q default).a.getD j 0-x)).getD ((j+1) % ksN P q) 0+x) hq2 (by rw [e1];simpa using hm) hlim
  rw [e1] at t b2
  rw [List.set_set] at b2
  exact ⟨H1,H2,a1,t,b1,b2,fun H0 hx hl=>b3 H0 (a3 H0 hx hl) hl⟩
theorem dartE_loc {q j:Nat}{x:Int}(h0:capE c=0)(hq:q<c.P.length)(hj:j<ksN c.P q):dartE c ((offN c.P q+j:Nat):Int) x=if dartB (c.P.getD q default).a j (ksN c.P q) x then 0 else 1:=by
  unfold dartE
  rw [if_neg (fun g=>g h0),if_neg (fun g=>g ⟨by omega,by have:offN c.P q+j<nsN c.P:=off_lt hq hj;omega⟩),Int.toNat_natCast,(at_loc hq hj).1,(at_loc hq hj).2]
theorem dartC_loc {q j:Nat}{x:Int}(hq:q<c.P.length)(hj:j<ksN c.P q):dartC c ((offN c.P q+j:Nat):Int) x=⟨dartP c.P q j x,c.S,c.e⟩:=by
  unfold dartC
  rw [Int.toNat_natCast,(at_loc hq hj).1,(at_loc hq hj).2];rfl
theorem surf_Dart {i x:Int}(i0:I64 i)(i1:I64 x)(hc:CapV H ws c)(hsh:ShortC c)(hlim:lim≤H.length)(hK:∀H' ws',HX H H'→CapV H' ws' (if dartE c i x=0 then dartC c i x else zCap)→K (.tup [.agg ws',.int .i64 (dartE c i x)]) H'):VCall tbl lim 39 [.agg ws,.int .i64 i,.int .i64 x] H K:=by
  obtain ⟨pv,sv,ps,rfl,hp,hs,z1,z2,z3,z4⟩:=hc.form
  have s1:=hsh.np
  have s2:=hsh.ns
  have hz:∀{H'},CapV H' [.snil,.snil,.int .i64 0] zCap:=fun {H'}=>zCapV (m:=0) |>.cap
  refine VCall_fn tbl_at39 rfl ?_
  simp [vf39,z1,z2,z3,z4,rdA3]
  refine surf_Validate hc (by omega) (by omega) fun H1 x1 => ?_
  replace x1:HX H H1:=x1
  have l1:=x1.len
  by_cases h0:capE c=0
  case neg =>
    have e1:dartE c i x=capE c:=by rw [dartE,if_pos h0]
    have:=hK H1 [.snil,.snil,.int .i64 0] x1 (by rw [if_neg (by rw [e1];exact h0)];exact hz)
    rw [e1] at this
    simp [h0,rdA3,splice]
    exact this
  have hok:=capE_ok.1 h0
  have hn48:=hok.ns
  by_cases hneg:i<0
  · have e1:dartE c i x=5:=by rw [dartE,if_neg (fun g=>g h0),if_pos (by omega)]
    have:=hK H1 [.snil,.snil,.int .i64 0] x1 (by rw [if_neg (by rw [e1];omega)];exact hz)
    rw [e1] at this
    have hd:=decide_eq_true hneg
    simp [h0,hd,rdA3,splice]
    exact this
  have hd:=decide_eq_false hneg
  simp [h0,hd,rdA3,z1,z2,z3,z4]
  refine surf_lay (hc.mono x1) hok (by omega) fun H2 lv x2 hlv => ?_
  replace x2:HX H1 H2:=x2
  have l2:=x2.len
  have hll:vlenS lv=some (.int .i64 (nsN c.P)):=by rw [hlv.lst.len,layL_len]
  by_cases hbig:(nsN c.P:Int)≤i
  · have e1:dartE c i x=5:=by rw [dartE,if_neg (fun g=>g h0),if_pos (by omega)]
    have:=hK H2 [.snil,.snil,.int .i64 0] (x1.trans x2) (by rw [if_neg (by rw [e1];omega)];exact hz)
    rw [e1] at this
    have hd:=decide_eq_true hbig
    simp [hll,hd,rdA3,splice]
    exact this
  obtain ⟨q,j,h1,h2,h3⟩:=off_loc (pcs:=c.P) (i:=i.toNat) (p:=c.P.length) (by have:offN c.P c.P.length=nsN c.P:=rfl;omega)
  obtain rfl:i=((offN c.P q+j:Nat):Int):=by omega
  have hd:decide ((nsN c.P:Int)≤(offN c.P q:Int)+(j:Int))=false:=decide_eq_false (by omega)
  simp [hll,hd,rdA3,z1,z2,z3,z4]
  refine surf_cloneX (hc.mono (x1.trans x2)) hsh (by omega) fun H3 ws3 x3 o3 => ?_
  replace x3:HX H2 H3:=x3
  have l3:=x3.len
  obtain ⟨pv3,sv3,ps3,rfl,hX⟩:=o3.parts
  have q1:=hX.p.own.lst.stor
  have q2:=hX.p.own.lst.one
  have q3:=hX.s.lst.stor
  have q4:=hX.s.lst.one
  have hp3:=hX.p.pcsV
  have hE:=dartE_loc (x:=x) h0 h1 h2
  have hC:=dartC_loc (c:=c) (x:=x) h1 h2
  rw [hE,hC] at hK
  clear hE hC
  have hlen:∀t,t<c.P.length→(c.P.getD t default).a.length=ksN c.P t:=fun t ht=>(piece_ok (hok.pc t ht)).2.1
  simp [q1,q2,q3,q4,splice]
  refine wLoop_up q (fun t fr L H'=>(fr 1=.int .i64 ((offN c.P q+j:Nat)-(offN c.P t:Nat):Int)∧fr 2=.int .i64 x∧fr 3=.lp 0 0∧fr 6=.lp 1 0∧fr 9=.lp 2 0∧fr 10=.int .i64 t)∧L=[[pv,sv,.int .i64 c.e],[.snil,.snil,.int .i64 0],[pv3,sv3,.int .i64 c.e]]∧H'=H3) ⟨by simp [offN],by simp,rfl⟩ ?_
  rintro t ht fr L H4 ⟨⟨f1,f2,f3,f6,f9,f10⟩,rfl,rfl⟩
  have htP:t<c.P.length:=by omega
  have hsl:=(hp3.at' t htP).2
  have hvl:vlenS (ps3.getD t default).2=some (.int .i64 (ksN c.P t)):=by rw [hsl.len,hlen t htP]
  simp [f1,f2,f3,f6,f9,f10,rd0,hp3.at htP,hp3.fa htP,hp3.ld1 htP,hvl]
  refine cond_dec (fun hc1 => ?_) fun hc1 => ?_
  · have htq:t<q:=by
      apply Classical.byContradiction
      intro g
      have:t=q:=by omega
      subst this;omega
    have hst:=off_step (pcs:=c.P) (q:=t)
    have hmo:=off_mono (pcs:=c.P) (p:=t+1) (q:=q) (by omega)
    have hlt:offN c.P q+j<nsN c.P:=off_lt h1 h2
    simp (disch:=omega) [f1,f2,f3,f6,f9,f10,rd0,hp3.at htP,hp3.fa htP,hp3.ld1 htP,hvl,wrap_i64]
    exact ⟨htq,by omega⟩
  · have htq:t=q:=by
      apply Classical.byContradiction
      intro g
      have:=off_mono (pcs:=c.P) (p:=t+1) (q:=q) (by omega)
      have hst:=off_step (pcs:=c.P) (q:=t)
      omega
    subst htq
    have hks:=hok.ks h1
    have hlq:=hlen t h1
    obtain ⟨m,hm⟩:∃m,m=(j+1) % ksN c.P t:=⟨_,rfl⟩
    have hmk:m<ksN c.P t:=by rw [hm];exact Nat.mod_lt _ (by omega)
    have hne:(ksN c.P t:Int)≠0:=by omega
    have hrem:vbin .rem (.int .i64 ((j:Int)+1)) (.int .i64 (ksN c.P t))=some (.int .i64 (m:Nat)):=by
      rw [vbin_rem hne,hm]
      have:((j:Int)+1).tmod (ksN c.P t:Int)=(((j+1) % ksN c.P t:Nat):Int):=tmod_nat (j+1) (ksN c.P t)
      rw [this]
    have aj:=hsl.addr (i:=(j:Int)) (by omega)
    have am:=hsl.addr (i:=(m:Int)) (by omega)
    simp only [Int.toNat_natCast] at aj am
    have lj:=fun L=>hsl.load (i:=j) (by omega) (L:=L)
    have lm:=fun L=>hsl.load (i:=m) (by omega) (L:=L)
    have f1:fr 1=.int .i64 (j:Int):=by rw [f1];congr 1;omega
    have pk:=(piece_ok (hok.pc t h1)).2.2.1
    have bj:=(pk j h2).2
    have bm:=(pk m hmk).2
    obtain ⟨H5,H6,w1,w2,w3,w4,w5⟩:=hX.dart (j:=j) (x:=x) (lim:=lim) h1 (by omega) (by omega) (by omega)
    have x6:=w5 H ((x1.trans x2).trans x3) (by omega)
    have hr:=hK H6 [pv3,sv3,.int .i64 c.e]
    rw [←hm] at w3
    have am2:=w2.addr (i:=(m:Int)) (by rw [List.length_set];omega)
    simp only [Int.toNat_natCast] at am2
    have lm2:=fun L=>w2.load (i:=m) (by rw [List.length_set];omega) (L:=L)
    have n1:m≠j:=by rw [hm];exact (next_ne h2 (by omega)).1
    have ea:((c.P.getD t default).a.set j ((c.P.getD t default).a.getD j 0-x)).getD m 0=(c.P.getD t default).a.getD m 0:=by rw [getD_setI (by omega),if_neg n1]
    rw [ea] at w3 lm2
    have hfa:=hp3.fa htP
    have hat:=hp3.at htP
    have hld:=hp3.ld1 htP
    have hfa:vfaddr 1 (ept 2 pv3 t)=some (eptf 2 pv3 t 1):=hfa 1
    have hdb:dartB (c.P.getD t default).a j (ksN c.P t) x=decide (1≤x∧x≤(c.P.getD t default).a.getD j 0-1∧x≤359-(c.P.getD t default).a.getD m 0):=by rw [hm];rfl
    rw [hdb] at hr hK
    generalize (ps3.getD t default).2=pa at *
    generalize (c.P.getD t default).a.getD j 0=vj at *
    generalize (c.P.getD t default).a.getD m 0=vm at *
    have bad:¬(1≤x∧x≤vj-1∧x≤359-vm)→K (.tup [.agg [.snil,.snil,.int .i64 0],.int .i64 1]) H4:=fun g=>by
      have:=hK H4 [.snil,.snil,.int .i64 0] ((x1.trans x2).trans x3)
      rw [decide_eq_false g] at this
      exact this hz
    by_cases g1:x<1
    · have d1:=decide_eq_true g1
      simp (disch:=omega) [f1,f2,f3,f6,f9,f10,rd0,hat,hfa,hld,hvl,wrap_i64,hrem,d1,rdA3,splice]
      exact bad (by omega)
    have d1:=decide_eq_false g1
    by_cases g2:vj-1<x
    · have d2:=decide_eq_true g2
      simp (disch:=omega) [f1,f2,f3,f6,f9,f10,rd0,hat,hfa,hld,hvl,wrap_i64,hrem,d1,aj,lj,d2,rdA3,splice]
      exact bad (by omega)
    have d2:=decide_eq_false g2
    by_cases g3:359-vm<x
    · have d3:=decide_eq_true g3
      simp (disch:=omega) [f1,f2,f3,f6,f9,f10,rd0,hat,hfa,hld,hvl,wrap_i64,hrem,d1,aj,lj,d2,am,lm,d3,rdA3,splice]
      exact bad (by omega)
    have d3:=decide_eq_false g3
    rw [decide_eq_true (show 1≤x∧x≤vj-1∧x≤359-vm by omega)] at hr
    have hr:=hr x6 (XCapV.mk (e:=c.e) w4).cap
    simp (disch:=omega) [f1,f2,f3,f6,f9,f10,rd0,hat,hfa,hld,hvl,wrap_i64,hrem,d1,aj,lj,d2,am,lm,d3,rdA3,splice,w1,lm2,w3,-vstore,lpId_ept]
    simp [f6,rdA3,splice]
    rw [if_pos rfl] at hr
    exact hr
theorem r02_Dart {i x:Int} (i0:I64 i) (i1:I64 x) (hc:CapV H ws c) (hsh:ShortC c) (hlim:lim≤H.length) (hK:∀H' ws',HX H H'→CapV H' ws' (if dartE c i x=0 then dartC c i x else zCap)→K (.tup [.agg ws',.int .i64 (dartE c i x)]) H'):VCall tbl lim 40 [.agg ws,.int .i64 i,.int .i64 x] H K:=by
  obtain ⟨pv,sv,ps,rfl,hp,hs,z1,z2,z3,z4⟩:=hc.form
  have s1:=hsh.np
  have s2:=hsh.ns
  have i64:=i0
  unfold I64 at i64
  have hz:∀{H'},CapV H' [.snil,.snil,.int .i64 0] zCap:=fun {H'}=>zCapV (m:=0) |>.cap
  refine VCall_fn tbl_at40 rfl ?_
  simp [vf40,z1,z2,z3,z4,rdA3]
  refine r02_Validate hc ⟨by omega,by omega,fun q hq=>by have:=hsh.pc q hq;omega⟩ ?_
  by_cases h0:capE c=0
  case neg =>
    have e1:dartE c i x=capE c:=by rw [dartE,if_pos h0]
    have:=hK H [.snil,.snil,.int .i64 0] HX.refl (by rw [if_neg (by rw [e1];exact h0)];exact hz)
    rw [e1] at this
    simp [h0,rdA3,splice]
    exact this
  have hok:=capE_ok.1 h0
  have hn48:=hok.ns
  have hlen:∀t,t<c.P.length→(c.P.getD t default).a.length=ksN c.P t:=fun t ht=>(piece_ok (hok.pc t ht)).2.1
  simp [h0,rdA3,z1,z2,z3,z4]
  refine r02_CopyX hc hsh hlim fun H3 ws3 x3 o3 => ?_
  replace x3:HX H H3:=x3
  have l3:=x3.len
  obtain ⟨pv3,sv3,ps3,rfl,hX⟩:=o3.parts
  have q1:=hX.p.own.lst.stor
  have q2:=hX.p.own.lst.one
  have q3:=hX.s.lst.stor
  have q4:=hX.s.lst.one
  have hp3:=hX.p.pcsV
  have hpp:=hp.mono x3
  have out:¬(0≤i∧i<nsN c.P)→K (.tup [.agg [.snil,.snil,.int .i64 0],.int .i64 5]) H3:=fun g=>by
    have e1:dartE c i x=5:=by rw [dartE,if_neg (fun g=>g h0),if_pos g]
    have:=hK H3 [.snil,.snil,.int .i64 0] x3 (by rw [if_neg (by rw [e1];omega)];exact hz)
    rw [e1] at this
    exact this
  simp [q1,q2,q3,q4,splice]
  refine wLoop_up c.P.length (fun t fr L H'=>(fr 10=.int .i64 (i-(offN c.P t:Nat):Int)∧fr 2=.int .i64 x∧fr 3=.lp 0 0∧fr 6=.lp 1 0∧fr 9=.lp 2 0∧fr 11=.int .i64 t)∧L=[[pv,sv,.int .i64 c.e],[.snil,.snil,.int .i64 0],[pv3,sv3,.int .i64 c.e]]∧H'=H3∧(t=0∨(offN c.P t:Int)≤i)) ⟨by simp [offN],by simp,rfl,Or.inl rfl⟩ ?_
  rintro t ht fr L H4 ⟨⟨f10,f2,f3,f6,f9,f11⟩,rfl,rfl,hti⟩
  simp [f2,f3,f6,f9,f10,f11,rd0,hp.vlen]
  refine cond_dec (fun htP => ?_) fun htP => ?_
  · have h1:t<c.P.length:=by omega
    have hks:=hok.ks h1
    have hsl:=(hp3.at' t h1).2
    have hvl:vlenS (ps.getD t default).1=some (.int .i64 (ksN c.P t)):=(hpp.at' t h1).1.len
    have hlq:=hlen t h1
    have hat:=hpp.at h1
    have hld:=hpp.ld0 h1
    have hfa:vfaddr 0 (ept 2 pv t)=some (eptf 2 pv t 0):=hpp.fa h1 0
    have hst:=off_step (pcs:=c.P) (q:=t)
    have hmo:offN c.P (t+1)≤nsN c.P:=off_mono (by omega)
    by_cases hneg:i-(offN c.P t:Int)<0
    · have d1:=decide_eq_true hneg
      have d2:decide (0≤i-(offN c.P t:Int))=false:=decide_eq_false (by omega)
      have hs0:(offN c.P t:Int)≤i∨offN c.P t=0:=by
        rcases hti with g | g
        · subst g;exact Or.inr rfl
        · exact Or.inl g
      simp [f2,f3,f6,f9,f10,f11,rd0,hat,hfa,hld,hvl,d1,d2,rdA3,splice,-Int.sub_nonneg]
      exact out (by omega)
    · have hge:(offN c.P t:Int)≤i:=by omega
      have d1:=decide_eq_false hneg
      have d2:decide (0≤i-(offN c.P t:Int))=true:=decide_eq_true (by omega)
      by_cases hin:i-(offN c.P t:Int)<ksN c.P t
      case neg =>
        have d3:=decide_eq_false hin
        simp (disch:=omega) [f2,f3,f6,f9,f10,f11,rd0,hat,hfa,hld,hvl,d1,d2,d3,wrap_i64,-Int.sub_nonneg]
        refine ⟨h1,by omega,by omega⟩
      case pos =>
        have d3:=decide_eq_true hin
        obtain ⟨j,hj⟩:∃j:Nat,i=((offN c.P t+j:Nat):Int):=⟨(i-(offN c.P t:Int)).toNat,by omega⟩
        subst hj
        have h2:j<ksN c.P t:=by omega
        have hE:=dartE_loc (x:=x) h0 h1 h2
        have hC:=dartC_loc (c:=c) (x:=x) h1 h2
        rw [hE,hC] at hK
        have f10:fr 10=.int .i64 (j:Int):=by rw [f10];congr 1;omega
        have d2:decide (0≤(j:Int))=true:=decide_eq_true (by omega)
        have d3:decide (j<ksN c.P t)=true:=decide_eq_true h2
        obtain ⟨m,hm⟩:∃m,m=(j+1) % ksN c.P t:=⟨_,rfl⟩
        have hmk:m<ksN c.P t:=by rw [hm];exact Nat.mod_lt _ (by omega)
        have hne:(ksN c.P t:Int)≠0:=by omega
        have hrem:vbin .rem (.int .i64 ((j:Int)+1)) (.int .i64 (ksN c.P t))=some (.int .i64 (m:Nat)):=by
          rw [vbin_rem hne,hm]
          have:((j:Int)+1).tmod (ksN c.P t:Int)=(((j+1) % ksN c.P t:Nat):Int):=tmod_nat (j+1) (ksN c.P t)
          rw [this]
        have aj:=hsl.addr (i:=(j:Int)) (by omega)
        have am:=hsl.addr (i:=(m:Int)) (by omega)
        simp only [Int.toNat_natCast] at aj am
        have lj:=fun L=>hsl.load (i:=j) (by omega) (L:=L)
        have lm:=fun L=>hsl.load (i:=m) (by omega) (L:=L)
        have pk:=(piece_ok (hok.pc t h1)).2.2.1
        have bj:=(pk j h2).2
        have bm:=(pk m hmk).2
        obtain ⟨H5,H6,w1,w2,w3,w4,w5⟩:=hX.dart (j:=j) (x:=x) (lim:=lim) h1 (by omega) (by omega) (by omega)
        have x6:=w5 H x3 (by omega)
        have hr:=hK H6 [pv3,sv3,.int .i64 c.e]
        rw [←hm] at w3
        have am2:=w2.addr (i:=(m:Int)) (by rw [List.length_set];omega)
        simp only [Int.toNat_natCast] at am2
        have lm2:=fun L=>w2.load (i:=m) (by rw [List.length_set];omega) (L:=L)
        have n1:m≠j:=by rw [hm];exact (next_ne h2 (by omega)).1
        have ea:((c.P.getD t default).a.set j ((c.P.getD t default).a.getD j 0-x)).getD m 0=(c.P.getD t default).a.getD m 0:=by rw [getD_setI (by omega),if_neg n1]
        rw [ea] at w3 lm2
        have hat3:=hp3.at h1
        have hld3:=hp3.ld1 h1
        have hfa3:vfaddr 1 (ept 2 pv3 t)=some (eptf 2 pv3 t 1):=hp3.fa h1 1
        have hdb:dartB (c.P.getD t default).a j (ksN c.P t) x=decide (1≤x∧x≤(c.P.getD t default).a.getD j 0-1∧x≤359-(c.P.getD t default).a.getD m 0):=by rw [hm];rfl
        rw [hdb] at hr hK
        generalize (ps3.getD t default).2=pa at *
        generalize (ps.getD t default).1=pb at *
        generalize (c.P.getD t default).a.getD j 0=vj at *
        generalize (c.P.getD t default).a.getD m 0=vm at *
        have bad:¬(1≤x∧x≤vj-1∧x≤359-vm)→K (.tup [.agg [.snil,.snil,.int .i64 0],.int .i64 1]) H4:=fun g=>by
          have:=hK H4 [.snil,.snil,.int .i64 0] x3
          rw [decide_eq_false g] at this
          exact this hz
        by_cases g1:x<1
        · have e1:=decide_eq_true g1
          simp (disch:=omega) [f2,f3,f6,f9,f10,f11,rd0,hat,hfa,hld,hvl,d2,d3,hat3,hfa3,hld3,wrap_i64,hrem,e1,rdA3,splice]
          exact bad (by omega)
        have e1:=decide_eq_false g1
        by_cases g2:358<x
        · have e2:=decide_eq_true g2
          simp (disch:=omega) [f2,f3,f6,f9,f10,f11,rd0,hat,hfa,hld,hvl,d2,d3,hat3,hfa3,hld3,wrap_i64,hrem,e1,e2,rdA3,splice]
          exact bad (by omega)
        have e2:=decide_eq_false g2
        by_cases g3:vj-x<1
        · have e3:=decide_eq_true g3
          simp (disch:=omega) [f2,f3,f6,f9,f10,f11,rd0,hat,hfa,hld,hvl,d2,d3,hat3,hfa3,hld3,wrap_i64,hrem,e1,e2,aj,lj,e3,rdA3,splice]
          exact bad (by omega)
        have e3:=decide_eq_false g3
        by_cases g4:359<vm+x
        · have e4:=decide_eq_true g4
          simp (disch:=omega) [f2,f3,f6,f9,f10,f11,rd0,hat,hfa,hld,hvl,d2,d3,hat3,hfa3,hld3,wrap_i64,hrem,e1,e2,aj,lj,e3,am,lm,e4,rdA3,splice]
          exact bad (by omega)
        have e4:=decide_eq_false g4
        rw [decide_eq_true (show 1≤x∧x≤vj-1∧x≤359-vm by omega)] at hr
        have hr:=hr x6 (XCapV.mk (e:=c.e) w4).cap
        rw [if_pos rfl] at hr
        simp (disch:=omega) [f2,f3,f6,f9,f10,f11,rd0,hat,hfa,hld,hvl,d2,d3,hat3,hfa3,hld3,wrap_i64,hrem,e1,e2,aj,lj,e3,am,lm,e4,rdA3,splice,w1,lm2,w3,-vstore,lpId_ept]
        simp [f6,rdA3,splice]
        exact hr
  · have:t=c.P.length:=by omega
    subst this
    have hP:=hok.np
    simp [f2,f3,f6,f9,f10,f11,rdA3,splice]
    exact out (by have:offN c.P c.P.length=nsN c.P:=rfl;omega)
theorem veqA_5r {a b c d e:Int}:veqA false [.int .i64,.int .i64,.int .i64,.int .i64,.int .i64] (.agg [.int .i64 a,.int .i64 b,.int .i64 c,.int .i64 d,.int .i64 e]) (.agg [.int .i64 a,.int .i64 b,.int .i64 c,.int .i64 d,.int .i64 e])=some (.bool true):=by
  have h:veqA false [.int .i64,.int .i64,.int .i64,.int .i64,.int .i64] (.agg [.int .i64 a,.int .i64 b,.int .i64 c,.int .i64 d,.int .i64 e]) (.agg [.int .i64 a,.int .i64 b,.int .i64 c,.int .i64 d,.int .i64 e])=some (.bool ((a==a)&&((b==b)&&((c==c)&&((d==d)&&((e==e)&&true)))))):=Eq.trans rfl rfl
  rw [h];simp
theorem dart_bounds {i x:Int}(h:dartE c i x=0):(dartC c i x).S=c.S∧measL (dartC c i x)=measL c∧hairP (dartC c i x)=hairP c∧capE c=0∧capE (dartC c i x)=0:=by
  obtain ⟨h1,h2,h3,h4⟩:=dart_keeps h
  have e1:=capE_ok.2 h1
  have e2:=capE_ok.2 h2
  refine ⟨by rw [h4];rfl,?_,by rw [h4];exact h3.hair,e1,e2⟩
  rw [measL,if_pos e2,measL,if_pos e1]
  rw [h4] at h2 ⊢
  rw [h3.part,h3.euler,h3.miss h1 h2,h3.hand]
theorem law_CapDarts {i x:Int}(ha:CapA H ws c)(hlim:lim≤H.length)(i0:I64 i)(i1:I64 x)(hK:∀H',K (.bool true) H'):VCall tbl lim 10 [.agg ws,.int .i64 i,.int .i64 x] H K:=by
  have hc:=ha.cap
  obtain ⟨pv,sv,ps,rfl,hp,hs,z1,z2,z3,z4⟩:=hc.form
  refine VCall_fn tbl_at10 rfl ?_
  simp [vf10,z1,z2,z3,z4,rdA3]
  refine l02_Long hc ?_
  cases hl:longB c with
  | true =>
    simp
    refine cp_known hlim fun H' _ => ?_
    simp
    exact hK _
  | false =>
  have hsh:=short_of hl
  have s2:=hsh.ns
  have s1:=hsh.np
  simp [rdA3,z1,z2,z3,z4]
  refine r02_Copy hc hsh hlim fun H1 ws1 x1 o1 => ?_
  replace x1:HX H H1:=x1
  have l1:=x1.len
  obtain ⟨pv1,sv1,ps1,rfl,hp1,hs1,q1,q2,q3,q4⟩:=o1.cap.form
  simp [rdA3,q1,q2,q3,q4,splice]
  refine surf_Dart i0 i1 o1.cap hsh (by omega) fun H2 ws2 x2 o2 => ?_
  replace x2:HX H1 H2:=x2
  have l2:=x2.len
  obtain ⟨A,hA⟩:∃A,A=(if dartE c i x=0 then dartC c i x else zCap):=⟨_,rfl⟩
  rw [←hA] at o2
  obtain ⟨pv2,sv2,ps2,rfl,hp2,hs2,y1,y2,y3,y4⟩:=o2.form
  simp [rdA3,z1,z2,z3,z4,y1,y2,y3,y4,splice]
  refine r02_Dart i0 i1 (hc.mono (x1.trans x2)) hsh (by omega) fun H3 ws3 x3 o3 => ?_
  replace x3:HX H2 H3:=x3
  have l3:=x3.len
  rw [←hA] at o3
  obtain ⟨pv3,sv3,ps3,rfl,hp3,hs3,t1,t2,t3,t4⟩:=o3.form
  have bA:A.P.length≤1000000∧A.S.length≤1000000∧∀q,q<A.P.length→(A.P.getD q default).s.length≤1000000∧(A.P.getD q default).a.length≤1000000:=by
    rw [hA]
    split
    · rename_i h0
      obtain ⟨g1,g2,g3,g4⟩:=dart_keeps h0
      have g5:=g2.np
      refine ⟨by omega,by rw [(dart_bounds h0).1];omega,fun q hq => ?_⟩
      obtain ⟨k1,k2,_,_⟩:=piece_ok (g2.pc q hq)
      omega
    · exact ⟨by simp [zCap],by simp [zCap],fun q hq=>by simp [zCap] at hq⟩
  simp [rdA3,y1,y2,y3,y4,t1,t2,t3,t4,splice]
  refine r02_Same (c:=A) (d:=A) (o2.mono x3) o3 (Or.inr bA) ?_
  simp [same_refl,rdA3,q1,q3,z1,z3]
  refine r02_Same (c:=c) (d:=c) (o1.cap.mono (x2.trans x3)) (hc.mono ((x1.trans x2).trans x3)) (Or.inl hsh) ?_
  simp [same_refl]
  by_cases he:dartE c i x=0
  case neg =>
    simp [he]
    refine cp_known (by omega) fun H8 _ => ?_
    simp
    exact hK _
  rw [if_pos he] at hA
  obtain ⟨b1,b2,b3,b4,b5⟩:=dart_bounds he
  have hSA:A.S.length≤1000000:=bA.2.1
  rw [←hA] at b1 b2 b3 b5
  have hok:=capE_ok.1 b4
  simp [he,rdA3,z1,z2,z3,z4]
  refine surf_Hairline (hc.mono ((x1.trans x2).trans x3)) (by omega) (by omega) fun H4 v4 x4 o4 _ => ?_
  replace x4:HX H3 H4:=x4
  have l4:=x4.len
  replace o4:=o4 b4
  rw [b4]
  simp [rdA3,y1,y2,y3,y4]
  refine surf_Hairline (o2.mono (x3.trans x4)) hSA (by omega) fun H5 v5 x5 o5 _ => ?_
  replace x5:HX H4 H5:=x5
  have l5:=x5.len
  replace o5:=o5 b5
  rw [b3] at o5
  rw [b5]
  simp [rdA3,y1,y2,y3,y4]
  refine l02_measure (o2.mono ((x3.trans x4).trans x5)) hSA (by omega) fun H6 x6 => ?_
  replace x6:HX H5 H6:=x6
  have l6:=x6.len
  rw [b2]
  simp [rdA3,z1,z2,z3,z4]
  refine l02_measure (hc.mono ((((x1.trans x2).trans x3).trans x4).trans (x5.trans x6))) (by omega) (by omega) fun H7 x7 => ?_
  replace x7:HX H6 H7:=x7
  have l7:=x7.len
  have m1:measL c=[.int .i64 (partP c),.int .i64 (eulP c),.int .i64 (missP c),.int .i64 (handP c),.int .i64 0]:=by rw [measL,if_pos b4]
  rw [m1]
  simp [veqA_5r,o4.sl.stor,o5.sl.stor]
  refine ref01_SameInts (o4.sl.mono ((x5.trans x6).trans x7)) (o5.sl.mono (x6.trans x7)) ?_ ?_
  · have e1:(hairP c).length=(loopP c).length:=by simp [hairP]
    have e2:=loop_le (c:=c)
    have e3:=hok.ns
    omega
  simp
  refine cp_known (by omega) fun H8 _ => ?_
  simp
  exact hK _
end
end Go.Proofs.Ytclghkegfpcdpaa.Vm
