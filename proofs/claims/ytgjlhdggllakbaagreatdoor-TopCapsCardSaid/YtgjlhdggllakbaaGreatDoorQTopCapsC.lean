/- Points over the machine: all points of a layout. -/
import Derived.Test.YtgjlhdggllakbaaGreatDoorQTopCapsB
import Derived.Test.YtgjlhdggllakbaaGreatDoorQTopCapsA
import Derived.Lib.SplitLaws
import Derived.Lib.AtoiTie
import Derived.Lib.AtoiAllCases
import Derived.Lib.ItoaMem
import Derived.Lib.IndexBytes
import Derived.Lib.IndexMore
set_option linter.unusedVariables false
set_option linter.unusedSimpArgs false
set_option linter.unusedSectionVars false
namespace Go.Proofs.YtgjlhdggllakbaaGreatDoor.Vm
open Go
set_option maxRecDepth 100000
set_option maxHeartbeats 1000000
attribute [-simp] List.getD_eq_getElem?_getD
section
variable {c:Cp}{k s:Nat}
theorem Qr (hok:CapOk c)(hk:k<nsN c.P):alf (lsN c) (bfN c.P k)=bfN c.P k↔iW (nsN c.P) (nxN c.P) (lsN c) k:=by
 obtain ⟨b1,b2⟩:=P0 hk
 have hsm:=hok.sm_ok
 constructor
 ·intro h x hx e
  have e1:alf (lsN c) x=bfN c.P k:=qV.inj _ _ (hsm.pr.lt x hx) b2 (by rw [b1];exact e)
  have e2:=hsm.inv hx
  rw [e1,h] at e2
  rw [e1];exact e2
 ·intro h
  have hx:=hsm.pr.lt _ b2
  have:=h (alf (lsN c) (bfN c.P k)) hx (by
   show nxN c.P (alf (lsN c) (alf (lsN c) (bfN c.P k)))=k
   rw [hsm.inv b2,b1])
  rw [hsm.inv b2] at this
  exact this.symm
open Classical in
noncomputable def dh (c:Cp)(a b:Nat):List Nat:=((List.range a).filter fun k=>decide (iW (nsN c.P) (nxN c.P) (lsN c) k))++((List.range b).filter fun k=>decide (LeE (PtR c) k/\dX (nsN c.P) (nxN c.P) (lsN c) k))
theorem lU {a b r:Nat}:r∈dh c a b↔(r<a/\iW (nsN c.P) (nxN c.P) (lsN c) r)\/(r<b/\LeE (PtR c) r/\dX (nsN c.P) (nxN c.P) (lsN c) r):=by simp [dh]
theorem KC:dh c (nsN c.P) (nsN c.P)=pf (nsN c.P) (nxN c.P) (lsN c)++dn (nsN c.P) (nxN c.P) (lsN c):=by
 unfold dh pf dn cB
 rw [List.filter_filter]
 congr 1
 refine List.filter_congr fun k _ => ?_
 rw [Bool.eq_iff_iff]
 simp only [decide_eq_true_eq,Bool.and_eq_true]
 exact ⟨fun h=>⟨h.2,h.1⟩,fun h=>⟨h.2,h.1⟩⟩
theorem sQ {a:Nat}(h:iW (nsN c.P) (nxN c.P) (lsN c) a):dh c (a+1) 0=dh c a 0++[a]:=by
 unfold dh
 rw [List.range_succ,List.filter_append]
 simp [h]
theorem EA {a:Nat}(h:¬iW (nsN c.P) (nxN c.P) (lsN c) a):dh c (a+1) 0=dh c a 0:=by
 unfold dh
 rw [List.range_succ,List.filter_append]
 simp [h]
theorem tt {a b:Nat}(h:LeE (PtR c) b/\dX (nsN c.P) (nxN c.P) (lsN c) b):dh c a (b+1)=dh c a b++[b]:=by
 unfold dh
 rw [List.range_succ,List.filter_append,List.append_assoc]
 simp [h]
theorem Ft {a b:Nat}(h:¬(LeE (PtR c) b/\dX (nsN c.P) (nxN c.P) (lsN c) b)):dh c a (b+1)=dh c a b:=by
 unfold dh
 rw [List.range_succ,List.filter_append]
 simp [h]
theorem pF {r:Nat}(hok:CapOk c){j:Int}:j∈csP c r↔∃d:Nat,j=d/\d<nsN c.P/\PtR c r d:=by
 simp only [csP,jV,List.mem_map,eE]
 exact ⟨fun ⟨d,h,e⟩=>⟨d,e.symm,h.1,h.2⟩,fun ⟨d,e,h1,h2⟩=>⟨d,⟨h1,h2⟩,e.symm⟩⟩
theorem HM (hok:CapOk c) (hk:k<nsN c.P):(∃r,r∈dh c (nsN c.P) k∧(k:Int)∈csP c r)↔¬(LeE (PtR c) k∧dX (nsN c.P) (nxN c.P) (lsN c) k):=by
 have hE:=hok.ptE
 have hnu:=hok.nu
 constructor
 ·rintro ⟨r,hr,hm⟩ ⟨h1,h2⟩
  obtain ⟨d,e,hd,hrd⟩:=(pF hok).1 hm
  have:k=d:=by omega
  subst this
  rcases lU.1 hr with ⟨r1,r2⟩ | ⟨r1,r2,r3⟩
  ·exact qa hnu r1 r2 ((dX.iff hnu hrd).2 h2)
  ·exact h1 r r1 (hE.sy hrd)
 ·intro h
  apply Classical.byContradiction
  intro hn
  refine h ⟨fun d hd he => ?_,?_⟩
  ·obtain ⟨a1,a2,a3⟩:=bn hE d
   by_cases hi:dX (nsN c.P) (nxN c.P) (lsN c) k
   ·exact hn ⟨fW (PtR c) d,lU.2 (Or.inr ⟨by omega,a3,(dX.iff hnu (hE.tr he a2)).1 hi⟩),(pF hok).2 ⟨k,rfl,hk,hE.sy (hE.tr he a2)⟩⟩
   ·obtain ⟨s,s1,s2,s3⟩:=AG hnu hk hi
    exact hn ⟨s,lU.2 (Or.inl ⟨s1,s2⟩),(pF hok).2 ⟨k,rfl,hk,hE.sy s3⟩⟩
  ·apply Classical.byContradiction
   intro hi
   obtain ⟨s,s1,s2,s3⟩:=AG hnu hk hi
   exact hn ⟨s,lU.2 (Or.inl ⟨s1,s2⟩),(pF hok).2 ⟨k,rfl,hk,hE.sy s3⟩⟩
theorem sV (hok:CapOk c){r:Nat}(hr:r<nsN c.P):(csP c r).getD 0 0=(fW (PtR c) r:Nat)/\0<(csP c r).length:=by
 obtain ⟨a1,a2,a3⟩:=bn hok.ptE r
 obtain ⟨m1,m2⟩:=ED hok (k:=fW (PtR c) r) (cn.2 ⟨by omega,a3⟩)
 rw [←ro hok.ptE a2] at m1 m2
 refine ⟨?_,by rw [csP,IB];exact m2⟩
 simp only [csP,jV,List.getD_eq_getElem?_getD,List.getElem?_map] at m1 ⊢
 rw [List.getElem?_eq_getElem m2] at m1 ⊢
 simp only [Option.getD_some,Option.map_some] at m1 ⊢
 rw [m1]
theorem Cr (hok:CapOk c){a b:Nat}(h:PtR c a b):csP c a=csP c b/\ly c a=ly c b/\gN c a=gN c b:=by
 have e:=ro (N:=nsN c.P) hok.ptE h
 refine ⟨by rw [csP,e];rfl,by rw [ly,e];rfl,?_⟩
 simp only [gN,decide_eq_decide]
 exact dX.iff hok.nu h
end
structure PtsC (c:Cp)(R:List Nat)(pts:List Pnt)(cl:List (List Int)):Prop where
 len:pts.length=R.length
 lc:cl.length=R.length
 at':∀i,i<R.length->cl.getD i []=csP c (R.getD i 0)/\∃v,pts.getD i default=Kx c (R.getD i 0) (gN c (R.getD i 0)) v
theorem PtsC.snoc {c:Cp}{R:List Nat}{pts:List Pnt}{cl:List (List Int)}{r:Nat}{v:V}{b:Bool}(h:PtsC c R pts cl)(hb:b=gN c r):PtsC c (R++[r]) (pts++[Kx c r b v]) (cl++[csP c r]) where
 len:=by simp [h.len]
 lc:=by simp [h.lc]
 at' := fun i hi=>by
  rw [List.length_append,List.length_singleton] at hi
  by_cases hlt:i<R.length
  ·rw [bL hlt,bL (l:=pts) (by rw [h.len];exact hlt),bL (l:=cl) (by rw [h.lc];exact hlt)];exact h.at' i hlt
  ·have:i=R.length:=by omega
   subst this
   rw [bO rfl,bO h.len.symm,bO h.lc.symm]
   exact ⟨rfl,v,by rw [hb]⟩
structure PtlV (n:Nat)(H:Hp)(v:V)(q:List Ptt):Prop where
 ex:∃pts,OwnT n Gj H v pts/\pts.length=q.length/\∀i,i<q.length->(pts.getD i default).i=(q.getD i default).inn/\(pts.getD i default).a=(q.getD i default).ang/\(pts.getD i default).d=(q.getD i default).df/\OwnV n H (pts.getD i default).v (jV (q.getD i default).cs)
def cfP (x y:Pnt):Int:=x.k-y.k
theorem MA:Ordr cfP:=⟨fun x y z h1 h2=>by simp only [leC,cfP] at *;omega,fun x y=>by simp only [leC,cfP];omega⟩
section
variable {n0 lim:Nat}{H H0 Hc H':Hp}{K:V->Hp->Prop}{lv u v:V}{M:List (Int×Bool)}{pts:List Pnt}{cl:List (List Int)}{c:Cp}{s:Nat}
theorem PtsC.elem (hok:CapOk c){R:List Nat}(hR:∀r,r∈R->r<nsN c.P)(h:PtsC c R pts cl){i:Nat}(hi:i<R.length):(pts.getD i default).k=(fW (PtR c) (R.getD i 0):Nat)/\R.getD i 0<nsN c.P/\(pts.getD i default).i=gN c (R.getD i 0)/\(pts.getD i default).a=ly c (R.getD i 0)/\(pts.getD i default).d=(if gN c (R.getD i 0) then 360 else 180)-ly c (R.getD i 0):=by
 obtain ⟨_,v,e⟩:=h.at' i hi
 have hr:R.getD i 0<nsN c.P:=hR _ (by
  rw [List.getD_eq_getElem?_getD,List.getElem?_eq_getElem hi];exact List.getElem_mem hi)
 rw [e]
 exact ⟨(sV hok hr).1,hr,rfl,rfl,rfl⟩
theorem CM (hok:CapOk c){R:List Nat}(hR:Reps (PtR c) (nsN c.P) R)(h:PtsC c R pts cl){l:List Pnt}(hp:l.Perm pts)(hs:br cfP 0 l.length l):l.map (fun e=>e.k.toNat)=cB (PtR c) (nsN c.P):=by
 have hk:pts.map (fun e=>e.k.toNat)=R.map (fW (PtR c)):=by
  apply List.ext_getElem (by simp [h.len])
  intro i h1 h2
  have hi:i<R.length:=by simpa using h2
  have:=(h.elem hok hR.lt hi).1
  simp only [List.getD_eq_getElem?_getD,List.getElem?_eq_getElem (show i<pts.length by rw [h.len];exact hi),List.getElem?_eq_getElem hi,Option.getD_some] at this
  simp [this]
 have hperm:(l.map fun e=>e.k.toNat).Perm (cB (PtR c) (nsN c.P)):=by
  have:=hp.map fun e:Pnt=>e.k.toNat
  rw [hk] at this
  exact this.trans (hR.perm hok.ptE)
 have hnn:∀e,e∈l->0<=e.k:=by
  intro e he
  have he:=hp.mem_iff.1 he
  obtain ⟨i,hi,rfl⟩:=List.getElem_of_mem he
  have:=(h.elem hok hR.lt (i:=i) (by rw [←h.len];exact hi)).1
  rw [List.getD_eq_getElem?_getD,List.getElem?_eq_getElem hi,Option.getD_some] at this
  omega
 refine rz (key:=fun n:Nat=>(n:Int)) hperm ?_ (zU.imp fun h=>by omega)
 have hnd:(l.map fun e=>e.k.toNat).Nodup:=hperm.nodup_iff.2 dj
 have hle:(l.map fun e=>e.k.toNat).Pairwise fun a b=>a<=b:=by
  rw [List.pairwise_map,List.pairwise_iff_getElem]
  intro i j hi hj hij
  have h1:=hs i j (Nat.zero_le _) hij hj
  have h2:=hnn _ (List.getElem_mem hi)
  have h3:=hnn _ (List.getElem_mem hj)
  simp only [leC,cfP,List.getD_eq_getElem?_getD,List.getElem?_eq_getElem hi,List.getElem?_eq_getElem hj,Option.getD_some] at h1
  omega
 have:(l.map fun e=>e.k.toNat).Pairwise fun a b=>a<=b/\a≠b:=by
  rw [List.pairwise_and_iff];exact ⟨hle,hnd⟩
 exact this.imp fun h=>by omega
theorem Hq {x y:Pnt}{l m:List Int}(h1:SlV H' x.v l)(h2:SlV H' y.v m)(k1:0<l.length/\l.getD 0 0=x.k/\0<=x.k/\x.k<=1000)(k2:0<m.length/\m.getD 0 0=y.k/\0<=y.k/\y.k<=1000)(hK:K (.int .i64 (cfP x y)) H'):aF tbl lim 59 [eV x,eV y] H' K:=by
 refine ao tbl_at59 rfl ?_
 have a1:=h1.addr (i:=0) (by omega)
 have a2:=h2.addr (i:=0) (by omega)
 have b1:=fun L=>h1.load (i:=0) (by omega) (L:=L)
 have b2:=fun L=>h2.load (i:=0) (by omega) (L:=L)
 rw [k1.2.1] at b1
 rw [k2.2.1] at b2
 have a1':aQ 1 x.v (.int .i64 0)=some (ept 1 x.v 0):=a1
 have a2':aQ 1 y.v (.int .i64 0)=some (ept 1 y.v 0):=a2
 have w:IntKind.wrap .i64 (x.k-y.k)=x.k-y.k:=ae (by omega) (by omega)
 simp [vf59,eV,Pnt.cells,rd0,h1.stor,h1.one,h2.stor,h2.one,a1',a2',b1,b2,w]
 exact hK
theorem OwnT.row_of {α:Type}{k m:Nat}{c:Cod α k}{l:List α}(h:OwnT m c H v l)(hne:0<l.length):∃b,v=.sl b 0 l.length k/\m<=b/\H[b]? = some (.row (c.all l) true):=by
 cases h with
 | nil=>simp at hne
 | row h1 h2=>exact ⟨_,rfl,h1,h2⟩
theorem Bi {α:Type}[Inhabited α]{l:List α}{x:α}(h:x∈l):∃i,i<l.length/\x=l.getD i default:=by
 obtain ⟨i,hi,rfl⟩:=List.getElem_of_mem h
 exact ⟨i,hi,by rw [List.getD_eq_getElem?_getD,List.getElem?_eq_getElem hi];rfl⟩
theorem ph (hok:CapOk c) (hlim:lim≤H.length) (hlv:LstV sdC H lv (fi c.P (lsN c))) (hK:∀H' v,HX H H'→PtlV H.length H' v (cI c)→K v H') :
 aF tbl lim 35 [lv] H K:=by
 refine ao tbl_at35 rfl ?_
 have hns:=hok.ns
 have hll:=cx (P:=c.P) (L:=lsN c)
 have hl0:bD lv=some (.int .i64 (nsN c.P)):=by rw [hlv.len,hll]
 have s1:bW lim (H++[Blk.row [lv] true,Blk.map [],Blk.row [V.mnil] true]) (H.length+2) 0 [.mp (H.length+1)]=some (H++[.row [lv] true,.map [],.row [.mp (H.length+1)] true]):=by
  have:lim<=H.length+2:=by omega
  simp [bW,this,al]
 simp [vf35,hlv.stor,hlv.one,al,s1,rd0,hl0]
 have hx0:∀{H'':Hp} {M u pts cl},PtsS H.length H lv M u pts cl H''->∀L,aW none L H'' (.ptr H.length 0)=some lv:=fun h L=>by rw [bX h.b0];rfl
 refine aO (nsN c.P) (fun i fr L H'=>∃M u pts cl,(fr 1=.ptr H.length 0/\fr 3=.ptr (H.length+2) 0/\fr 4=.ptr (H.length+3) 0/\fr 5=.func (.func 55) [] [.ptr H.length 0,.ptr (H.length+2) 0,.ptr (H.length+3) 0]/\fr 11=.int .i64 (nsN c.P)/\fr 12=.int .i64 i)/\L=[]/\PtsS H.length H lv M u pts cl H'/\PtsC c (dh c i 0) pts cl/\∀k,(look k M).getD false=true↔∃r,r∈dh c i 0/\k∈csP c r) ⟨[],.snil,[],[],by simp,rfl,⟨⟨_,rfl⟩,rfl,by simp,by simp;rfl,by simp,by simp,.nil,rfl,fun i hi=>by simp at hi,fun i hi=>by simp at hi⟩,⟨by simp [dh],by simp [dh],fun i hi=>by simp [dh] at hi⟩,fun k=>by simp [qg,dh]⟩ ?_
 rintro i hi fr L H1 ⟨M,u,pts,cl,⟨f1,f3,f4,f5,f11,f12⟩,rfl,hS,hC,hM⟩
 simp [f1,f3,f4,f5,f11,f12]
 refine aC (fun ht => ?_) fun hfl => ?_
 ·have ht:i<nsN c.P:=by omega
  have hxl:=hlv.mono hS.hx
  obtain ⟨n1,n2⟩:=P0 ht
  have ad:=hxl.at (i:=i) (by rw [hll];exact ht)
  have fa:ct 3 (ept 5 lv i)=some (dB 5 lv i 3):=hxl.faddr (by rw [hll];exact ht)
  have ld:∀L,aW none L H1 (dB 5 lv i 3)=some (.int .i64 (bfN c.P i:Nat)):=fun L=>by
   rw [hxl.rd1 (by rw [hll];exact ht) (by omega),cC ht];rfl
  have ad2:=hxl.at (i:=bfN c.P i) (by rw [hll];exact n2)
  have fa2:ct 4 (ept 5 lv (bfN c.P i))=some (dB 5 lv (bfN c.P i) 4):=hxl.faddr (by rw [hll];exact n2)
  have ld2:∀L,aW none L H1 (dB 5 lv (bfN c.P i) 4)=some (.int .i64 (sdP c.P (lsN c) (bfN c.P i)).p):=fun L=>by
   rw [hxl.rd1 (by rw [hll];exact n2) (by omega),cC n2];rfl
  have aH:=mm (P:=c.P) (L:=lsN c) n2
  rw [cC n2,Qr hok ht] at aH
  have hl0':=fun L=>hx0 hS L
  generalize (sdP c.P (lsN c) (bfN c.P i)).p=pp at *
  simp [f1,f3,f4,f5,f11,f12,hl0',ad,fa,ld,ad2,fa2,ld2,-ag]
  refine aC (fun hp => ?_) fun hp => ?_
  ·have hsta:=aH.1 hp
   have hlen:pts.length<=1000:=by
    have h1:(dh c i 0).length<=i:=by
     unfold dh
     have:=List.length_filter_le (fun k=>@decide (iW (nsN c.P) (nxN c.P) (lsN c) k) (Classical.propDecidable _)) (List.range i)
     simp only [List.length_range] at this
     simpa using this
    rw [hC.len];omega
   simp [f1,f3,f4,f5,f11,f12]
   refine lQ hok ht (Or.inl hsta) hlim hS hlv hlen fun H2 M2 u2 v2 hS2 hM2 => ?_
   have hb:false=gN c i:=by
    symm
    simp only [gN,decide_eq_false_iff_not]
    exact qa hok.nu ht hsta
   simp (disch:=omega) [f1,f3,f4,f5,f11,f12,ae]
   refine ⟨ht,_,_,_,_,hS2,?_,fun k => ?_⟩
   ·rw [sQ hsta];exact hC.snoc hb
   ·rw [hM2 k,hM k,sQ hsta]
    constructor
    ·rintro (⟨r,h1,h2⟩ | h)
     ·exact ⟨r,List.mem_append_left _ h1,h2⟩
     ·exact ⟨i,by simp,h⟩
    ·rintro ⟨r,h1,h2⟩
     rcases List.mem_append.1 h1 with h1 | h1
     ·exact Or.inl ⟨r,h1,h2⟩
     ·rw [List.mem_singleton] at h1;subst h1;exact Or.inr h2
  ·have hsta:¬iW (nsN c.P) (nxN c.P) (lsN c) i:=fun h=>hp (aH.2 h)
   simp (disch:=omega) [f1,f3,f4,f5,f11,f12,ae]
   rw [EA hsta]
   exact ⟨ht,_,_,_,_,hS,hC,hM⟩
 have:i=nsN c.P:=by omega
 subst this
 have hl0':=fun L=>hx0 hS L
 simp [f1,f3,f4,f5,f11,f12,hl0',hl0,-ag]
 refine aO (nsN c.P) (fun i fr L H'=>∃M u pts cl,(fr 1=.ptr H.length 0/\fr 3=.ptr (H.length+2) 0/\fr 4=.ptr (H.length+3) 0/\fr 5=.func (.func 55) [] [.ptr H.length 0,.ptr (H.length+2) 0,.ptr (H.length+3) 0]/\fr 30=.int .i64 (nsN c.P)/\fr 31=.int .i64 i)/\L=[]/\PtsS H.length H lv M u pts cl H'/\PtsC c (dh c (nsN c.P) i) pts cl/\∀k,(look k M).getD false=true↔∃r,r∈dh c (nsN c.P) i/\k∈csP c r) ⟨M,u,pts,cl,by simp [f1,f3,f4,f5],rfl,hS,hC,hM⟩ ?_
 clear f1 f3 f4 f5 f11 f12 hS hC hM hl0' hi hfl fr
 rintro i hi fr L H1 ⟨M,u,pts,cl,⟨f1,f3,f4,f5,f30,f31⟩,rfl,hS,hC,hM⟩
 simp [f1,f3,f4,f5,f30,f31]
 refine aC (fun ht => ?_) fun hfl => ?_
 ·have ht:i<nsN c.P:=by omega
  have hg:=wB (K:=kI) (vc:=V.bool) (a:=(i:Int)) (z:=false) hS.b1
  have hg':fm false [.int .i64] false (.bool false) H1 (.mp (H.length+1)) (.int .i64 (i:Int))=some (.bool ((look (i:Int) M).getD false)):=hg
  have hl2:∀L,aW none L H1 (.ptr (H.length+2) 0)=some (.mp (H.length+1)):=fun L=>by rw [bX hS.b2];rfl
  have hfd:=(hM (i:Int)).trans (HM hok ht)
  generalize hfo:(look (i:Int) M).getD false=fo at *
  simp [f1,f3,f4,f5,f30,f31,hl2,hg',-ag]
  cases fo with
  | true =>
    have hout:=hfd.1 rfl
    simp (disch:=omega) [f1,f3,f4,f5,f30,f31,ae]
    rw [Ft hout]
    exact ⟨ht,_,_,_,_,hS,hC,hM⟩
  | false =>
    have hinn:LeE (PtR c) i/\dX (nsN c.P) (nxN c.P) (lsN c) i:=by
     apply Classical.byContradiction
     intro hn
     have:=hfd.2 hn
     cases this
    have hlen:pts.length<=1000:=by
     have h1:(dh c (nsN c.P) i).length<=nsN c.P+i:=by
      unfold dh
      rw [List.length_append]
      exact Nat.le_trans (Nat.add_le_add (List.length_filter_le _ _) (List.length_filter_le _ _)) (by simp)
     rw [hC.len];omega
    simp [f1,f3,f4,f5,f30,f31]
    refine lQ hok ht (Or.inr hinn.2) hlim hS hlv hlen fun H2 M2 u2 v2 hS2 hM2 => ?_
    have hb:true=gN c i:=by
     symm
     simp only [gN,decide_eq_true_eq]
     exact hinn.2
    simp (disch:=omega) [f1,f3,f4,f5,f30,f31,ae]
    refine ⟨ht,_,_,_,_,hS2,?_,fun k => ?_⟩
    ·rw [tt hinn];exact hC.snoc hb
    ·rw [hM2 k,hM k,tt hinn]
     constructor
     ·rintro (⟨r,h1,h2⟩ | h)
      ·exact ⟨r,List.mem_append_left _ h1,h2⟩
      ·exact ⟨i,by simp,h⟩
     ·rintro ⟨r,h1,h2⟩
      rcases List.mem_append.1 h1 with h1 | h1
      ·exact Or.inl ⟨r,h1,h2⟩
      ·rw [List.mem_singleton] at h1;subst h1;exact Or.inr h2
 have:i=nsN c.P:=by omega
 subst this
 rw [KC] at hC
 have hRp:Reps (PtR c) (nsN c.P) (pf (nsN c.P) (nxN c.P) (lsN c)++dn (nsN c.P) (nxN c.P) (lsN c)):=Iu hok.nu
 generalize pf (nsN c.P) (nxN c.P) (lsN c)++dn (nsN c.P) (nxN c.P) (lsN c)=R at *
 have hlu:∀L,aW none L H1 (.ptr (H.length+3) 0)=some u:=fun L=>by rw [bX hS.b3];rfl
 simp [f1,f3,f4,f5,f30,f31,hlu,hS.ou.lst.stor,-ag]
 have hne:0<pts.length:=by
  obtain ⟨r,h1,_⟩:=hRp.cov 0 (by
   have:=hok.np
   have:=hok.ks (q:=0) (by omega)
   exact fh (pcs:=c.P) (q:=0) (j:=0) (by omega) (by omega))
  rw [hC.len];exact List.length_pos_of_mem h1
 have hlen:pts.length<=48:=by
  have h1:=dH (nsN c.P) R (hRp.dis.imp fun {x y} hne (e:x=y)=>hne (by rw [e];exact hok.ptE.rf _)) hRp.lt
  rw [hC.len];omega
 obtain ⟨bu,rfl,hbu,hrow⟩:=hS.ou.row_of hne
 have hel:=fun i hi=>hC.elem hok hRp.lt (i:=i) hi
 have hcmp:lJ bu 59 [] [] H1 pts cfP:=by
  intro H2 lim2 x y K2 hx hy hle hoth hK2
  obtain ⟨i,hi,rfl⟩:=Bi hx
  obtain ⟨j,hj,rfl⟩:=Bi hy
  have hi':i<R.length:=by rw [←hC.len];exact hi
  have hj':j<R.length:=by rw [←hC.len];exact hj
  have own:∀i,i<pts.length->SlV H2 (pts.getD i default).v (cl.getD i []):=fun i hi =>
   ((hS.oc i hi).keepB fun b o m z e=>hoth b ((hS.oc i hi).belowB _ _ _ _ e).2 fun e'=>by
     subst e'
     exact hS.ap i hi _ _ _ _ _ _ _ rfl e).sl
  have kk:∀i,i<R.length->0<(cl.getD i []).length/\(cl.getD i []).getD 0 0=(pts.getD i default).k/\0<=(pts.getD i default).k/\(pts.getD i default).k<=1000:=fun i hi=>by
   obtain ⟨e1,e2,_⟩:=hel i hi
   obtain ⟨f1,f2⟩:=sV hok e2
   have:=(bn hok.ptE (R.getD i 0)).1
   rw [(hC.at' i hi).1,f1,e1]
   exact ⟨f2,rfl,by omega,by omega⟩
  exact Hq (own i hi) (own j hj) (kk i hi') (kk j hj') (hK2 _ HX.refl)
 refine Ox (b:=bu) (l:=pts) (cf:=cfP) hrow (by omega) ⟨rfl,rfl,by decide⟩ hcmp MA (by omega) fun H2 l2 hs2 hso => ?_
 have hb4:=hS.big
 have hlu2:H2[H.length+3]? = some (.row [.sl bu 0 pts.length 4] true):=by
  rw [hs2.oth _ (by omega) (by omega)];exact hS.b3
 have hlu':∀L,aW none L H2 (.ptr (H.length+3) 0)=some (.sl bu 0 pts.length 4):=fun L=>by rw [bX hlu2];rfl
 simp [f4,hlu',-ag]
 have hl2:l2.length=pts.length:=hs2.n
 have hmin:=CM hok hRp hC hs2.perm (by rw [hl2];exact hso)
 have hlm:(cB (PtR c) (nsN c.P)).length=pts.length:=by rw [←hmin,List.length_map,hl2]
 have hx2:HX H H2:=HX.of (by have:=hS.hx.len;have:=hs2.len;omega) fun b hb=>by
  have:=hS.hx.len
  rw [hs2.oth b (by omega) (by omega),hS.hx.same hb]
 refine hK _ _ hx2 ⟨l2,?_,by rw [hl2,cI,List.length_map,hlm],fun i hi => ?_⟩
 ·rw [←hl2];exact .row (by omega) hs2.row
 ·have hi2:i<l2.length:=by rw [cI,List.length_map,hlm] at hi;omega
  have hmem:l2.getD i default∈pts:=hs2.perm.mem_iff.1 (qR hi2)
  obtain ⟨j,hj,ej⟩:=Bi hmem
  have hj':j<R.length:=by rw [←hC.len];exact hj
  obtain ⟨e1,e2,e3,e4,e5⟩:=hel j hj'
  have hki:(l2.getD i default).k.toNat=(cB (PtR c) (nsN c.P)).getD i 0:=by
   rw [←hmin]
   simp only [List.getD_eq_getElem?_getD,List.getElem?_map,List.getElem?_eq_getElem hi2];rfl
  rw [ej,e1] at hki
  simp only [Int.toNat_natCast] at hki
  obtain ⟨a1,a2,a3⟩:=bn hok.ptE (R.getD j 0)
  rw [hki] at a2
  obtain ⟨c1,c2,c3⟩:=Cr hok a2
  have hpt:(cI c).getD i default=QT c ((cB (PtR c) (nsN c.P)).getD i 0):=by
   have him:i<(cB (PtR c) (nsN c.P)).length:=by omega
   simp only [cI,List.getD_eq_getElem?_getD,List.getElem?_map,List.getElem?_eq_getElem him];rfl
  rw [hpt,ej,e3,e4,e5,c2,c3]
  refine ⟨rfl,rfl,rfl,?_⟩
  have:=((hS.oc j hj).keepB (H':=H2) fun b o m z e=>hs2.oth b ((hS.oc j hj).belowB _ _ _ _ e).2 fun e'=>by
   subst e'
   exact hS.ap j hj _ _ _ _ _ _ _ rfl e).le (n:=H.length) (by omega)
  rw [(hC.at' j hj').1,c1] at this
  exact this
end
section
variable {c:Cp}{k s:Nat}
def ul (c:Cp)(k:Nat):Prop:=LeE (Orb (nsN c.P) (sgN (nsN c.P) (nxN c.P) (lsN c))) k/\alf (lsN c) k=k
open Classical in
noncomputable def jg (c:Cp)(b:Nat):List Nat:=(List.range b).filter fun k=>decide (ul c k)
theorem vE {b r:Nat}:r∈jg c b↔r<b/\ul c r:=by simp [jg]
theorem DB:jg c (nsN c.P)=iz (nsN c.P) (nxN c.P) (lsN c):=by
 unfold jg iz cB
 rw [List.filter_filter]
 refine List.filter_congr fun k _ => ?_
 rw [Bool.eq_iff_iff]
 simp only [decide_eq_true_eq,Bool.and_eq_true,dZ]
 unfold ul
 exact ⟨fun h=>⟨h.2,h.1⟩,fun h=>⟨h.2,h.1⟩⟩
theorem Dl {b:Nat}(h:ul c b):jg c (b+1)=jg c b++[b]:=by
 unfold jg
 rw [List.range_succ,List.filter_append]
 simp [h]
theorem HU {b:Nat}(h:¬ul c b):jg c (b+1)=jg c b:=by
 unfold jg
 rw [List.range_succ,List.filter_append]
 simp [h]
noncomputable def lpP (c:Cp)(f:Nat):List Nat:=lpN (nsN c.P) (sgN (nsN c.P) (nxN c.P) (lsN c)) f
theorem J1 (hok:CapOk c)(hk:k<nsN c.P)(hf:alf (lsN c) k=k):(∃r,r∈jg c k/\k∈lpP c r)↔¬ul c k:=by
 have hsg:=kZ hok.nu
 have hE:=hsg.eqv
 constructor
 ·rintro ⟨r,hr,hm⟩ ⟨h1,h2⟩
  obtain ⟨r1,r2,r3⟩:=vE.1 hr
  rw [lpP,uu hsg (by omega)] at hm
  exact h1 r r1 (hE.sy hm)
 ·intro h
  apply Classical.byContradiction
  intro hn
  refine h ⟨fun d hd he => ?_,hf⟩
  obtain ⟨a1,a2,a3⟩:=bn hE d
  have hfd:=lV hok.nu hf (hE.tr he a2)
  exact hn ⟨_,vE.2 ⟨by omega,a3,hfd⟩,by rw [lpP,uu hsg (by omega)];exact hE.sy (hE.tr he a2)⟩
noncomputable def lpL (c:Cp)(f j:Nat):List Int:=(List.range j).map fun t=>((itN (sgN (nsN c.P) (nxN c.P) (lsN c)) t f:Nat):Int)
theorem KR {f j:Nat}:lpL c f (j+1)=lpL c f j++[((itN (sgN (nsN c.P) (nxN c.P) (lsN c)) j f:Nat):Int)]:=by simp [lpL,List.range_succ]
theorem O7 {f j:Nat}:(lpL c f j).length=j:=by simp [lpL]
theorem NC {f:Nat}:lpL c f (pn (nsN c.P) (sgN (nsN c.P) (nxN c.P) (lsN c)) f)=jV (lpP c f):=by
 rw [lpL,jV,lpP,lpN,List.map_map];rfl
end
def vC:Cod V 1:=⟨fun x=>[x],fun _=>rfl⟩
structure LpsS (n0:Nat)(H0:Hp)(M:List (Int×Bool))(u:V)(us:List V)(ls:List (List Int))(cv:V)(cur:List Int)(H:Hp):Prop where
 hx:HX H0 H
 hn:H0.length=n0
 b1:H[n0]? = some (.map (mE kI .bool M))
 ou:OwnT (n0+1) vC H u us
 len:us.length=ls.length
 oc:∀i,i<us.length->OwnV (n0+1) H (us.getD i dv) (ls.getD i [])
 ow:OwnV (n0+1) H cv cur
 ap:∀i,i<us.length->∀b o z y o' z' y',u=.sl b o z y->us.getD i dv=.sl b o' z' y'->False
 aw:∀b o z y o' z' y',u=.sl b o z y->cv=.sl b o' z' y'->False
 ac:∀i,i<us.length->∀b o z y o' z' y',cv=.sl b o z y->us.getD i dv=.sl b o' z' y'->False
section
variable {n0 lim:Nat}{H H0 H':Hp}{K:V->Hp->Prop}{lv u cv v:V}{M M':List (Int×Bool)}{us:List V}{ls:List (List Int)}{cur:List Int}{c:Cp}{s:Nat}
theorem LpsS.big (h:LpsS n0 H0 M u us ls cv cur H):n0+1<=H.length:=(List.getElem?_eq_some_iff.1 h.b1).1
theorem LpsS.move (h:LpsS n0 H0 M u us ls cv cur H)(ho:vu n0 H H')(hm:H'[n0]? = some (.map (mE kI .bool M'))):LpsS n0 H0 M' u us ls cv cur H' where
 hx:=HX.of (by have:=h.hx.len;have:=ho.1;omega) fun b hb=>by
  have:=h.hx.len
  have:=h.hn
  rw [ho.2 b (by omega) (by omega),h.hx.same hb]
 hn:=h.hn
 b1:=hm
 ou:=h.ou.keepB fun b o m z e=>by have:=h.ou.belowB _ _ _ _ e;exact ho.2 b (by omega) (by omega)
 len:=h.len
 oc:=fun i hi=>(h.oc i hi).keepB fun b o m z e=>by have:=(h.oc i hi).belowB _ _ _ _ e;exact ho.2 b (by omega) (by omega)
 ow:=h.ow.keepB fun b o m z e=>by have:=h.ow.belowB _ _ _ _ e;exact ho.2 b (by omega) (by omega)
 ap:=h.ap
 aw:=h.aw
 ac:=h.ac
theorem LpsS.grow (h:LpsS n0 H0 M u us ls cv cur H)(hx:HX H H'):LpsS n0 H0 M u us ls cv cur H':=h.move ⟨hx.len,fun b hb _=>hx.same hb⟩ (hx.get h.b1)
theorem LpsS.put (h:LpsS n0 H0 M u us ls cv cur H){k:Int}:LpsS n0 H0 (ff k true M) u us ls cv cur (H.set n0 (.map (mE kI .bool (ff k true M)))) :=
 h.move ⟨by simp,fun b hb hne=>List.getElem?_set_ne (fun e=>hne e.symm)⟩ (List.getElem?_set_self h.big)
theorem LpsS.pushC (h:LpsS n0 H0 M u us ls cv cur H){x:Int}(hlim:lim<=n0)(hl:cur.length<1000000) :
 ∃cv' H',aP lim 1 8 (H++[.row [.int .i64 x] true]) cv (.sl H.length 0 1 1)=some (cv',H')/\LpsS n0 H0 M u us ls cv' (cur++[x]) H':=by
 have hb:=h.big
 obtain ⟨v',H',a1,a2,a3,a4,a5,a6⟩:=h.ow.appendF (lim:=lim) (x:=x) ⟨by omega,by omega⟩ hl
 have bo:∀b,b<n0+1->∀o z y,cv≠.sl b o z y:=fun b hb o z y e=>by have:=h.ow.belowB _ _ _ _ e;omega
 have hh:=h.hn
 refine ⟨v',H',a1,⟨a3 _ h.hx (by omega),h.hn,(a5 n0 (by omega) (bo _ (by omega))).trans h.b1,h.ou.keepB fun b o m z e=>a5 b (h.ou.belowB _ _ _ _ e).2 fun o' z' y' e'=>h.aw _ _ _ _ _ _ _ e e',h.len,
  fun i hi=>(h.oc i hi).keepB fun b o m z e=>a5 b ((h.oc i hi).belowB _ _ _ _ e).2 fun o' z' y' e'=>h.ac i hi _ _ _ _ _ _ _ e' e,a2,h.ap,fun b o z y o' z' y' e e' => ?_,fun i hi b o z y o' z' y' e e' => ?_⟩⟩
 ·have:=(h.ou.belowB _ _ _ _ e).2
  have:=a6 _ _ _ _ e'
  omega
 ·have:=((h.oc i hi).belowB _ _ _ _ e').2
  have:=a6 _ _ _ _ e
  omega
theorem LpsS.pushU (h:LpsS n0 H0 M u us ls cv cur H)(hlim:lim<=n0)(hl:us.length<1000000) :
 ∃u' H',aP lim 1 24 (H++[.row [cv] true]) u (.sl H.length 0 1 1)=some (u',H')/\LpsS n0 H0 M u' (us++[cv]) (ls++[cur]) .snil [] H':=by
 have hb:=h.big
 obtain ⟨v',H',a1,a2,a3,a4,a5,a6⟩:=h.ou.appendF2 (lim:=lim) (bytes:=24) (x:=cv) (cs:=[cv]) rfl ⟨by omega,by omega⟩ (by omega) hl
 have bo:∀b,b<n0+1->∀o z y,u≠.sl b o z y:=fun b hb o z y e=>by have:=h.ou.belowB _ _ _ _ e;omega
 have hh:=h.hn
 refine ⟨v',H',a1,⟨a3 _ h.hx (by omega),h.hn,(a5 n0 (by omega) (bo _ (by omega))).trans h.b1,a2,by simp [h.len],fun i hi => ?_,.nil,fun i hi b o z y o' z' y' e e' => ?_,fun b o z y o' z' y' _ e=>(by cases e),fun i hi b o z y o' z' y' e _=>(by cases e)⟩⟩
 ·rw [List.length_append,List.length_singleton] at hi
  by_cases hlt:i<us.length
  ·rw [bL hlt,bL (l:=ls) (by rw [←h.len];exact hlt)]
   exact (h.oc i hlt).keepB fun b o m z e=>a5 b ((h.oc i hlt).belowB _ _ _ _ e).2 fun o' z' y' e'=>h.ap i hlt _ _ _ _ _ _ _ e' e
  ·have:i=us.length:=by omega
   subst this
   rw [bO rfl,bO h.len]
   exact h.ow.keepB fun b o m z e=>a5 b (h.ow.belowB _ _ _ _ e).2 fun o' z' y' e'=>h.aw _ _ _ _ _ _ _ e' e
 ·rw [List.length_append,List.length_singleton] at hi
  have h6:=a6 _ _ _ _ e
  by_cases hlt:i<us.length
  ·rw [bL hlt] at e'
   have:=(h.oc i hlt).belowB _ _ _ _ e'
   omega
  ·have:i=us.length:=by omega
   subst this
   rw [bO rfl] at e'
   have:=h.ow.belowB _ _ _ _ e'
   omega
structure LlsV (n:Nat)(H:Hp)(v:V)(q:List (List Int)):Prop where
 ex:∃us,OwnT n vC H v us/\us.length=q.length/\∀i,i<q.length->OwnV n H (us.getD i dv) (q.getD i [])
theorem Mt (hok:CapOk c)(hs:s<nsN c.P)(hf:alf (lsN c) s=s)(hlv:LstV sdC H lv (fi c.P (lsN c)))(hlim:lim<=H.length)(hK:∀H',HX H H'->K (.int .i64 (sgN (nsN c.P) (nxN c.P) (lsN c) s:Nat)) H') :
 aF tbl lim 60 [lv,.int .i64 s] H K:=by
 have hnu:=hok.nu
 have hns:=hok.ns
 have hc:nuP c s<nsN c.P:=hnu.lt s hs
 have e1:nuP c s=((fi c.P (lsN c)).getD s default).n.toNat:=by
  rw [cC hs]
  show nxN c.P (alf (lsN c) s)=_
  rw [hf];rfl
 obtain ⟨w1,w2,w3⟩:=pR hok hc
 refine wh (n:=rnN (nsN c.P) (nxN c.P) (lsN c) (nuP c s)) hlv (KP hok.sm_ok (by omega)) (by rw [cx];exact hs) e1 w2 w3 hlim fun H' hx => ?_
 have e2:wlk (fi c.P (lsN c)) (nuP c s) (rnN (nsN c.P) (nxN c.P) (lsN c) (nuP c s))=sgN (nsN c.P) (nxN c.P) (lsN c) s:=by
  rw [w1 _ (Nat.le_refl _),sgN,if_pos hf];rfl
 rw [e2]
 exact hK _ hx
theorem qI (hok:CapOk c) (hlim:lim≤H.length) (hlv:LstV sdC H lv (fi c.P (lsN c))) (hK:∀H' v,HX H H'→LlsV H.length H' v ((eJ c).map jV)→K v H') :
 aF tbl lim 36 [lv] H K:=by
 refine ao tbl_at36 rfl ?_
 have hns:=hok.ns
 have hnu:=hok.nu
 have hsg:=kZ hnu
 have hll:=cx (P:=c.P) (L:=lsN c)
 have hl0:bD lv=some (.int .i64 (nsN c.P)):=by rw [hlv.len,hll]
 simp [vf36,hl0]
 refine aO (nsN c.P) (fun i fr L H'=>∃M u us,(fr 0=lv/\fr 3=.mp H.length/\fr 4=u/\fr 10=.int .i64 (nsN c.P)/\fr 11=.int .i64 i)/\L=[]/\LpsS H.length H M u us ((jg c i).map fun f=>jV (lpP c f)) .snil [] H'/\∀k:Nat,(look (k:Int) M).getD false=true↔∃r,r∈jg c i/\k∈lpP c r) ⟨[],.snil,[],by simp,rfl,⟨⟨_,rfl⟩,rfl,by simp;rfl,.nil,by simp [jg],fun i hi=>(by simp at hi),.nil,fun i hi=>(by simp at hi),fun b o z y o' z' y' e _=>(by cases e),fun i hi=>(by simp at hi)⟩,fun k=>by simp [qg,jg]⟩ ?_
 rintro i hi fr L H1 ⟨M,u,us,⟨f0,f3,f4,f10,f11⟩,rfl,hS,hM⟩
 simp [f0,f3,f4,f10,f11]
 have hxl:=hlv.mono hS.hx
 refine aC (fun ht => ?_) fun hfl => ?_
 ·have ht : i < nsN c.P:=by omega
  have ad:=hxl.at (i:=i) (by rw [hll];exact ht)
  have fa:ct 4 (ept 5 lv i)=some (dB 5 lv i 4):=hxl.faddr (by rw [hll];exact ht)
  have ld:∀L,aW none L H1 (dB 5 lv i 4)=some (.int .i64 (sdP c.P (lsN c) i).p):=fun L=>by
   rw [hxl.rd1 (by rw [hll];exact ht) (by omega),cC ht];rfl
  have aH:=mm (P:=c.P) (L:=lsN c) ht
  rw [cC ht] at aH
  have hg:fm false [.int .i64] false (.bool false) H1 (.mp H.length) (.int .i64 (i:Int))=some (.bool ((look (i:Int) M).getD false)):=wB (K:=kI) (vc:=V.bool) (a:=(i:Int)) (z:=false) hS.b1
  generalize (sdP c.P (lsN c) i).p=pp at *
  by_cases hp:pp = -1
  case neg =>
   have hnf:¬ul c i:=fun h=>hp (aH.2 h.2)
   have hp':decide (pp = -1)=false:=decide_eq_false hp
   simp (disch:=omega) [f0,f3,f4,f10,f11,ad,fa,ld,hp,ae]
   rw [HU hnf]
   exact ⟨ht,_,⟨_,hS⟩,hM⟩
  subst hp
  have hf:alf (lsN c) i=i:=aH.1 rfl
  have hsn:=(hM i).trans (J1 hok ht hf)
  cases hlo:(look (i:Int) M).getD false with
  | true =>
    have hnf:¬ul c i:=hsn.1 hlo
    rw [hlo] at hg
    simp (disch:=omega) [f0,f3,f4,f10,f11,ad,fa,ld,hg,ae]
    rw [HU hnf]
    exact ⟨ht,_,⟨_,hS⟩,hM⟩
  | false =>
    have hfr:ul c i:=by
     apply Classical.byContradiction
     intro hn
     have:=hsn.2 hn
     rw [hlo] at this;cases this
    rw [hlo] at hg
    simp [f0,f3,f4,f10,f11,ad,fa,ld,hg]
    obtain ⟨p1,⟨p2,p3⟩,p4⟩:=yp hsg ht
    have hlp:lpP c i=lpN (nsN c.P) (sgN (nsN c.P) (nxN c.P) (lsN c)) i:=rfl
    have hlall:=NC (c:=c) (f:=i)
    generalize hm:pn (nsN c.P) (sgN (nsN c.P) (nxN c.P) (lsN c)) i=m at *
    refine aO m (fun j fr L H'=>∃M' cv,(fr 0=lv/\fr 3=.mp H.length/\fr 4=u/\fr 6=cv/\fr 7=.int .i64 (itN (sgN (nsN c.P) (nxN c.P) (lsN c)) j i:Nat)/\fr 10=.int .i64 (nsN c.P)/\fr 11=.int .i64 i)/\L=[]/\LpsS H.length H M' u us ((jg c i).map fun f=>jV (lpP c f)) cv (lpL c i j) H'/\∀k:Nat,(look (k:Int) M').getD false=true↔(look (k:Int) M).getD false=true\/∃t,t<j/\k=itN (sgN (nsN c.P) (nxN c.P) (lsN c)) t i) ⟨M,.snil,by simp [f0,f3,f4,f10,f11,itN],rfl,by simpa [lpL] using hS,fun k=>by simp⟩ ?_
    clear f0 f3 f4 f10 f11 ad fa ld hg hxl hlo fr
    rintro j hj fr L H2 ⟨M',cv,⟨f0,f3,f4,f6,f7,f10,f11⟩,rfl,hS2,hM2⟩
    have hq:=hsg.it ht j
    have hqf:=lV hnu hf (hsg.orb ht j)
    have hg:fm false [.int .i64] false (.bool false) H2 (.mp H.length) (.int .i64 (itN (sgN (nsN c.P) (nxN c.P) (lsN c)) j i:Nat))=some (.bool ((look ((itN (sgN (nsN c.P) (nxN c.P) (lsN c)) j i:Nat):Int) M').getD false)):=wB (K:=kI) (vc:=V.bool) (z:=false) hS2.b1
    have hsee:=hM2 (itN (sgN (nsN c.P) (nxN c.P) (lsN c)) j i)
    by_cases hjm:j=m
    ·have hseen:(look ((itN (sgN (nsN c.P) (nxN c.P) (lsN c)) j i:Nat):Int) M').getD false=true:=by
      rw [hsee];right;exact ⟨0,by omega,by rw [hjm,p3];rfl⟩
     rw [hseen] at hg
     subst hjm
     obtain ⟨u2,H3,b1,hS3⟩:=hS2.pushU (lim:=lim) hlim (by
      have h1:=hS2.len
      rw [List.length_map] at h1
      have h2:(jg c i).length<=i:=by
       unfold jg;exact Nat.le_trans (List.length_filter_le _ _) (by simp)
      omega)
     simp (disch:=omega) [f0,f3,f4,f6,f7,f10,f11,hg,hS2.ow.sl.stor,hS2.ow.sl.one,al,b1,ae]
     refine ⟨ht,M',⟨us++[cv],?_⟩,fun k => ?_⟩
     ·rw [Dl hfr,List.map_append,List.map_cons,List.map_nil,←hlall]
      exact hS3
     ·rw [hM2 k,hM k,Dl hfr]
      constructor
      ·rintro (⟨r,h1,h2⟩ | ⟨t,h1,h2⟩)
       ·exact ⟨r,List.mem_append_left _ h1,h2⟩
       ·refine ⟨i,by simp,?_⟩
        rw [hlp,uu hsg ht,h2]
        exact hsg.orb ht t
      ·rintro ⟨r,h1,h2⟩
       rcases List.mem_append.1 h1 with h1 | h1
       ·exact Or.inl ⟨r,h1,h2⟩
       ·rw [List.mem_singleton] at h1
        subst h1
        right
        rw [hlp,lpN,hm] at h2
        obtain ⟨t,h3,h4⟩:=List.mem_map.1 h2
        exact ⟨t,List.mem_range.1 h3,h4.symm⟩
    ·have hlt:j<m:=by omega
     have hseen:(look ((itN (sgN (nsN c.P) (nxN c.P) (lsN c)) j i:Nat):Int) M').getD false=false:=by
      cases hb:(look ((itN (sgN (nsN c.P) (nxN c.P) (lsN c)) j i:Nat):Int) M').getD false with
      | false=>rfl
      | true =>
        rcases hsee.1 hb with h | ⟨t,h1,h2⟩
        ·obtain ⟨r,h1,h2⟩:=(hM _).1 h
         obtain ⟨r1,r2,r3⟩:=vE.1 h1
         rw [lpP,uu hsg (by omega)] at h2
         exact absurd (hsg.eqv.tr (hsg.orb ht j) (hsg.eqv.sy h2)) (hfr.1 r r1)
        ·have:=hsg.back ht t (j-t) (by rw [show t+(j-t)=j by omega];exact h2)
         exact absurd ⟨by omega,this⟩ (p4 (j-t) (by omega))
     rw [hseen] at hg
     generalize hqe:itN (sgN (nsN c.P) (nxN c.P) (lsN c)) j i=q at *
     have hput:gF lim false [.int .i64] H2 (.mp H.length) (.int .i64 (q:Int)) (.bool true)=some (H2.set H.length (.map (mE kI .bool (ff (q:Int) true M')))):=Bk (K:=kI) (vc:=V.bool) (u:=true) hS2.b1 hlim rfl
     have hS3:=hS2.put (k:=(q:Int))
     generalize H2.set H.length (.map (mE kI .bool (ff (q:Int) true M')))=H3 at *
     obtain ⟨cv2,H4,b1,hS4⟩:=hS3.pushC (lim:=lim) (x:=(q:Int)) hlim (by rw [O7];omega)
     have hb4:=hS4.big
     simp [f0,f3,f4,f6,f7,f10,f11,hg,hput,b1,hlv.stor]
     refine Mt hok hq hqf (hlv.mono hS4.hx) (by omega) fun H5 x5 => ?_
     simp [f0,f3,f4,f6,f7,f10,f11]
     refine ⟨hlt,ff (q:Int) true M',cv2,⟨rfl,?_⟩,?_,fun k => ?_⟩
     ·rw [←hqe];rfl
     ·rw [KR,hqe];exact hS4.grow x5
     ·rw [mg]
      by_cases e:(k:Int)=(q:Int)
      ·have e':k=q:=by omega
       subst e'
       rw [if_pos rfl]
       simp only [Option.getD_some,true_iff]
       exact Or.inr ⟨j,by omega,hqe.symm⟩
      ·rw [if_neg e,hM2 k]
       constructor
       ·rintro (h | ⟨t,h1,h2⟩)
        ·exact Or.inl h
        ·exact Or.inr ⟨t,by omega,h2⟩
       ·rintro (h | ⟨t,h1,h2⟩)
        ·exact Or.inl h
        ·rcases Nat.lt_or_ge t j with h3 | h3
         ·exact Or.inr ⟨t,h3,h2⟩
         ·have:t=j:=by omega
          subst this
          rw [hqe] at h2
          exact absurd (by rw [h2]) e
 ·have:i=nsN c.P:=by omega
  subst this
  simp [f4,hS.ou.lst.stor]
  refine hK _ _ hS.hx ⟨us,hS.ou.le (by omega),?_,fun i hi => ?_⟩
  ·rw [hS.len,DB,List.length_map,List.length_map,eJ,qr,List.length_map]
  ·have e:(eJ c).map jV=(jg c (nsN c.P)).map fun f=>jV (lpP c f):=by
    rw [DB,eJ,qr,List.map_map];rfl
   rw [e] at hi ⊢
   exact (hS.oc i (by rw [hS.len];exact hi)).le (by omega)
end
section
variable {c:Cp}
theorem uZ:(cI c).length<=nsN c.P:=by
 rw [cI,List.length_map]
 exact dH _ _ dj fun x hx=>(cn.1 hx).1
theorem HP (hok:CapOk c):∀{l:List Nat},(∀x∈l,x<nsN c.P)->0<=(l.map (anN c.P)).sum/\(l.map (anN c.P)).sum<=359*l.length
 | [],_=>by simp
 | x :: l,h=>by
   have h1:=HP hok (l:=l) fun y hy=>h y (List.mem_cons_of_mem _ hy)
   have h2:=Il hok (h x (by simp))
   simp only [List.map_cons,List.sum_cons,List.length_cons];omega
theorem Dw (hok:CapOk c)(k:Nat):0<=ly c k/\ly c k<=17232:=by
 have h1:=HP hok (l:=fK (PtR c) (nsN c.P) k) fun x hx=>(eE.1 hx).1
 have h2:=dH (nsN c.P) (fK (PtR c) (nsN c.P) k) lA fun x hx=>(eE.1 hx).1
 have:=hok.ns
 unfold ly;omega
theorem R2 (hok:CapOk c){q:Ptt}(hq:q∈cI c) : -17052<=q.df/\q.df<=360:=by
 obtain ⟨k,hk,rfl⟩:=List.mem_map.1 hq
 have h1:=Dw hok k
 have:(QT c k).df=(if gN c k then 360 else 180)-ly c k:=rfl
 rw [this];split<;>omega
noncomputable def jS (c:Cp)(i:Nat):Int:=(((cI c).map (·.df)).take i).sum
theorem nM {i:Nat}(hi:i<(cI c).length):jS c (i+1)=jS c i+((cI c).getD i default).df:=by
 unfold jS
 rw [ql (by simpa using hi)]
 congr 1
 simp [List.getD_eq_getElem?_getD,hi]
theorem lP (hok:CapOk c):∀{i:Nat},i<=(cI c).length->-17052*(i:Int)<=jS c i/\jS c i<=360*i
 | 0,_=>by simp [jS]
 | i+1,h=>by
   have h1:=lP hok (i:=i) (by omega)
   have h2:=R2 hok (qR (l:=cI c) (i:=i) (by omega))
   rw [nM (by omega)];omega
theorem IZ (hok:CapOk c):c.S.length<=24:=by
 have:=ja hok.sm_ok
 rw [nK] at this
 have:=hok.ns
 omega
theorem D7:dE c<=c.P.length:=dH _ _ dj fun x hx=>(cn.1 hx).1
theorem DQ:(eJ c).length<=nsN c.P:=by
 rw [eJ,qr,List.length_map]
 exact dH _ _ (List.Nodup.sublist List.filter_sublist dj) fun x hx=>(dS.1 hx).1.1
def PrR (c:Cp)(i:Nat):Nat->Nat->Prop:=dw (pcN c.P) (prL c.P (c.S.take i))
theorem I8 {i:Nat}(hi:i<c.S.length):prL c.P (c.S.take (i+1))=prS c.P (c.S.getD i default) :: prL c.P (c.S.take i):=by
 rw [kF hi,prL,List.map_append,List.reverse_append];rfl
theorem Ir (hok:CapOk c){i:Nat}(hi:i<c.S.length):PrR c (i+1)=pW (PrR c i) (c.S.getD i default).A.toNat (c.S.getD i default).B.toNat:=by
 have hso:=(gL (hok.sm i hi)).1
 obtain ⟨a1,a2,_,_⟩:=cK hso.1
 obtain ⟨b1,b2,_,_⟩:=cK hso.2
 rw [PrR,I8 hi]
 show pW _ (pcN c.P (prS c.P (c.S.getD i default)).1) (pcN c.P (prS c.P (c.S.getD i default)).2)=_
 rw [prS,ir a1 a2,ir b1 b2];rfl
theorem MT {i:Nat}:Eqv (PrR c i):=ba
theorem wM:cD (PrR c 0) c.P.length=c.P.length/\∀a b,PrR c 0 a b↔a=b:=by
 have h:∀a b,PrR c 0 a b↔a=b:=fun a b=>by unfold PrR;simp only [List.take_zero,prL,List.map_nil,List.reverse_nil,dw]
 refine ⟨?_,h⟩
 have:cB (PrR c 0) c.P.length=List.range c.P.length:=by
  unfold cB
  rw [List.filter_eq_self]
  intro k _
  simp only [decide_eq_true_eq]
  intro d hd he
  have:=(h k d).1 he
  omega
 rw [cD,this,List.length_range]
theorem Nq:cD (PrR c c.S.length) c.P.length=dE c:=by
 unfold PrR dE lsN;rw [List.take_length]
theorem AL (hok:CapOk c) {i:Nat} (hi:i<c.S.length) {l:List Int} (hl:l.length=c.P.length) (h:∀a b,a<c.P.length→b<c.P.length→(l.getD a 0=l.getD b 0↔PrR c i a b)) :
 (∀a b,a<c.P.length->b<c.P.length->((if l.getD a 0=l.getD (c.S.getD i default).A.toNat 0 then l.getD (c.S.getD i default).B.toNat 0 else l.getD a 0)=(if l.getD b 0=l.getD (c.S.getD i default).A.toNat 0 then l.getD (c.S.getD i default).B.toNat 0 else l.getD b 0)↔PrR c (i+1) a b)) /\
 (cD (PrR c (i+1)) c.P.length:Int)=cD (PrR c i) c.P.length-(if l.getD (c.S.getD i default).A.toNat 0=l.getD (c.S.getD i default).B.toNat 0 then 0 else 1):=by
 have hso:=(gL (hok.sm i hi)).1
 obtain ⟨a1,a2,_,_⟩:=cK hso.1
 obtain ⟨b1,b2,_,_⟩:=cK hso.2
 have hE:=MT (c:=c) (i:=i)
 have hAB:=h _ _ a1 b1
 rw [Ir hok hi]
 generalize (c.S.getD i default).A.toNat=A at *
 generalize (c.S.getD i default).B.toNat=B at *
 constructor
 ·intro a b ha hb
  have h1:=h a b ha hb
  have h2:=h a A ha a1
  have h3:=h b A hb a1
  have h4:=h a B ha b1
  have h5:=h b B hb b1
  have hsA:PrR c i A b↔PrR c i b A:=⟨fun g=>hE.sy g,fun g=>hE.sy g⟩
  have hsB:PrR c i B b↔PrR c i b B:=⟨fun g=>hE.sy g,fun g=>hE.sy g⟩
  simp only [pW,hsA,hsB,←h1,←h2,←h3,←h4,←h5]
  split<;>split<;>constructor<;>intro g<;>first | omega | (rcases g with g | g | g<;>omega)
 ·by_cases e:l.getD A 0=l.getD B 0
  ·rw [if_pos e]
   have:cD (pW (PrR c i) A B) c.P.length=cD (PrR c i) c.P.length:=jh fun a b _ _=>by
    have hh:=hAB.1 e
    constructor
    ·rintro (g | ⟨g1,g2⟩ | ⟨g1,g2⟩)
     ·exact g
     ·exact hE.tr g1 (hE.tr hh g2)
     ·exact hE.tr g1 (hE.tr (hE.sy hh) g2)
    ·exact Or.inl
   omega
  ·rw [if_neg e]
   have:=mT hE a1 b1 fun g=>e (hAB.2 g)
   omega
end
section
variable {lim:Nat}{H H':Hp}{K:V->Hp->Prop}{pv sv:V}{ps:List (V×V)}{P:List Pc}{S:List Sm}{e:Int}{ws:List V}{c:Cp}
theorem oT (hc:CapV H ws c)(hb:c.S.length<=1000000)(hlim:lim<=H.length)(hK:∀H' v,HX H H'->(cF c=0->PtlV H.length H' v (cI c))->(cF c≠0->v=.snil)->K (.tup [v,.int .i64 (cF c)]) H'):aF tbl lim 24 [.agg ws] H K:=by
 obtain ⟨pv,sv,ps,rfl,hp,hs,z1,z2,z3,z4⟩:=hc.form
 refine ao tbl_at24 rfl ?_
 simp [vf24,z1,z2,z3,z4,bh]
 refine ce hc hb hlim fun H1 x1 => ?_
 replace x1:HX H H1:=x1
 by_cases he:cF c=0
 case neg =>
  have:=hK H1 .snil x1 (fun h=>absurd h he) (fun _=>rfl)
  simp [he,z1,z2,z3,z4]
  exact this
 have l1:=x1.len
 simp [he,bh,z1,z2,z3,z4]
 refine kh (hc.mono x1) (cX.1 he) (by omega) fun H2 lv x2 ol => ?_
 replace x2:HX H1 H2:=x2
 have l2:=x2.len
 simp [ol.lst.stor]
 refine ph (cX.1 he) (by omega) ol.lst fun H3 v x3 hv => ?_
 replace x3:HX H2 H3:=x3
 obtain ⟨pts,o1,o2,o3⟩:=hv.ex
 have:=hK H3 v ((x1.trans x2).trans x3) (fun _=>⟨⟨pts,o1.le (by omega),o2,fun i hi=>⟨(o3 i hi).1,(o3 i hi).2.1,(o3 i hi).2.2.1,(o3 i hi).2.2.2.le (by omega)⟩⟩⟩) (fun h=>absurd he h)
 rw [he] at this
 simp [o1.lst.stor]
 exact this
theorem Cx (hc:CapV H ws c)(hb:c.S.length<=1000000)(hlim:lim<=H.length)(hK:∀H' v,HX H H'->(cF c=0->LlsV H.length H' v ((eJ c).map jV))->(cF c≠0->v=.snil)->K (.tup [v,.int .i64 (cF c)]) H'):aF tbl lim 16 [.agg ws] H K:=by
 obtain ⟨pv,sv,ps,rfl,hp,hs,z1,z2,z3,z4⟩:=hc.form
 refine ao tbl_at16 rfl ?_
 simp [vf16,z1,z2,z3,z4,bh]
 refine ce hc hb hlim fun H1 x1 => ?_
 replace x1:HX H H1:=x1
 by_cases he:cF c=0
 case neg =>
  have:=hK H1 .snil x1 (fun h=>absurd h he) (fun _=>rfl)
  simp [he,z1,z2,z3,z4]
  exact this
 have l1:=x1.len
 simp [he,bh,z1,z2,z3,z4]
 refine kh (hc.mono x1) (cX.1 he) (by omega) fun H2 lv x2 ol => ?_
 replace x2:HX H1 H2:=x2
 have l2:=x2.len
 simp [ol.lst.stor]
 refine qI (cX.1 he) (by omega) ol.lst fun H3 v x3 hv => ?_
 replace x3:HX H2 H3:=x3
 obtain ⟨us,o1,o2,o3⟩:=hv.ex
 have:=hK H3 v ((x1.trans x2).trans x3) (fun _=>⟨⟨us,o1.le (by omega),o2,fun i hi=>(o3 i hi).le (by omega)⟩⟩) (fun h=>absurd he h)
 rw [he] at this
 simp [o1.lst.stor]
 exact this
theorem qW (hc:CapV H ws c)(hb:c.S.length<=1000000)(hlim:lim<=H.length)(hK:∀H',HX H H'->K (.tup [.int .i64 (if cF c=0 then iL c else 0),.int .i64 (cF c)]) H'):aF tbl lim 15 [.agg ws] H K:=by
 obtain ⟨pv,sv,ps,rfl,hp,hs,z1,z2,z3,z4⟩:=hc.form
 refine ao tbl_at15 rfl ?_
 simp [vf15,z1,z2,z3,z4,bh]
 refine ce hc hb hlim fun H1 x1 => ?_
 replace x1:HX H H1:=x1
 by_cases he:cF c=0
 case neg =>
  have:=hK H1 x1
  rw [if_neg he] at this
  simp [he,z1,z2,z3,z4]
  exact this
 have l1:=x1.len
 have hok:=cX.1 he
 simp [he,bh,z1,z2,z3,z4]
 refine kh (hc.mono x1) hok (by omega) fun H2 lv x2 ol => ?_
 replace x2:HX H1 H2:=x2
 have l2:=x2.len
 simp [ol.lst.stor]
 refine ph hok (by omega) ol.lst fun H3 v x3 hv => ?_
 replace x3:HX H2 H3:=x3
 obtain ⟨pts,o1,o2,o3⟩:=hv.ex
 have:=hK H3 ((x1.trans x2).trans x3)
 rw [if_pos he,he] at this
 have hv1:bD v=some (.int .i64 (cI c).length):=by rw [←o2];exact o1.lst.len
 have hv2:bD lv=some (.int .i64 (nsN c.P)):=by rw [ol.lst.len,cx]
 have b1:=uZ (c:=c)
 have b2:=hok.ns
 have b3:=IZ hok
 have b4:=hok.np
 have e1:((cI c).length:Int)-((nsN c.P:Int)-(c.S.length:Int))+(c.P.length:Int)=iL c:=rfl
 simp (disch:=omega) [hv1,hv2,rd0,cm,hp.vlen,hs.len,ae,e1]
 exact this
theorem vJ (hc:CapV H ws c)(hb:c.S.length<=1000000)(hlim:lim<=H.length)(hK:∀H',HX H H'->K (.tup [.int .i64 (if cF c=0 then jL c else 0),.int .i64 (cF c)]) H'):aF tbl lim 25 [.agg ws] H K:=by
 obtain ⟨pv,sv,ps,rfl,hp,hs,z1,z2,z3,z4⟩:=hc.form
 refine ao tbl_at25 rfl ?_
 simp [vf25,z1,z2,z3,z4,bh]
 refine oT hc hb hlim fun H1 v x1 hv hn => ?_
 replace x1:HX H H1:=x1
 have hres:=hK H1 x1
 by_cases he:cF c=0
 case neg =>
  have hv:=hn he
  subst hv
  rw [if_neg he] at hres
  simp
  refine oE ?_
  simp
  exact hres
 have hok:=cX.1 he
 obtain ⟨pts,o1,o2,o3⟩:=(hv he).ex
 have hvl:bD v=some (.int .i64 (cI c).length):=by rw [←o2];exact o1.lst.len
 have b1:=uZ (c:=c)
 have b2:=hok.ns
 rw [if_pos he] at hres
 simp [hvl]
 refine aO (cI c).length (fun i fr L H'=>(fr 4=v/\fr 5=.int .i64 (cF c)/\fr 6=.int .i64 (jS c i)/\fr 14=v/\fr 15=.int .i64 (cI c).length/\fr 16=.int .i64 i)/\H'=H1) ⟨by simp [jS],rfl⟩ ?_
 rintro i hi fr L H2 ⟨⟨f4,f5,f6,f14,f15,f16⟩,rfl⟩
 simp [f4,f5,f6,f14,f15,f16]
 refine aC (fun ht => ?_) fun hfl => ?_
 ·have ht:i<(cI c).length:=by omega
  have ad:=o1.lst.at (i:=i) (by omega)
  have ld:=fun L=>o1.lst.load (i:=i) (by omega) (L:=L)
  obtain ⟨q1,q2,q3,q4⟩:=o3 i ht
  have hb1:=lP hok (i:=i) (by omega)
  have hb2:=lP hok (i:=i+1) (by omega)
  have hsn:=nM ht
  have ec:Gj.cells (pts.getD i default)=[(pts.getD i default).v,.bool (pts.getD i default).i,.int .i64 (pts.getD i default).a,.int .i64 (pts.getD i default).d]:=rfl
  rw [ec,q3] at ld
  have hw:IntKind.wrap .i64 (jS c i+((cI c).getD i default).df)=jS c (i+1):=by rw [←hsn];exact ae (by omega) (by omega)
  have q5:=q4.sl.stor
  have q6:=q4.sl.one
  simp (disch:=omega) [f4,f5,f6,f14,f15,f16,ad,ld,ft,gy,al,rZ,hw,ae,q6]
  exact ht
 ·have:i=(cI c).length:=by omega
  subst this
  have hall:jS c (cI c).length=jL c:=by
   unfold jS jL;rw [List.take_of_length_le (by simp)]
  rw [hall] at f6
  simp [f5,f6]
  exact hres
theorem qx (hc:CapV H ws c) (hb:c.S.length≤1000000) (hlim:lim≤H.length) (hK:∀H',HX H H'→K (.tup [.int .i64 (if cF c=0 then (dE c:Int) else 0),.int .i64 (cF c)]) H'):aF tbl lim 26 [.agg ws] H K:=by
 obtain ⟨pv,sv,ps,rfl,hp,hs,z1,z2,z3,z4⟩:=hc.form
 refine ao tbl_at26 rfl ?_
 simp [vf26,z1,z2,z3,z4,bh]
 refine ce hc hb hlim fun H1 x1 => ?_
 replace x1:HX H H1:=x1
 by_cases he:cF c=0
 case neg =>
  have:=hK H1 x1
  rw [if_neg he] at this
  simp [he]
  exact this
 have l1:=x1.len
 have hok:=cX.1 he
 have b4:=hok.np
 have b3:=IZ hok
 have hmk:∀L,Nj 1 8 [V.int .i64 0] L H1 (.int .i64 (c.P.length:Int)) (.int .i64 (c.P.length:Int))=some (.val (.sl H1.length 0 c.P.length 1) L (H1++[.row (bH (zs c.P.length)) true])):=fun L=>yP ⟨by omega,by omega⟩
 have own:∀l:List Int,l.length=c.P.length->OwnV H1.length (H1++[.row (bH l) true]) (.sl H1.length 0 c.P.length 1) l:=fun l hl=>by
  have:=OwnV.new (n:=H1.length) (H:=H1) (l:=l) (Nat.le_refl _)
  rwa [hl] at this
 have sto:∀(l:List Int) (i:Nat) (x:Int) (L:Lo),l.length=c.P.length->i<c.P.length->aD lim L (H1++[.row (bH l) true]) (ept 1 (.sl H1.length 0 c.P.length 1) i) (.int .i64 x) 1=some (L,H1++[.row (bH (l.set i x)) true]):=fun l i x L hl hi=>by
  rw [(own l hl).store ⟨by omega,by omega⟩]
  simp [dI]
 have hxp:∀x,HX H1 (H1++[x]):=fun x=>HX.push
 simp [he,rd0,cm,hp.vlen,hmk]
 refine aO c.P.length (fun i fr L H'=>∃l,(fr 1=.lp 0 0/\fr 5=.sl H1.length 0 c.P.length 1/\fr 23=.int .i64 c.P.length/\fr 24=.int .i64 i)/\L=[[pv,sv,.int .i64 c.e]]/\H'=H1++[.row (bH l) true]/\l.length=c.P.length/\∀k:Nat,k<i->l.getD k 0=(k:Int)) ⟨zs c.P.length,by simp,by simp,rfl,s9 _,fun k hk=>by omega⟩ ?_
 rintro i hi fr L H2 ⟨l,⟨f1,f5,f23,f24⟩,rfl,rfl,hl,hk⟩
 simp [f1,f5,f23,f24]
 refine aC (fun ht => ?_) fun hfl => ?_
 ·have ht:i<c.P.length:=by omega
  have ad:=(own l hl).sl.addr (i:=(i:Int)) (by omega)
  simp only [Int.toNat_natCast] at ad
  simp (disch:=omega) [f1,f5,f23,f24,ad,sto,hl,ht,-aD,gC,-ah,ae]
  refine ⟨_,rfl,by simpa using hl,fun k hk' => ?_⟩
  rw [zD (by omega)]
  by_cases e:k=i
  ·rw [if_pos e,e]
  ·rw [if_neg e];exact hk k (by omega)
 have:i=c.P.length:=by omega
 subst this
 simp [f1,f5,f23,f24,cm,hs.len]
 refine aO c.S.length (fun i fr L H'=>∃l X,(fr 1=.lp 0 0/\fr 5=.sl H1.length 0 c.P.length 1/\fr 7=.int .i64 (cD (PrR c i) c.P.length:Nat)/\fr 35=sv/\fr 36=.int .i64 c.S.length/\fr 37=.int .i64 i)/\L=[pv,sv,.int .i64 c.e] :: X/\H'=H1++[.row (bH l) true]/\l.length=c.P.length/\∀a b,a<c.P.length->b<c.P.length->(l.getD a 0=l.getD b 0↔PrR c i a b)) ⟨l,[],by simp [f1,f5,wM.1],rfl,rfl,hl,fun a b ha hb=>by rw [wM.2,hk a ha,hk b hb];omega⟩ ?_
 clear hl hk hi hfl f1 f5 f23 f24 fr
 rintro i hi fr L H2 ⟨l,X,⟨f1,f5,f7,f35,f36,f37⟩,rfl,rfl,hl,hk⟩
 simp [f1,f5,f7,f35,f36,f37]
 refine aC (fun ht => ?_) fun hfl => ?_
 ·have ht : i<c.S.length:=by omega
  have hs2:=(hs.mono x1).mono (hxp (.row (bH l) true))
  have ld:=fun L=>hs2.load ht (L:=L)
  obtain ⟨q1,q2⟩:=AL hok ht hl hk
  have hso:=(gL (hok.sm i ht)).1
  generalize hse:c.S.getD i default=se at *
  have ec:smC.cells se=[.int .i64 se.A,.int .i64 se.I,.int .i64 se.B,.int .i64 se.J]:=rfl
  rw [ec] at ld
  obtain ⟨a1,a2,a3,a4⟩:=cK hso.1
  obtain ⟨g1,g2,g3,g4⟩:=cK hso.2
  have ada:=(own l hl).sl.addr (i:=se.A) (by omega)
  have adb:=(own l hl).sl.addr (i:=se.B) (by omega)
  have lda:=fun L=>(own l hl).sl.load (i:=se.A.toNat) (by omega) (L:=L)
  have ldb:=fun L=>(own l hl).sl.load (i:=se.B.toNat) (by omega) (L:=L)
  have hn1:cD (PrR c i) c.P.length<=c.P.length:=dH _ _ dj fun x hx=>(cn.1 hx).1
  have hn2:cD (PrR c (i+1)) c.P.length<=c.P.length:=dH _ _ dj fun x hx=>(cn.1 hx).1
  generalize hfrm:l.getD se.A.toNat 0=frm at *
  generalize hto:l.getD se.B.toNat 0=too at *
  simp (disch:=omega) [f1,f5,f7,f35,f36,f37,hs2.at ht,ld,zs4,LQ,al,ft,gy,rd0,cm,gW,rZ,ada,adb,lda,ldb,-ah]
  refine cy (fun fr' L' H'=>(fr' 1=.lp 0 0/\fr' 5=.sl H1.length 0 c.P.length 1/\fr' 7=.int .i64 (cD (PrR c (i+1)) c.P.length:Nat)/\fr' 10=.int .i64 frm/\fr' 11=.int .i64 too/\fr' 35=sv/\fr' 36=.int .i64 c.S.length/\fr' 37=.int .i64 i)/\L'=[pv,sv,.int .i64 c.e] :: (X++[[.int .i64 se.A,.int .i64 se.I,.int .i64 se.B,.int .i64 se.J]])/\H'=H1++[.row (bH l) true]) ?_ ?_ ?_
  ·intro hne
   have hne:¬frm=too:=by simpa using hne
   rw [if_neg hne] at q2
   have hw:IntKind.wrap .i64 ((cD (PrR c i) c.P.length:Int)-1)=(cD (PrR c (i+1)) c.P.length:Nat):=by rw [q2];exact ae (by omega) (by omega)
   simp [f1,f5,f7,f35,f36,f37,hw]
  ·intro heq
   have heq:frm=too:=by simpa using heq
   rw [if_pos heq] at q2
   simp [f1,f5,f7,f35,f36,f37]
   omega
  rintro fr' L' H' ⟨⟨f1,f5,f7,f10,f11,f35,f36,f37⟩,rfl,rfl⟩
  simp [f1,f5,f7,f10,f11,f35,f36,f37]
  refine aO c.P.length (fun j fr L H'=>∃l',(fr 1=.lp 0 0/\fr 5=.sl H1.length 0 c.P.length 1/\fr 7=.int .i64 (cD (PrR c (i+1)) c.P.length:Nat)/\fr 10=.int .i64 frm/\fr 11=.int .i64 too/\fr 35=sv/\fr 36=.int .i64 c.S.length/\fr 37=.int .i64 i/\fr 57=.int .i64 c.P.length/\fr 58=.int .i64 j)/\L=[pv,sv,.int .i64 c.e] :: (X++[[.int .i64 se.A,.int .i64 se.I,.int .i64 se.B,.int .i64 se.J]])/\H'=H1++[.row (bH l') true]/\l'.length=c.P.length/\∀a,a<c.P.length->l'.getD a 0=if a<j/\l.getD a 0=frm then too else l.getD a 0) ⟨l,by simp [f1,f5,f7,f10,f11,f35,f36,f37],rfl,rfl,hl,fun a ha=>by simp⟩ ?_
  rintro j hj fr L H2 ⟨l',⟨f1,f5,f7,f10,f11,f35,f36,f37,f57,f58⟩,rfl,rfl,hl',hk'⟩
  simp [f1,f5,f7,f10,f11,f35,f36,f37,f57,f58]
  refine aC (fun hjt => ?_) fun hjf => ?_
  ·have hjt:j<c.P.length:=by omega
   have ad:=(own l' hl').sl.addr (i:=(j:Int)) (by omega)
   simp only [Int.toNat_natCast] at ad
   have lj:=fun L=>(own l' hl').sl.load (i:=j) (by omega) (L:=L)
   have hj0:=hk' j hjt
   rw [if_neg (by omega)] at hj0
   rw [hj0] at lj
   simp [f1,f5,f7,f10,f11,f35,f36,f37,f57,f58,ad,lj,-ah]
   refine aC (fun hq => ?_) fun hq => ?_
   ·simp (disch:=omega) [f1,f5,f7,f10,f11,f35,f36,f37,f57,f58,ad,sto,hl',hjt,-aD,gC,-ah,ae]
    refine ⟨_,rfl,by simpa using hl',fun a ha => ?_⟩
    rw [zD (by omega)]
    by_cases e:a=j
    ·subst e;rw [if_pos rfl,if_pos ⟨by omega,hq⟩]
    ·rw [if_neg e,hk' a ha]
     by_cases hlt:a<j
     ·by_cases hqa:l.getD a 0=frm
      ·rw [if_pos ⟨hlt,hqa⟩,if_pos ⟨by omega,hqa⟩]
      ·rw [if_neg (fun h=>hqa h.2),if_neg (fun h=>hqa h.2)]
     ·rw [if_neg (fun h=>hlt h.1),if_neg (fun h=>by omega)]
   ·simp (disch:=omega) [f1,f5,f7,f10,f11,f35,f36,f37,f57,f58,ae]
    refine ⟨hjt,l',rfl,hl',fun a ha => ?_⟩
    rw [hk' a ha]
    by_cases e:a=j
    ·subst e;rw [if_neg (fun h=>hq h.2),if_neg (fun h=>hq h.2)]
    ·by_cases hlt:a<j
     ·by_cases hqa:l.getD a 0=frm
      ·rw [if_pos ⟨hlt,hqa⟩,if_pos ⟨by omega,hqa⟩]
      ·rw [if_neg (fun h=>hqa h.2),if_neg (fun h=>hqa h.2)]
     ·rw [if_neg (fun h=>hlt h.1),if_neg (fun h=>by omega)]
  ·have:j=c.P.length:=by omega
   subst this
   simp (disch:=omega) [f1,f5,f7,f10,f11,f35,f36,f37,f57,f58,ae]
   refine ⟨ht,l',rfl,hl',fun a b ha hb => ?_⟩
   rw [hk' a ha,hk' b hb,←q1 a b ha hb]
   have e1:(a<c.P.length/\l.getD a 0=frm)↔l.getD a 0=frm:=⟨fun h=>h.2,fun h=>⟨ha,h⟩⟩
   have e2:(b<c.P.length/\l.getD b 0=frm)↔l.getD b 0=frm:=⟨fun h=>h.2,fun h=>⟨hb,h⟩⟩
   simp only [e1,e2]
 ·have:i=c.S.length:=by omega
  subst this
  rw [Nq] at f7
  have:=hK _ (x1.trans (hxp (.row (bH l) true)))
  rw [if_pos he,he] at this
  simp [f7]
  exact this
theorem vQ (hc:CapV H ws c)(hb:c.S.length<=1000000)(hlim:lim<=H.length)(hK:∀H',HX H H'->K (.tup [.int .i64 (if cF c=0 then fE c else 0),.int .i64 (cF c)]) H'):aF tbl lim 27 [.agg ws] H K:=by
 obtain ⟨pv,sv,ps,rfl,hp,hs,z1,z2,z3,z4⟩:=hc.form
 refine ao tbl_at27 rfl ?_
 simp [vf27,z1,z2,z3,z4,bh]
 refine qx hc hb hlim fun H1 x1 => ?_
 replace x1:HX H H1:=x1
 by_cases he:cF c=0
 case neg =>
  have:=hK H1 x1
  rw [if_neg he] at this
  simp [he]
  exact this
 have l1:=x1.len
 have hok:=cX.1 he
 simp [he,bh,z1,z2,z3,z4]
 refine qW (hc.mono x1) hb (by omega) fun H2 x2 => ?_
 replace x2:HX H1 H2:=x2
 have l2:=x2.len
 simp [he,bh,z1,z2,z3,z4]
 refine kh (hc.mono (x1.trans x2)) hok (by omega) fun H3 lv x3 ol => ?_
 replace x3:HX H2 H3:=x3
 have l3:=x3.len
 simp [ol.lst.stor]
 refine qI hok (by omega) ol.lst fun H4 v x4 hv => ?_
 replace x4:HX H3 H4:=x4
 obtain ⟨us,o1,o2,o3⟩:=hv.ex
 have hvl:bD v=some (.int .i64 (eJ c).length):=by rw [o1.lst.len,o2,List.length_map]
 have b1:=uZ (c:=c)
 have b2:=hok.ns
 have b3:=IZ hok
 have b4:=hok.np
 have b5:=D7 (c:=c)
 have b6:=DQ (c:=c)
 have e1:iL c=((cI c).length:Int)-((nsN c.P:Int)-(c.S.length:Int))+(c.P.length:Int):=rfl
 have e2:(2*(dE c:Int)-iL c-((eJ c).length:Int)).tdiv 2=fE c:=rfl
 obtain ⟨g,g1,g2,_⟩:=rW hok
 have hw:IntKind.wrap .i64 (fE c)=fE c:=ae (by omega) (by omega)
 have:=hK H4 (((x1.trans x2).trans x3).trans x4)
 rw [if_pos he,he] at this
 simp (disch:=omega) [hvl,ae,e2,hw]
 exact this
end
structure OPcsV (n:Nat)(H:Hp)(v:V)(ps:List (V×V))(pcs:List Pc):Prop where
 own:OwnT n pvC H v ps
 len:ps.length=pcs.length
 at':∀i,i<pcs.length->OwnV n H (ps.getD i default).1 (pcs.getD i default).s/\OwnV n H (ps.getD i default).2 (pcs.getD i default).a
 ap:∀i,i<pcs.length->∀b o z y o' z' y',v=.sl b o z y->((ps.getD i default).1=.sl b o' z' y'\/(ps.getD i default).2=.sl b o' z' y')->False
inductive OCapV (n:Nat)(H:Hp):List V->Cp->Prop
 | mk {pv sv:V} {ps:List (V×V)} {P:List Pc} {S:List Sm} {e:Int}:OPcsV n H pv ps P->OwnT n smC H sv S->(∀b o z y o' z' y',pv=.sl b o z y->sv=.sl b o' z' y'->False)->(∀i,i<P.length->∀b o z y o' z' y',sv=.sl b o z y->((ps.getD i default).1=.sl b o' z' y'\/(ps.getD i default).2=.sl b o' z' y')->False)->OCapV n H [pv,sv,.int .i64 e] ⟨P,S,e⟩
section
variable {n lim:Nat}{H H' H1:Hp}{K:V->Hp->Prop}{v pv sv a b:V}{ps:List (V×V)}{pcs P:List Pc}{S:List Sm}{e:Int}{ws:List V}{c d:Cp}
theorem OPcsV.pcsV (h:OPcsV n H v ps pcs):PcsV H v ps pcs:=⟨h.own.lst,h.len,fun i hi=>⟨(h.at' i hi).1.sl,(h.at' i hi).2.sl⟩⟩
theorem OCapV.cap (h:OCapV n H ws c):CapV H ws c:=by
 cases h with
 | mk h1 h2 _ _=>exact .mk h1.pcsV h2.lst
theorem OPcsV.mono (hx:HX H H')(h:OPcsV n H v ps pcs):OPcsV n H' v ps pcs:=⟨h.own.mono hx,h.len,fun i hi=>⟨(h.at' i hi).1.mono hx,(h.at' i hi).2.mono hx⟩,h.ap⟩
theorem OPcsV.le {m:Nat}(hnm:n<=m)(h:OPcsV m H v ps pcs):OPcsV n H v ps pcs:=⟨h.own.le hnm,h.len,fun i hi=>⟨(h.at' i hi).1.le hnm,(h.at' i hi).2.le hnm⟩,h.ap⟩
theorem OCapV.mono (hx:HX H H')(h:OCapV n H ws c):OCapV n H' ws c:=by
 cases h with
 | mk h1 h2 h3 h4=>exact .mk (h1.mono hx) (h2.mono hx) h3 h4
theorem OCapV.le {m:Nat}(hnm:n<=m)(h:OCapV m H ws c):OCapV n H ws c:=by
 cases h with
 | mk h1 h2 h3 h4=>exact .mk (h1.le hnm) (h2.le hnm) h3 h4
theorem OPcsV.nil:OPcsV n H .snil [] []:=⟨.nil,rfl,fun i hi=>by simp at hi,fun i hi=>by simp at hi⟩
theorem OPcsV.keepB (h:OPcsV n H v ps pcs)(h1:∀b o m z,v=.sl b o m z->H'[b]? = H[b]?)(h2:∀i,i<pcs.length->∀b o m z,((ps.getD i default).1=.sl b o m z\/(ps.getD i default).2=.sl b o m z)->H'[b]? = H[b]?):OPcsV n H' v ps pcs :=
 ⟨h.own.keepB h1,h.len,fun i hi=>⟨(h.at' i hi).1.keepB fun b o m z e=>h2 i hi b o m z (Or.inl e),(h.at' i hi).2.keepB fun b o m z e=>h2 i hi b o m z (Or.inr e)⟩,h.ap⟩
theorem OPcsV.append {p:Pc}(h:OPcsV n H v ps pcs)(hx:HX H H1)(ha:OwnV H.length H1 a p.s)(hb:OwnV H.length H1 b p.a)(hn:lim<=n/\n<=H.length)(hl:pcs.length<1000000) :
 ∃v' H2,aP lim 2 48 (H1++[.row [a,b] true]) v (.sl H1.length 0 1 2)=some (v',H2)/\OPcsV n H2 v' (ps++[(a,b)]) (pcs++[p])/\(∀H0,HX H0 H1->H0.length<=n->HX H0 H2)/\H1.length<=H2.length/\(∀b',b'<H1.length->(∀o z y,v≠.sl b' o z y)->H2[b']? = H1[b']?)/\∀b o z y,v'=.sl b o z y->H1.length<=b:=by
 have h1:=h.mono hx
 have hlen:=hx.len
 obtain ⟨v',H2,a1,a2,a3,a4,a5,a6⟩:=h1.own.appendF2 (lim:=lim) (bytes:=48) (x:=(a,b)) (cs:=[a,b]) rfl ⟨hn.1,by omega⟩ (by omega) (by rw [h.len];exact hl)
 have old:∀b' o z y,v=.sl b' o z y->b'<H.length:=fun b' o z y e=>(h.own.belowB _ _ _ _ e).2
 refine ⟨v',H2,a1,⟨a2,by simp [h.len],fun i hi => ?_,fun i hi b' o z y o' z' y' e e' => ?_⟩,a3,a4,a5,a6⟩
 ·rw [List.length_append,List.length_singleton] at hi
  by_cases hlt:i<pcs.length
  ·rw [bL (l:=ps) (by rw [h.len];exact hlt),bL hlt]
   have:=h1.at' i hlt
   exact ⟨this.1.keepB fun b' o m z e=>a5 b' (this.1.belowB _ _ _ _ e).2 fun o' z' y' e'=>h1.ap i hlt _ _ _ _ _ _ _ e' (Or.inl e),this.2.keepB fun b' o m z e=>a5 b' (this.2.belowB _ _ _ _ e).2 fun o' z' y' e'=>h1.ap i hlt _ _ _ _ _ _ _ e' (Or.inr e)⟩
  ·have:i=pcs.length:=by omega
   subst this
   rw [bO h.len.symm,bO rfl]
   exact ⟨(ha.keepB fun b' o m z e=>a5 b' (ha.belowB _ _ _ _ e).2 fun o' z' y' e'=>by have:=old _ _ _ _ e';have:=(ha.belowB _ _ _ _ e).1;omega).le (by omega),(hb.keepB fun b' o m z e=>a5 b' (hb.belowB _ _ _ _ e).2 fun o' z' y' e'=>by have:=old _ _ _ _ e';have:=(hb.belowB _ _ _ _ e).1;omega).le (by omega)⟩
 ·rw [List.length_append,List.length_singleton] at hi
  have h6:=a6 _ _ _ _ e
  by_cases hlt:i<pcs.length
  ·rw [bL (l:=ps) (by rw [h.len];exact hlt)] at e'
   have:=h1.at' i hlt
   rcases e' with e' | e'
   ·have:=(this.1.belowB _ _ _ _ e').2;omega
   ·have:=(this.2.belowB _ _ _ _ e').2;omega
  ·have:i=pcs.length:=by omega
   subst this
   rw [bO h.len.symm] at e'
   rcases e' with e' | e'
   ·have:=(ha.belowB _ _ _ _ e').2;omega
   ·have:=(hb.belowB _ _ _ _ e').2;omega
def gY (c:Cp):Bool:=decide (30<c.P.length\/60<c.S.length\/∃q,q<c.P.length/\(30<(c.P.getD q default).s.length\/30<(c.P.getD q default).a.length))
structure ShortC (c:Cp):Prop where
 np:c.P.length<=30
 ns:c.S.length<=60
 pc:∀q,q<c.P.length->(c.P.getD q default).s.length<=30/\(c.P.getD q default).a.length<=30
theorem LV (h:gY c=false):ShortC c:=by
 simp only [gY,decide_eq_false_iff_not,not_or,Nat.not_lt] at h
 refine ⟨h.1,h.2.1,fun q hq => ?_⟩
 have h3:=h.2.2
 constructor
 ·apply Nat.le_of_not_lt;intro g;exact h3 ⟨q,hq,Or.inl g⟩
 ·apply Nat.le_of_not_lt;intro g;exact h3 ⟨q,hq,Or.inr g⟩
theorem Ji (hc:CapV H ws c)(hK:K (.bool (gY c)) H):aF tbl lim 5 [.agg ws] H K:=by
 obtain ⟨pv,sv,ps,rfl,hp,hs,z1,z2,z3,z4⟩:=hc.form
 refine ao tbl_at5 rfl ?_
 by_cases h1:30<c.P.length
 ·have e:gY c=true:=by simp only [gY,decide_eq_true_eq];exact Or.inl h1
  have e1:decide (30<(c.P.length:Int))=true:=by simp;omega
  rw [e] at hK
  simp [vf5,z1,z2,z3,z4,rd0,cm,hp.vlen,hs.len,e1]
  exact hK
 have e1:decide (30<(c.P.length:Int))=false:=by simp;omega
 by_cases h2:60<c.S.length
 ·have e:gY c=true:=by simp only [gY,decide_eq_true_eq];exact Or.inr (Or.inl h2)
  have e2:decide (60<(c.S.length:Int))=true:=by simp;omega
  rw [e] at hK
  simp [vf5,z1,z2,z3,z4,rd0,cm,hp.vlen,hs.len,e1,e2]
  exact hK
 have e2:decide (60<(c.S.length:Int))=false:=by simp;omega
 simp [vf5,z1,z2,z3,z4,rd0,cm,hp.vlen,hs.len,e1,e2]
 refine aO c.P.length (fun i fr L H'=>(fr 1=.lp 0 0/\fr 3=.int .i64 i)/\L=[[pv,sv,.int .i64 c.e]]/\H'=H/\∀q,q<i->(c.P.getD q default).s.length<=30/\(c.P.getD q default).a.length<=30) ⟨by simp,rfl,rfl,fun q hq=>by omega⟩ ?_
 rintro i hi fr L H1 ⟨⟨f1,f3⟩,rfl,rfl,hall⟩
 simp [f1,f3,rd0,hp.vlen]
 refine aC (fun ht => ?_) fun hfl => ?_
 ·have ht:i<c.P.length:=by omega
  obtain ⟨s1,s2⟩:=hp.at' i ht
  by_cases g1:30<(c.P.getD i default).s.length
  ·have e:gY c=true:=by simp only [gY,decide_eq_true_eq];exact Or.inr (Or.inr ⟨i,ht,Or.inl g1⟩)
   have e3:decide (30<((c.P.getD i default).s.length:Int))=true:=by simp;omega
   rw [e] at hK
   simp [f1,f3,rd0,hp.at ht,hp.fa ht,hp.ld0 ht,hp.ld1 ht,s1.len,s2.len,e3]
   exact hK
  have e3:decide (30<((c.P.getD i default).s.length:Int))=false:=by simp;omega
  by_cases g2:30<(c.P.getD i default).a.length
  ·have e:gY c=true:=by simp only [gY,decide_eq_true_eq];exact Or.inr (Or.inr ⟨i,ht,Or.inr g2⟩)
   have e4:decide (30<((c.P.getD i default).a.length:Int))=true:=by simp;omega
   rw [e] at hK
   simp [f1,f3,rd0,hp.at ht,hp.fa ht,hp.ld0 ht,hp.ld1 ht,s1.len,s2.len,e3,e4]
   exact hK
  have e4:decide (30<((c.P.getD i default).a.length:Int))=false:=by simp;omega
  simp (disch:=omega) [f1,f3,rd0,hp.at ht,hp.fa ht,hp.ld0 ht,hp.ld1 ht,s1.len,s2.len,e3,e4,ae]
  refine ⟨ht,fun q hq => ?_⟩
  by_cases eq:q=i
  ·subst eq;omega
  ·exact hall q (by omega)
 ·have:i=c.P.length:=by omega
  subst this
  have e:gY c=false:=by
   simp only [gY,decide_eq_false_iff_not,not_or]
   refine ⟨h1,h2,?_⟩
   rintro ⟨q,hq,g | g⟩
   ·have:=(hall q hq).1;omega
   ·have:=(hall q hq).2;omega
  rw [e] at hK
  simp
  exact hK
theorem OCapV.pushS {x:Sm}{cs:List V}(hcs:smC.cells x=cs)(h:OCapV n H [pv,sv,.int .i64 e] ⟨P,S,e⟩)(hn:lim<=n/\n<=H.length)(hl:S.length<1000000) :
 ∃sv' H',aP lim 4 32 (H++[.row cs true]) sv (.sl H.length 0 1 4)=some (sv',H')/\OCapV n H' [pv,sv',.int .i64 e] ⟨P,S++[x],e⟩/\(∀H0,HX H0 H->H0.length<=n->HX H0 H')/\H.length<=H'.length:=by
 cases h with
 | mk h1 h2 h3 h4 =>
 rename_i ps
 obtain ⟨v',H',a1,a2,a3,a4,a5,a6⟩:=h2.appendF2 (lim:=lim) (bytes:=32) hcs hn (by omega) hl
 refine ⟨v',H',a1,.mk (ps:=ps) (h1.keepB (fun b o m z e=>a5 b (h1.own.belowB _ _ _ _ e).2 fun o' z' y' e'=>h3 _ _ _ _ _ _ _ e e') fun i hi b o m z e=>a5 b ?_ fun o' z' y' e'=>h4 i hi _ _ _ _ _ _ _ e' e) a2 (fun b o z y o' z' y' e e' => ?_) fun i hi b o z y o' z' y' e e' => ?_,a3,a4⟩
 ·rcases e with e | e
  ·exact ((h1.at' i hi).1.belowB _ _ _ _ e).2
  ·exact ((h1.at' i hi).2.belowB _ _ _ _ e).2
 ·have:=(h1.own.belowB _ _ _ _ e).2
  have:=a6 _ _ _ _ e'
  omega
 ·have h6:=a6 _ _ _ _ e
  rcases e' with e' | e'
  ·have:=((h1.at' i hi).1.belowB _ _ _ _ e').2;omega
  ·have:=((h1.at' i hi).2.belowB _ _ _ _ e').2;omega
theorem OCapV.pushP {p:Pc}(h:OCapV n H [pv,sv,.int .i64 e] ⟨P,S,e⟩)(hx:HX H H1)(ha:OwnV H.length H1 a p.s)(hb:OwnV H.length H1 b p.a)(hn:lim<=n/\n<=H.length)(hl:P.length<1000000) :
 ∃pv' H2,aP lim 2 48 (H1++[.row [a,b] true]) pv (.sl H1.length 0 1 2)=some (pv',H2)/\OCapV n H2 [pv',sv,.int .i64 e] ⟨P++[p],S,e⟩/\(∀H0,HX H0 H1->H0.length<=n->HX H0 H2)/\H1.length<=H2.length:=by
 cases h with
 | mk h1 h2 h3 h4 =>
 rename_i ps
 have hlen:=hx.len
 obtain ⟨v',H2,a1,a2,a3,a4,a5,a6⟩:=h1.append hx ha hb hn hl
 have hs:=fun b o z y (e:sv=.sl b o z y)=>h2.belowB b o z y e
 refine ⟨v',H2,a1,.mk a2 (((h2.mono hx).keepB fun b o m z e=>a5 b (by have:=(hs _ _ _ _ e).2;omega) fun o' z' y' e'=>h3 _ _ _ _ _ _ _ e' e)) (fun b o z y o' z' y' e e' => ?_) fun i hi b' o z y o' z' y' e e' => ?_,a3,a4⟩
 ·have:=(hs _ _ _ _ e').2
  have:=a6 _ _ _ _ e
  omega
 ·have h6:=(hs _ _ _ _ e).2
  rw [List.length_append,List.length_singleton] at hi
  by_cases hlt:i<P.length
  ·rw [bL (l:=ps) (by rw [h1.len];exact hlt)] at e'
   exact h4 i hlt _ _ _ _ _ _ _ e e'
  ·have:i=P.length:=by omega
   subst this
   rw [bO h1.len.symm] at e'
   rcases e' with e' | e'
   ·have:=(ha.belowB _ _ _ _ e').1;omega
   ·have:=(hb.belowB _ _ _ _ e').1;omega
theorem OCapV.vals (h:OCapV n H [pv,sv,.int .i64 e] ⟨P,S,e⟩):stor pv=true/\aJ pv=[pv]/\stor sv=true/\aJ sv=[sv]:=by
 cases h with
 | mk h1 h2 _ _=>exact ⟨h1.own.lst.stor,h1.own.lst.one,h2.lst.stor,h2.lst.one⟩
theorem lH {P:List Pc}{i:Nat}(hi:i<P.length):P.take (i+1)=P.take i++[P.getD i default]:=by
 rw [List.take_add_one,List.getElem?_eq_getElem hi,List.getD_eq_getElem?_getD,List.getElem?_eq_getElem hi];rfl
end
structure CapA (H:Hp)(ws:List V)(c:Cp):Prop where
 cap:CapV H ws c
theorem yn {H:Hp}:∀{ps:List (V×V)},(∀p∈ps,∃c:Pc,SlV H p.1 c.s/\SlV H p.2 c.a)->∃pcs:List Pc,ps.length=pcs.length/\∀i,i<pcs.length->SlV H (ps.getD i default).1 (pcs.getD i default).s/\SlV H (ps.getD i default).2 (pcs.getD i default).a
 | [],_=>⟨[],rfl,fun i hi=>by simp at hi⟩
 | p :: ps,h=>by
   obtain ⟨c,h1,h2⟩:=h p (by simp)
   obtain ⟨pcs,h3,h4⟩:=yn (ps:=ps) fun q hq=>h q (List.mem_cons_of_mem _ hq)
   refine ⟨c :: pcs,by simp [h3],fun i hi => ?_⟩
   cases i with
   | zero=>exact ⟨h1,h2⟩
   | succ i=>exact h4 i (by simpa using hi)
theorem Qe {H:Hp}{ws:List V}{ds:List CD}(h:RepTs H [.sl [qw,qw],.sl [cZ,cZ,cZ,cZ],cZ] ws ds):∃c,CapA H ws c:=by
 obtain ⟨v0,u0,_,_,rfl,_,p0,q0⟩:=bZ h
 obtain ⟨v1,u1,_,_,rfl,_,p1,q1⟩:=bZ q0
 obtain ⟨v2,u2,_,_,rfl,_,p2,q2⟩:=bZ q1
 have e:=mu q2
 subst e
 obtain ⟨n,rfl,_⟩:=eC p2
 obtain ⟨l1,h1,hl,hall⟩:=z8 (c:=pvC) rfl (fun z=>∃c:Pc,SlV H z.1 c.s/\SlV H z.2 c.a) (fun vs ds h=>by
  obtain ⟨v0,u0,_,_,rfl,_,p0,q0⟩:=bZ h
  obtain ⟨v1,u1,_,_,rfl,_,p1,q1⟩:=bZ q0
  have e:=mu q1
  subst e
  obtain ⟨l0,g0,_,_⟩:=Ds p0
  obtain ⟨l1,g1,_,_⟩:=Ds p1
  exact ⟨(v0,v1),rfl,⟨l0,l1⟩,g0,g1⟩) p0
 obtain ⟨l2,h2,_,_⟩:=z8 (c:=smC) rfl (fun z=>True) (fun vs ds h=>by
  obtain ⟨v0,u0,_,_,rfl,_,p0,q0⟩:=bZ h
  obtain ⟨v1,u1,_,_,rfl,_,p1,q1⟩:=bZ q0
  obtain ⟨v2,u2,_,_,rfl,_,p2,q2⟩:=bZ q1
  obtain ⟨v3,u3,_,_,rfl,_,p3,q3⟩:=bZ q2
  have e:=mu q3
  subst e
  obtain ⟨n0,rfl,c0⟩:=eC p0
  obtain ⟨n1,rfl,c1⟩:=eC p1
  obtain ⟨n2,rfl,c2⟩:=eC p2
  obtain ⟨n3,rfl,c3⟩:=eC p3
  exact ⟨⟨n0,n1,n2,n3⟩,rfl,trivial⟩) p1
 obtain ⟨pcs,g1,g2⟩:=yn hall
 exact ⟨⟨pcs,l2,n⟩,⟨.mk ⟨h1,g1,g2⟩ h2⟩⟩
section
variable {n lim:Nat}{H H' H1:Hp}{K:V->Hp->Prop}{ws:List V}{c:Cp}{b x:Nat}{el:List Bool}{il:List Int}{own:Bool}
noncomputable def ptQ (c:Cp):List (List Nat):=(cI c).map (·.cs)
theorem K6 (hok:CapOk c):((ptQ c).flatten).Perm (List.range (nsN c.P)):=by
 have:=nA hok.ptE (Reps.mins (N:=nsN c.P) hok.ptE)
 rw [ptQ,cI,List.map_map]
 exact this
theorem count_one (hok:CapOk c){k:Nat}(hk:k<nsN c.P):(ptQ c).flatten.count k=1:=by
 rw [(K6 hok).count_eq]
 rw [List.Nodup.count List.nodup_range,if_pos (List.mem_range.2 hk)]
end
def CY:Cp:=⟨[],[],0⟩
def Af (c:Cp)(s:Sm):Cp:=⟨c.P,c.S++[s],c.e⟩
def Mz (c:Cp)(i:Nat):Cp:=⟨c.P,c.S.take i++c.S.drop (i+1),c.e⟩
def sr (c:Cp)(i:Int):Int:=if cF c≠0 then cF c else if 0<=i/\i<c.S.length then 0 else 5
section
variable {n lim:Nat}{H H' H1:Hp}{K:V->Hp->Prop}{v pv sv a b:V}{ps:List (V×V)}{P:List Pc}{S:List Sm}{e:Int}{ws:List V}{c d:Cp}
theorem zA {m:Nat}{H:Hp}:OCapV m H [.snil,.snil,.int .i64 0] CY:=.mk OPcsV.nil .nil (fun b o z y o' z' y' e _=>by cases e) fun i hi=>by simp at hi
theorem Q7 {y:V}{l:List Int}(hy:SlV H y l)(hlim:lim<=H.length)(hl:l.length<=1000):∃v' H',aP lim 1 8 (H++[.row [] true]) (.sl H.length 0 0 1) y=some (v',H')/\OwnV H.length H' v' l/\HX H H':=by
 have hy2:=hy.mono (H':=H++[.row [] true]) HX.push
 refine ⟨.sl (H.length+1) 0 l.length 1,(H++[Blk.row [] true]).set H.length .dead++[.row (bH l) true],?_,.row (by omega) ?_,?_⟩
 ·simp [aP,hy2.cells,hy2.len,hlim,show l.length*8<=140737488355328 by omega,show l.length<4611686018427387904 by omega]
 ·have:H.length+1=((H++[Blk.row [] true]).set H.length .dead).length:=by simp
  rw [this];exact List.getElem?_concat_length
 ·refine HX.of (by simp<;>omega) fun i hi => ?_
  rw [List.getElem?_append_left (by simp;omega),List.getElem?_set_ne (by omega),List.getElem?_append_left hi]
theorem P7 {α:Type}{k:Nat}{c:Cod α k}{y:V}{l:List α}{bytes:Nat}(hy:LstV c H y l)(hlim:lim<=H.length)(hl:l.length<=1000)(hb:bytes<=1000):∃v' H',aP lim k bytes (H++[.row [] true]) (.sl H.length 0 0 k) y=some (v',H')/\OwnT H.length c H' v' l/\HX H H':=by
 have hy2:=hy.mono (H':=H++[.row [] true]) HX.push
 have hm:l.length*bytes<=1000*1000:=Nat.mul_le_mul hl hb
 refine ⟨.sl (H.length+1) 0 l.length k,(H++[Blk.row [] true]).set H.length .dead++[.row (c.all l) true],?_,.row (by omega) ?_,?_⟩
 ·simp [aP,hy2.cells,hy2.len,hlim,show l.length*bytes<=140737488355328 by omega,show l.length<4611686018427387904 by omega]
 ·have:H.length+1=((H++[Blk.row [] true]).set H.length .dead).length:=by simp
  rw [this];exact List.getElem?_concat_length
 ·refine HX.of (by simp<;>omega) fun i hi => ?_
  rw [List.getElem?_append_left (by simp;omega),List.getElem?_set_ne (by omega),List.getElem?_append_left hi]
theorem ji {l:List Int}(hv:SlV H v l)(hlim:lim<=H.length)(hl:l.length<=1000)(hK:∀H' v',HX H H'->OwnV H.length H' v' l->K v' H'):aF tbl lim 68 [v] H K:=by
 refine ao tbl_at68 rfl ?_
 obtain ⟨v',H',a1,a2,a3⟩:=Q7 (lim:=lim) hv hlim hl
 cases hv with
 | nil =>
   simp [vf68]
   exact hK _ _ .refl .nil
 | empty =>
   simp [vf68,a1,a2.sl.stor]
   exact hK _ _ a3 a2
 | sl h1 h2 h3 =>
   simp [vf68,a1,a2.sl.stor]
   exact hK _ _ a3 a2
theorem tO {l:List Sm}(hv:LstV smC H v l)(hlim:lim<=H.length)(hl:l.length<=1000)(hK:∀H' v',HX H H'->OwnT H.length smC H' v' l->K v' H'):aF tbl lim 67 [v] H K:=by
 refine ao tbl_at67 rfl ?_
 obtain ⟨v',H',a1,a2,a3⟩:=P7 (lim:=lim) (bytes:=32) hv hlim hl (by omega)
 cases hv with
 | nil =>
   simp [vf67]
   exact hK _ _ .refl .nil
 | empty =>
   simp [vf67,a1,a2.lst.stor]
   exact hK _ _ a3 a2
 | sl h1 h2 h3 =>
   simp [vf67,a1,a2.lst.stor]
   exact hK _ _ a3 a2
theorem qP (hc:CapV H ws c)(hsh:ShortC c)(hlim:lim<=H.length)(hK:∀H' ws',HX H H'->OCapV H.length H' ws' c->K (.agg ws') H'):aF tbl lim 50 [.agg ws] H K:=by
 obtain ⟨pv,sv,ps,rfl,hp,hs,z1,z2,z3,z4⟩:=hc.form
 have s1:=hsh.np
 have s2:=hsh.ns
 refine ao tbl_at50 rfl ?_
 simp [vf50,z1,z2,z3,z4,rd0,cm,gW]
 refine tO hs (by omega) (by omega) fun H1 sv1 x1 o1 => ?_
 replace x1:HX H H1:=x1
 have l1:=x1.len
 simp [rd0,cm,gW,z1,z2,o1.lst.stor,o1.lst.one,al,hp.vlen]
 refine aO c.P.length (fun i fr L H'=>∃v X,(fr 1=.lp 0 0/\fr 2=.lp 1 0/\fr 3=.lp 2 0/\fr 13=pv/\fr 14=.int .i64 c.P.length/\fr 15=.int .i64 i)/\L=[pv,sv,.int .i64 c.e] :: [.snil,.snil,.int .i64 0] :: [v,sv1,.int .i64 c.e] :: X/\HX H H'/\OCapV H.length H' [v,sv1,.int .i64 c.e] ⟨c.P.take i,c.S,c.e⟩) ⟨.snil,[],by simp,by simp,x1,.mk OPcsV.nil o1 (fun b o z y o' z' y' e _=>by cases e) fun i hi=>by simp at hi⟩ ?_
 rintro i hi fr L H2 ⟨v,X,⟨f1,f2,f3,f13,f14,f15⟩,rfl,x2,hO⟩
 have l2:=x2.len
 simp [f1,f2,f3,f13,f14,f15]
 refine aC (fun ht => ?_) fun hfl => ?_
 ·have ht:i<c.P.length:=by omega
  have hp1:=hp.mono x2
  obtain ⟨t1,t2⟩:=hp1.at' i ht
  obtain ⟨b1,b2⟩:=hsh.pc i ht
  simp [f1,f2,f3,f13,f14,f15,rd0,cm,hp1.at ht,hp1.ld2 ht,t1.stor,t1.one,t2.stor,t2.one,al,ft,gy]
  refine ji t1 (by omega) (by omega) fun H3 a' x3 oa => ?_
  replace x3:HX H2 H3:=x3
  have l3:=x3.len
  simp [f1,f2,f3,f13,f14,f15,rd0,cm,t2.stor,ft]
  refine ji (t2.mono x3) (by omega) (by omega) fun H4 b' x4 ob => ?_
  replace x4:HX H3 H4:=x4
  obtain ⟨pv',H5,c1,c2,c3,c4⟩:=hO.pushP (lim:=lim) (x3.trans x4) (oa.mono x4) (ob.le l3) ⟨by omega,l2⟩ (by rw [List.length_take];omega)
  obtain ⟨y1,y2,_,_⟩:=c2.vals
  simp (disch:=omega) [f1,f2,f3,f13,f14,f15,oa.sl.one,ob.sl.one,oa.sl.stor,ob.sl.stor,al,c1,y1,y2,ae]
  exact ⟨ht,c3 _ ((x2.trans x3).trans x4) (Nat.le_refl _),by rw [lH ht];exact c2⟩
 ·have:i=c.P.length:=by omega
  subst this
  rw [List.take_length] at hO
  obtain ⟨y1,y2,y3,y4⟩:=hO.vals
  simp [f1,f2,f3,f13,f14,f15,bh,al,y1,y2,y3,y4]
  exact hK _ _ x2 hO
theorem It {s:Sm}(hc:CapV H ws c)(hsh:ShortC c)(hlim:lim<=H.length)(hK:∀H' ws',HX H H'->OCapV H.length H' ws' (if cF (Af c s)=0 then Af c s else CY)->K (.tup [.agg ws',.int .i64 (cF (Af c s))]) H'):aF tbl lim 30 [.agg ws,.agg (smC.cells s)] H K:=by
 obtain ⟨pv,sv,ps,rfl,hp,hs,z1,z2,z3,z4⟩:=hc.form
 have s1:=hsh.np
 have s2:=hsh.ns
 have ec:smC.cells s=[.int .i64 s.A,.int .i64 s.I,.int .i64 s.B,.int .i64 s.J]:=rfl
 refine ao tbl_at30 rfl ?_
 simp [vf30,z1,z2,z3,z4,bh,ec]
 refine qP hc hsh (by omega) fun H1 ws1 x1 o1 => ?_
 replace x1:HX H H1:=x1
 have l1:=x1.len
 obtain ⟨pv1,sv1,ps1,rfl,hp1,hs1,q1,q2,q3,q4⟩:=o1.cap.form
 obtain ⟨sv2,H2,c1,c2,c3,c4⟩:=o1.pushS (lim:=lim) ec ⟨by omega,l1⟩ (by omega)
 obtain ⟨_,_,y3,y4⟩:=c2.vals
 have x2:=c3 H x1 (Nat.le_refl _)
 have l2:=x2.len
 simp [q1,q2,q3,q4,rd0,cm,bh,RG,al,zs4,c1,y3,y4]
 refine ce (c:=Af c s) c2.cap (by simp [Af];omega) (by omega) fun H3 x3 => ?_
 replace x3:HX H2 H3:=x3
 have hres:=hK H3
 by_cases he:cF (Af c s)=0
 ·have:=hres _ (x2.trans x3) (by rw [if_pos he];exact c2.mono x3)
  rw [he] at this
  simp [he,bh,q1,q2,y3,y4,al]
  exact this
 ·have:=hres [.snil,.snil,.int .i64 0] (x2.trans x3) (by rw [if_neg he];exact zA)
  simp [he,bh,al]
  exact this
end
end Go.Proofs.YtgjlhdggllakbaaGreatDoor.Vm
namespace Go.Proofs.YtgjlhdggllakbaaGreatDoor.Vm
attribute [-simp] List.getD_eq_getElem?_getD
section
variable {c:Cp}
theorem O6 (h:CapOk c):((cI c).map (·.ang)).sum=180*(nsN c.P:Int)-360*(c.P.length:Int):=by
 have ha:((cB (PtR c) (nsN c.P)).map fun k=>((fK (PtR c) (nsN c.P) k).map (anN c.P)).sum).sum=180*(nsN c.P:Int)-360*(c.P.length:Int):=by
  rw [←DU (pcs:=c.P) (fun q hq=>⟨(co (h.pc q hq)).2.1,(co (h.pc q hq)).2.2.2⟩),←mL ((nA h.ptE (Reps.mins (N:=nsN c.P) h.ptE)).map (anN c.P)),pY,List.map_map]
  rfl
 rw [←ha,cI,List.map_map];rfl
theorem CapOk.s24 (h:CapOk c):c.S.length<=24:=by
 have h1:=ja h.sm_ok
 have h2:=h.ns
 rw [nK] at h1
 omega
def gi (P:List Pc):Nat->Int
 | 0=>0
 | i+1=>gi P i+180*((ksN P i:Int)-2)
theorem zz {P:List Pc}:∀{i:Nat},gi P i=180*(aZ P i:Int)-360*(i:Int)
 | 0=>by simp [gi,aZ]
 | i+1=>by
   have:aZ P (i+1)=aZ P i+ksN P i:=rfl
   rw [gi,zz,this]
   omega
theorem IV {P:List Pc}:gi P P.length=180*(nsN P:Int)-360*(P.length:Int):=zz
theorem tI {P:List Pc} {e:Int} {pre pre':List Sm} {s:Sm} (h:cN P e pre s=0) (hs:∀t∈pre',t∈pre):cN P e pre' s=0:=by
 unfold cN at h ⊢
 split at h
 ·cases h
 ·rename_i h1
  rw [if_neg h1]
  split at h
  ·cases h
  ·rename_i h2
   have h2':¬((decide (s.A=s.B)&&decide (s.I=s.J))||pre'.any (fun t=>db t s.A s.I||db t s.B s.J))=true:=by
    intro hh
    apply h2
    rw [Bool.or_eq_true] at hh ⊢
    rcases hh with hh | hh
    ·exact Or.inl hh
    ·right
     rw [List.any_eq_true] at hh ⊢
     obtain ⟨t,ht,hu⟩:=hh
     exact ⟨t,hs t ht,hu⟩
   rw [if_neg h2']
   exact h
theorem Rb (h:CapOk c){i:Nat}(hi:i<c.S.length):CapOk (Mz c i):=by
 obtain ⟨h1,h2,h3,h4⟩:=h
 refine ⟨h1,h2,h3,fun t ht => ?_⟩
 have hl:(Mz c i).S.length=c.S.length-1:=by
  simp [Mz];omega
 rw [hl] at ht
 have hmi:min i c.S.length=i:=by omega
 show cN c.P c.e ((c.S.take i++c.S.drop (i+1)).take t) ((c.S.take i++c.S.drop (i+1)).getD t default)=0
 by_cases hti:t<i
 ·have e1:(c.S.take i++c.S.drop (i+1)).getD t default=c.S.getD t default:=by
   simp only [List.getD_eq_getElem?_getD]
   rw [List.getElem?_append_left (by simp;omega),List.getElem?_take,if_pos hti]
  rw [e1]
  refine tI (h4 t (by omega)) fun x hx => ?_
  rw [List.take_append_of_le_length (by simp;omega),List.take_take,Nat.min_eq_left (by omega)] at hx
  exact hx
 ·have e1:(c.S.take i++c.S.drop (i+1)).getD t default=c.S.getD (t+1) default:=by
   simp only [List.getD_eq_getElem?_getD]
   rw [List.getElem?_append_right (by simp;omega),List.getElem?_drop]
   congr 2
   simp;omega
  rw [e1]
  refine tI (h4 (t+1) (by omega)) fun x hx => ?_
  have hx:=List.mem_of_mem_take hx |> fun _=>hx
  rw [List.take_append] at hx
  rcases List.mem_append.1 hx with hx | hx
  ·have:=List.mem_of_mem_take hx
   obtain ⟨k,hk,rfl⟩:=List.mem_iff_getElem.1 this
   simp at hk
   rw [List.getElem_take]
   exact List.mem_iff_getElem.2 ⟨k,by simp;omega,by simp⟩
  ·obtain ⟨k,hk,rfl⟩:=List.mem_iff_getElem.1 hx
   simp at hk
   rw [List.getElem_take,List.getElem_drop]
   exact List.mem_iff_getElem.2 ⟨i+1+k,by simp;omega,by simp⟩
theorem pX (h:CapOk c):c.P.length<=30/\c.S.length<=60/\∀q,q<c.P.length->(c.P.getD q default).s.length<=30/\(c.P.getD q default).a.length<=30:=by
 have h1:=h.np
 have h2:=h.s24
 refine ⟨by omega,by omega,fun q hq => ?_⟩
 obtain ⟨a,b,_⟩:=co (h.pc q hq)
 omega
end
end Go.Proofs.YtgjlhdggllakbaaGreatDoor.Vm
namespace Go.Proofs.YtgjlhdggllakbaaGreatDoor.Vm
open Go
set_option maxRecDepth 100000
set_option maxHeartbeats 1000000
attribute [-simp] List.getD_eq_getElem?_getD
section
variable {n lim:Nat}{H H' H1:Hp}{K:V->Hp->Prop}{v pv sv a b u:V}{ps:List (V×V)}{P:List Pc}{S:List Sm}{e:Int}{ws:List V}{c d:Cp}
theorem RR {α:Type} {k:Nat} {c:Cod α k} {l:List α} {i bytes:Nat} {zero:List V} (ho:OwnT n c H u l) (hi:i<l.length) (hl:l.length≤1000) (hlim:lim≤n) (hz:zero.length=k) :
 ∃ q x y v' H' z H'',sT k u (some (.int .i64 (i:Int))) (some (.int .i64 ((i:Int)+1))) (.int .i64 (l.length:Int))=some q∧iE k u none (some (.int .i64 (i:Int)))=some x∧iE k u (some (.int .i64 ((i:Int)+1))) none=some y∧mH false lim k bytes H x y=some (v',H')∧bD v'=some (.int .i64 ((l.length:Int)-1)) ∧
   iE k v' (some (.int .i64 ((l.length:Int)-1))) (some (.int .i64 (l.length:Int)))=some z/\wj lim k zero H' z=some H''/\stor v'=true/\LstV c H'' (iP v') (l.take i++l.drop (i+1))/\H''.length=H.length/\∀b,(∀o z y,u≠.sl b o z y)->H''[b]? = H[b]? := by
 obtain ⟨b,rfl,hb1,h2⟩:=ho.row_of (by omega)
 have hb:b<H.length:=(List.getElem?_eq_some_iff.1 h2).1
 have hne:¬i=l.length:=by omega
 have hall:(c.all l).length=l.length*k:=Cod.all_len
 have htk:(c.all l).take (i*k)=c.all (l.take i):=Cod.all_take
 have hdr:(c.all l).drop ((i+1)*k)=c.all (l.drop (i+1)):=Cod.all_drop
 have htl:(l.take i++l.drop (i+1)).length=l.length-1:=by simp;omega
 have hm1:(l.length-1)*k+k=l.length*k:=by
  rw [←Nat.succ_mul];congr 1;omega
 have b0:bT l.length (some (.int .i64 (i:Int))) (some (.int .i64 ((i:Int)+1)))=some (i,i+1):=by
  simp [bT,eK];omega
 have b1:bT l.length none (some (.int .i64 (i:Int)))=some (0,i):=CN (k:=.i64) (by omega)
 have b2:bT l.length (some (.int .i64 ((i:Int)+1))) none=some (i+1,l.length):=qO (k:=.i64) (n:=i+1) (by omega)
 have b3:bT l.length (some (.int .i64 ((l.length:Int)-1))) (some (.int .i64 (l.length:Int)))=some (l.length-1,l.length):=by
  simp [bT,eK];omega
 have q0:∃q,sT k (.sl b 0 l.length k) (some (.int .i64 (i:Int))) (some (.int .i64 ((i:Int)+1))) (.int .i64 (l.length:Int))=some q:=by
  simp only [sT,eK,Int.toNat_natCast,b0]
  rw [if_pos ⟨trivial,by omega,by omega⟩]
  split
  ·exact ⟨_,rfl⟩
  ·split<;>exact ⟨_,rfl⟩
 obtain ⟨q,hq⟩:=q0
 have hx:iE k (.sl b 0 l.length k) none (some (.int .i64 (i:Int)))=some (.slc b 0 i k l.length):=by simp [iE,b1,fP,hne]
 have hlast:iE k (.slc b 0 (l.length-1) k l.length) (some (.int .i64 ((l.length:Int)-1))) (some (.int .i64 (l.length:Int)))=some (.sl b ((l.length-1)*k) 1 k):=by
  simp only [iE,if_true,b3]
  by_cases h1:l.length-1=0
  ·have h3:l.length=1:=by omega
   simp [h3,fP]
  ·have h3:¬l.length-1=l.length:=by omega
   have h4:l.length-(l.length-1)=1:=by omega
   simp only [h1,h3,h4,if_false,Nat.zero_add,fP,if_true]
 have fin:∀(H':Hp) (cs:List V),H'.length=H.length->(∀b',b'≠b->H'[b']? = H[b']?)->H'[b]? = some (.row cs true)->cs.length=l.length*k->cs.take ((l.length-1)*k)=c.all (l.take i++l.drop (i+1)) ->
  ∃H'',wj lim k zero H' (.sl b ((l.length-1)*k) 1 k)=some H''/\LstV c H'' (.sl b 0 (l.length-1) k) (l.take i++l.drop (i+1))/\H''.length=H.length/\∀b',(∀o z y,V.sl b 0 l.length k≠.sl b' o z y)->H''[b']? = H[b']? := by
  intro H' cs hl' ho' hr hcl hct
  have hrow:cE 1 zero=zero:=by simp [cE]
  have hst:bW lim H' b ((l.length-1)*k) zero=some (H'.set b (.row (al cs ((l.length-1)*k) zero) true)):=by
   simp only [bW,show lim<=b by omega,if_true,hr]
   rw [if_pos (by rw [hz];omega)]
  refine ⟨H'.set b (.row (al cs ((l.length-1)*k) zero) true),?_,?_,by simpa using hl',fun b' hb' => ?_⟩
  ·simp only [wj,hz,and_self,if_true,hrow]
   rw [if_neg (by omega)];exact hst
  ·rw [←htl]
   refine .sl (own:=true) (cs:=al cs ((l.length-1)*k) zero) (by rw [List.getElem?_set_self (by omega),htl]) ?_ ?_
   ·rw [htl]
    have:(al cs ((l.length-1)*k) zero).length=l.length*k:=by
     simp only [al,List.length_append,List.length_take,List.length_drop,hz,hcl];omega
    omega
   ·rw [htl,List.drop_zero,←hct]
    simp only [al,List.append_assoc]
    rw [List.take_append_of_le_length (by rw [List.length_take];omega),List.take_take,Nat.min_self]
  ·rw [List.getElem?_set_ne (fun e=>hb' 0 l.length k (by rw [e]))]
   exact ho' b' fun e=>hb' 0 l.length k (by rw [e])
 by_cases e:i+1=l.length
 ·have hd:l.drop (i+1)=[]:=by rw [e];exact List.drop_length
  have hi1:i=l.length-1:=by omega
  obtain ⟨H'',f1,f2,f3,f4⟩:=fin H (c.all l) rfl (fun _ _=>rfl) h2 hall (by rw [hd,List.append_nil,←hi1,htk])
  refine ⟨q,_,.sempty,.slc b 0 (l.length-1) k l.length,H,_,H'',hq,hx,?_,?_,?_,hlast,f1,rfl,f2,f3,f4⟩
  ·have hw0:¬l=[]:=fun h=>by rw [h] at hi;simp at hi
   simp [iE,b2,e,hw0]
  ·have hk:dD k H .sempty=some []:=Eq.trans rfl rfl
   have hle:i<=l.length:=by omega
   have hmk:fP b 0 i k l.length=.slc b 0 (l.length-1) k l.length:=by rw [fP,if_neg hne,hi1]
   simp only [mH,hk,bD]
   rw [if_pos ⟨trivial,by simp only [Int.toNat_zero];omega⟩]
   simp [hmk]
  ·simp only [bD];rw [show ((l.length-1:Nat):Int)=(l.length:Int)-1 by omega]
 ·have hdl:(l.drop (i+1)).length=l.length-(i+1):=List.length_drop
  have hsl:LstV c H (.sl b (0+(i+1)*k) (l.drop (i+1)).length k) (l.drop (i+1)):=by
   have hmm:(i+1)*k+(l.length-(i+1))*k=l.length*k:=by rw [←Nat.add_mul];congr 1;omega
   refine .sl h2 (by rw [hall,hdl];omega) ?_
   rw [Nat.zero_add,hdr,List.take_of_length_le (by rw [Cod.all_len];omega)]
  have hmi:i*k+(l.length-(i+1))*k=(l.length-1)*k:=by rw [←Nat.add_mul];congr 1;omega
  have hst:bW lim H b (0+i*k) (c.all (l.drop (i+1)))=some (H.set b (.row (al (c.all l) (0+i*k) (c.all (l.drop (i+1)))) true)):=by
   have:0+i*k+(c.all (l.drop (i+1))).length<=(c.all l).length:=by rw [Cod.all_len,hall,hdl];omega
   simp only [bW,show lim<=b by omega,if_true,h2,this]
  obtain ⟨H'',f1,f2,f3,f4⟩:=fin (H.set b (.row (al (c.all l) (0+i*k) (c.all (l.drop (i+1)))) true)) (al (c.all l) (0+i*k) (c.all (l.drop (i+1)))) (by simp) (fun b' hb'=>List.getElem?_set_ne (fun e=>hb' e.symm)) (by rw [List.getElem?_set_self hb]) (by
   simp only [al,List.length_append,List.length_take,List.length_drop,Cod.all_len];omega) (by
   have hal:(c.all (l.drop (i+1))).length=(l.length-(i+1))*k:=by rw [Cod.all_len,hdl]
   simp only [al,Nat.zero_add,htk]
   rw [←Cod.all_append,List.take_append_of_le_length (by rw [Cod.all_len,htl];exact Nat.le_refl _),List.take_of_length_le (by rw [Cod.all_len,htl];exact Nat.le_refl _)])
  refine ⟨q,_,.sl b (0+(i+1)*k) (l.drop (i+1)).length k,.slc b 0 (l.length-1) k l.length,_,_,H'',hq,hx,?_,?_,?_,hlast,f1,rfl,f2,f3,f4⟩
  ·simp [iE,b2,fP,e]
  ·have hk:=hsl.cells
   have hk0:¬((l.drop (i+1)).length:Int)=0:=by omega
   have hvl:bD (.sl b (0+(i+1)*k) (l.drop (i+1)).length k)=some (.int .i64 (l.drop (i+1)).length):=Eq.trans rfl rfl
   have hle2:i+((l.drop (i+1)).length:Int).toNat<=l.length:=by rw [hdl];omega
   have hsum:i+((l.drop (i+1)).length:Int).toNat=l.length-1:=by rw [hdl];omega
   have hmk:fP b 0 (l.length-1) k l.length=.slc b 0 (l.length-1) k l.length:=by rw [fP,if_neg (by omega)]
   simp only [mH,hk,hvl,true_and,hle2,if_true,hk0,if_false,hst,hsum,hmk]
   simp
  ·simp only [bD];rw [show ((l.length-1:Nat):Int)=(l.length:Int)-1 by omega]
theorem sF {i:Nat}(ho:OwnT n smC H u S)(hi:i<S.length)(hl:S.length<=1000)(hlim:lim<=n)(hK:∀H' v',LstV smC H' v' (S.take i++S.drop (i+1))->H'.length=H.length->(∀b,(∀o z y,u≠.sl b o z y)->H'[b]? = H[b]?)->K v' H') :
 aF tbl lim 51 [u,.int .i64 (i:Int),.int .i64 ((i:Int)+1)] H K:=by
 obtain ⟨q,x,y,v',H',z,H'',e0,e1,e2,e3,e4,e5,e6,e7,e8,e9,e10⟩:=RR (bytes:=32) (zero:=[.int .i64 0,.int .i64 0,.int .i64 0,.int .i64 0]) ho hi hl hlim rfl
 refine ao tbl_at51 rfl ?_
 have hne:decide ((i:Int)=(i:Int)+1)=false:=decide_eq_false (by omega)
 simp [vf51,ho.lst.len,e0,e1,e2,e3,e4,e5,e6,hne,zs4,e7]
 exact hK _ _ e8 e9 e10
theorem OCapV.parts (h:OCapV n H ws c):∃pv sv ps,ws=[pv,sv,.int .i64 c.e]/\OPcsV n H pv ps c.P/\OwnT n smC H sv c.S/\(∀b o z y o' z' y',pv=.sl b o z y->sv=.sl b o' z' y'->False)/\∀i,i<c.P.length->∀b o z y o' z' y',sv=.sl b o z y->((ps.getD i default).1=.sl b o' z' y'\/(ps.getD i default).2=.sl b o' z' y')->False:=by
 cases h with
 | mk h1 h2 h3 h4=>exact ⟨_,_,_,rfl,h1,h2,h3,h4⟩
theorem OCapV.seams {sv':V}{S':List Sm}(h:OCapV n H [pv,sv,.int .i64 e] ⟨P,S,e⟩)(hl:LstV smC H' sv' S')(hk:∀b,(∀o z y,sv≠.sl b o z y)->H'[b]? = H[b]?):CapV H' [pv,sv',.int .i64 e] ⟨P,S',e⟩:=by
 cases h with
 | mk h1 h2 h3 h4 =>
 rename_i ps
 refine .mk (OPcsV.pcsV (n:=n) (h1.keepB (fun b o m z g=>hk b fun o' z' y' g'=>h3 _ _ _ _ _ _ _ g g') fun i hi b o m z g=>hk b fun o' z' y' g'=>h4 i hi _ _ _ _ _ _ _ g' g)) hl
theorem CH {i:Int}(hc:CapV H ws c)(hsh:ShortC c)(hlim:lim<=H.length)(hK:∀H' ws',HX H H'->CapV H' ws' (if sr c i=0 then Mz c i.toNat else CY)->K (.tup [.agg ws',.int .i64 (sr c i)]) H'):aF tbl lim 31 [.agg ws,.int .i64 i] H K:=by
 obtain ⟨pv,sv,ps,rfl,hp,hs,z1,z2,z3,z4⟩:=hc.form
 have s1:=hsh.np
 have s2:=hsh.ns
 refine ao tbl_at31 rfl ?_
 simp [vf31,z1,z2,z3,z4,bh]
 refine ce hc (by omega) (by omega) fun H1 x1 => ?_
 replace x1:HX H H1:=x1
 have l1:=x1.len
 by_cases h0:cF c=0
 case neg =>
  have e1:sr c i=cF c:=by rw [sr,if_pos h0]
  have:=hK H1 [.snil,.snil,.int .i64 0] x1 (by rw [if_neg (by rw [e1];exact h0)];exact zA (m:=0) |>.cap)
  rw [e1] at this
  simp [h0,bh,al]
  exact this
 by_cases h1:0<=i/\i<c.S.length
 case neg =>
  have e1:sr c i=5:=by rw [sr,if_neg (fun g=>g h0),if_neg h1]
  have:=hK H1 [.snil,.snil,.int .i64 0] x1 (by rw [if_neg (by rw [e1];omega)];exact zA (m:=0) |>.cap)
  rw [e1] at this
  have hor:(decide (i<0)||decide ((c.S.length:Int)<=i))=true:=by simp;omega
  simp [h0,cm,hs.len,hor,bh,al]
  exact this
 have e1:sr c i=0:=by rw [sr,if_neg (fun g=>g h0),if_pos h1]
 have d1:decide (i<0)=false:=by simp;omega
 have d2:decide ((c.S.length:Int)<=i)=false:=by simp;omega
 simp [h0,cm,hs.len,d1,d2,bh,z1,z2,z3,z4]
 refine qP (hc.mono x1) hsh (by omega) fun H2 ws1 x2 o1 => ?_
 replace x2:HX H1 H2:=x2
 have l2:=x2.len
 obtain ⟨pv1,sv1,ps1,rfl,k1,k2,k3,k4⟩:=o1.parts
 have q1:=k1.own.lst.stor
 have q2:=k1.own.lst.one
 have q3:=k2.lst.stor
 have q4:=k2.lst.one
 obtain ⟨j,rfl⟩:∃j:Nat,i=j:=⟨i.toNat,by omega⟩
 simp (disch:=omega) [q1,q2,q3,q4,cm,al,ae]
 refine sF (i:=j) k2 (by omega) (by omega) (by omega) fun H3 sv2 hl hlen hkp => ?_
 have hc3:CapV H3 [pv1,sv2,.int .i64 c.e] (Mz c j):=o1.seams hl hkp
 have x3:HX H H3:=HX.of (by have:=x1.len;omega) fun b hb=>by
  rw [hkp b fun o z y g=>by have:=(k2.belowB _ _ _ _ g).1;omega,(x1.trans x2).same hb]
 have:=hK H3 _ x3 (by rw [e1,if_pos rfl];exact hc3)
 rw [e1] at this
 simp [q1,q2,al,bh,hl.stor,hl.one]
 exact this
end
section
variable {n lim:Nat}{H H' H1:Hp}{K:V->Hp->Prop}{v pv sv a b u:V}{ps:List (V×V)}{P:List Pc}{S:List Sm}{e:Int}{ws:List V}{c d:Cp}
structure WrS (m:Nat)(H0:Hp)(pv:V)(ps:List (V×V))(P:List Pc)(H:Hp):Prop where
 hx:HX H0 H
 hm:H0.length<=m
 own:OwnT m pvC H pv ps
 len:ps.length=P.length
 ol:∀i,i<P.length->My m H (ps.getD i default).1 (P.getD i default).s.length
 ap:∀i,i<P.length->∀b o z y o' z' y',pv=.sl b o z y->(ps.getD i default).1=.sl b o' z' y'->False
theorem WrS.write {m:Nat}{H0:Hp}(h:WrS m H0 pv ps P H){i k:Nat}(hi:i<P.length)(hk:k<(P.getD i default).s.length)(hlim:lim<=m):∃H',(∀L,aD lim L H (ept 1 (ps.getD i default).1 k) (.int .i64 (-1)) 1=some (L,H'))/\WrS m H0 pv ps P H':=by
 obtain ⟨l,hl,ho⟩:=h.ol i hi
 refine ⟨dI H (ps.getD i default).1 (bH (l.set k (-1))),fun L=>ho.store ⟨hlim,by omega⟩,AU h.hx ho h.hm,h.hm,h.own.keepB fun b o z y e => ?_,h.len,fun j hj=>(h.ol j hj).set ho (by simp),h.ap⟩
 cases hq:(ps.getD i default).1 with
 | sl b' o' z' y' =>
   simp only [dI]
   rw [List.getElem?_set_ne]
   rintro rfl
   exact h.ap i hi _ _ _ _ _ _ _ e hq
 | _=>rfl
theorem WrS.vlen {m:Nat}{H0:Hp}(h:WrS m H0 pv ps P H){i:Nat}(hi:i<P.length):bD (ps.getD i default).1=some (.int .i64 (P.getD i default).s.length):=by
 obtain ⟨l,hl,ho⟩:=h.ol i hi
 rw [←hl];exact ho.sl.len
theorem WrS.addr {m:Nat}{H0:Hp}(h:WrS m H0 pv ps P H){i k:Nat}(hi:i<P.length)(hk:k<(P.getD i default).s.length):aQ 1 (ps.getD i default).1 (.int .i64 (k:Int))=some (ept 1 (ps.getD i default).1 k):=by
 obtain ⟨l,hl,ho⟩:=h.ol i hi
 have:=ho.sl.addr (i:=(k:Int)) (by omega)
 simpa using this
end
def nal (x y:V):Prop:=∀b o z w o' z' w',x=.sl b o z w->y=.sl b o' z' w'->False
def OC (ps:List (V×V)):Prop:=∀i,i<ps.length->∀j,j<ps.length->nal (ps.getD i default).1 (ps.getD j default).2/\(i≠j->nal (ps.getD i default).1 (ps.getD j default).1/\nal (ps.getD i default).2 (ps.getD j default).2)
structure XC (n:Nat)(H:Hp)(pv sv:V)(ps:List (V×V))(P:List Pc)(S:List Sm):Prop where
 p:OPcsV n H pv ps P
 s:OwnT n smC H sv S
 a1:nal pv sv
 a2:∀i,i<P.length->nal sv (ps.getD i default).1/\nal sv (ps.getD i default).2
 d:OC ps
inductive XCapV (n:Nat)(H:Hp):List V->Cp->Prop
 | mk {pv sv:V} {ps:List (V×V)} {P:List Pc} {S:List Sm} {e:Int}:XC n H pv sv ps P S->XCapV n H [pv,sv,.int .i64 e] ⟨P,S,e⟩
section
variable {n lim:Nat}{H H' H1:Hp}{K:V->Hp->Prop}{v pv sv a b u:V}{ps:List (V×V)}{pcs P:List Pc}{S:List Sm}{e:Int}{ws:List V}{c d:Cp}
theorem nal.sy (h:nal a b):nal b a:=fun x o z w o' z' w' e e'=>h x o' z' w' o z w e' e
theorem rJ {l m:List Int}(ha:OwnV n H a l)(hb:OwnV H.length H1 b m):nal a b:=fun x o z w o' z' w' e e'=>by
 have:=(ha.belowB _ _ _ _ e).2
 have:=(hb.belowB _ _ _ _ e').1
 omega
theorem XC.oc (h:XC n H pv sv ps P S):OCapV n H [pv,sv,.int .i64 e] ⟨P,S,e⟩ :=
 .mk h.p h.s h.a1 fun i hi b o z y o' z' y' e e'=>by
  rcases e' with e' | e'
  ·exact (h.a2 i hi).1 _ _ _ _ _ _ _ e e'
  ·exact (h.a2 i hi).2 _ _ _ _ _ _ _ e e'
theorem XCapV.toO (h:XCapV n H ws c):OCapV n H ws c:=by cases h with | mk h=>exact h.oc
theorem XCapV.cap (h:XCapV n H ws c):CapV H ws c:=h.toO.cap
theorem XC.mono (hx:HX H H')(h:XC n H pv sv ps P S):XC n H' pv sv ps P S:=⟨h.p.mono hx,h.s.mono hx,h.a1,h.a2,h.d⟩
theorem XCapV.mono (hx:HX H H')(h:XCapV n H ws c):XCapV n H' ws c:=by cases h with | mk h=>exact .mk (h.mono hx)
theorem XCapV.vals (h:XCapV n H [pv,sv,.int .i64 e] ⟨P,S,e⟩):stor pv=true/\aJ pv=[pv]/\stor sv=true/\aJ sv=[sv]:=h.toO.vals
theorem XCapV.start {sv:V}{S:List Sm}(h:OwnT n smC H sv S):XCapV n H [.snil,sv,.int .i64 e] ⟨[],S,e⟩:=.mk (ps:=[]) ⟨OPcsV.nil,h,(fun b o z y o' z' y' e _=>by cases e),(fun i hi=>by simp at hi),(fun i hi=>by simp at hi)⟩
theorem XCapV.parts (h:XCapV n H ws c):∃pv sv ps,ws=[pv,sv,.int .i64 c.e]/\XC n H pv sv ps c.P c.S:=by
 cases h with
 | mk h=>exact ⟨_,_,_,rfl,h⟩
theorem XCapV.pushS {x:Sm}{cs:List V}(hcs:smC.cells x=cs)(h:XCapV n H [pv,sv,.int .i64 e] ⟨P,S,e⟩)(hn:lim<=n/\n<=H.length)(hl:S.length<1000000) :
 ∃sv' H',aP lim 4 32 (H++[.row cs true]) sv (.sl H.length 0 1 4)=some (sv',H')/\XCapV n H' [pv,sv',.int .i64 e] ⟨P,S++[x],e⟩/\(∀H0,HX H0 H->H0.length<=n->HX H0 H')/\H.length<=H'.length:=by
 cases h with
 | mk h =>
 rename_i ps
 obtain ⟨h1,h2,h3,h4,h5⟩:=h
 obtain ⟨v',H',a1,a2,a3,a4,a5,a6⟩:=h2.appendF2 (lim:=lim) (bytes:=32) hcs hn (by omega) hl
 refine ⟨v',H',a1,.mk (ps:=ps) ⟨h1.keepB (fun b o m z e=>a5 b (h1.own.belowB _ _ _ _ e).2 fun o' z' y' e'=>h3 _ _ _ _ _ _ _ e e') fun i hi b o m z e => ?_,a2,fun b o z y o' z' y' e e' => ?_,fun i hi=>⟨fun b o z y o' z' y' e e' => ?_,fun b o z y o' z' y' e e' => ?_⟩,h5⟩,a3,a4⟩
 ·rcases e with e | e
  ·exact a5 b ((h1.at' i hi).1.belowB _ _ _ _ e).2 fun o' z' y' e'=>(h4 i hi).1 _ _ _ _ _ _ _ e' e
  ·exact a5 b ((h1.at' i hi).2.belowB _ _ _ _ e).2 fun o' z' y' e'=>(h4 i hi).2 _ _ _ _ _ _ _ e' e
 ·have:=(h1.own.belowB _ _ _ _ e).2
  have:=a6 _ _ _ _ e'
  omega
 ·have h6:=a6 _ _ _ _ e
  have:=((h1.at' i hi).1.belowB _ _ _ _ e').2;omega
 ·have h6:=a6 _ _ _ _ e
  have:=((h1.at' i hi).2.belowB _ _ _ _ e').2;omega
theorem OC.push (h:OC ps)(hab:nal a b)(h1:∀i,i<ps.length->(nal (ps.getD i default).1 a/\nal (ps.getD i default).1 b)/\nal (ps.getD i default).2 a/\nal (ps.getD i default).2 b):OC (ps++[(a,b)]):=by
 intro i hi j hj
 rw [List.length_append,List.length_singleton] at hi hj
 by_cases hi1:i<ps.length
 ·rw [bL hi1]
  by_cases hj1:j<ps.length
  ·rw [bL hj1];exact h i hi1 j hj1
  ·have:j=ps.length:=by omega
   subst this
   rw [bO rfl]
   exact ⟨(h1 i hi1).1.2,fun _=>⟨(h1 i hi1).1.1,(h1 i hi1).2.2⟩⟩
 ·have:i=ps.length:=by omega
  subst this
  rw [bO rfl]
  by_cases hj1:j<ps.length
  ·rw [bL hj1]
   exact ⟨(h1 j hj1).2.1.sy,fun _=>⟨(h1 j hj1).1.1.sy,(h1 j hj1).2.2.sy⟩⟩
  ·have:j=ps.length:=by omega
   subst this
   rw [bO rfl]
   exact ⟨hab,fun g=>absurd rfl g⟩
theorem XCapV.pushP {p:Pc}(h:XCapV n H [pv,sv,.int .i64 e] ⟨P,S,e⟩)(hx:HX H H1)(ha:OwnV H.length H1 a p.s)(hb:OwnV H.length H1 b p.a)(hab:nal a b)(hn:lim<=n/\n<=H.length)(hl:P.length<1000000) :
 ∃pv' H2,aP lim 2 48 (H1++[.row [a,b] true]) pv (.sl H1.length 0 1 2)=some (pv',H2)/\XCapV n H2 [pv',sv,.int .i64 e] ⟨P++[p],S,e⟩/\(∀H0,HX H0 H1->H0.length<=n->HX H0 H2)/\H1.length<=H2.length:=by
 cases h with
 | mk h =>
 rename_i ps
 obtain ⟨h1,h2,h3,h4,h5⟩:=h
 have hlen:=hx.len
 obtain ⟨v',H2,a1,a2,a3,a4,a5,a6⟩:=h1.append hx ha hb hn hl
 have hs:=fun b o z y (e:sv=.sl b o z y)=>h2.belowB b o z y e
 refine ⟨v',H2,a1,.mk ⟨a2,((h2.mono hx).keepB fun b o m z e=>a5 b (by have:=(hs _ _ _ _ e).2;omega) fun o' z' y' e'=>h3 _ _ _ _ _ _ _ e' e),(fun b o z y o' z' y' e e' => ?_),fun i hi => ?_,h5.push hab fun i hi => ?_⟩,a3,a4⟩
 ·have:=(hs _ _ _ _ e').2
  have:=a6 _ _ _ _ e
  omega
 ·rw [List.length_append,List.length_singleton] at hi
  by_cases hlt:i<P.length
  ·rw [bL (l:=ps) (by rw [h1.len];exact hlt)]
   exact h4 i hlt
  ·have:i=P.length:=by omega
   subst this
   rw [bO h1.len.symm]
   refine ⟨fun b' o z y o' z' y' e e' => ?_,fun b' o z y o' z' y' e e' => ?_⟩
   ·have:=(hs _ _ _ _ e).2;have:=(ha.belowB _ _ _ _ e').1;omega
   ·have:=(hs _ _ _ _ e).2;have:=(hb.belowB _ _ _ _ e').1;omega
 ·have hi:i<P.length:=by rw [←h1.len];exact hi
  have t1:=(h1.at' i hi).1
  have t2:=(h1.at' i hi).2
  exact ⟨⟨rJ t1 ha,rJ t1 hb⟩,rJ t2 ha,rJ t2 hb⟩
theorem oQ (hc:CapV H ws c)(hsh:ShortC c)(hlim:lim<=H.length)(hK:∀H' ws',HX H H'->XCapV H.length H' ws' c->K (.agg ws') H'):aF tbl lim 50 [.agg ws] H K:=by
 obtain ⟨pv,sv,ps,rfl,hp,hs,z1,z2,z3,z4⟩:=hc.form
 have s1:=hsh.np
 have s2:=hsh.ns
 refine ao tbl_at50 rfl ?_
 simp [vf50,z1,z2,z3,z4,rd0,cm,gW]
 refine tO hs (by omega) (by omega) fun H1 sv1 x1 o1 => ?_
 replace x1:HX H H1:=x1
 have l1:=x1.len
 simp [rd0,cm,gW,z1,z2,o1.lst.stor,o1.lst.one,al,hp.vlen]
 refine aO c.P.length (fun i fr L H'=>∃v X,(fr 1=.lp 0 0/\fr 2=.lp 1 0/\fr 3=.lp 2 0/\fr 13=pv/\fr 14=.int .i64 c.P.length/\fr 15=.int .i64 i)/\L=[pv,sv,.int .i64 c.e] :: [.snil,.snil,.int .i64 0] :: [v,sv1,.int .i64 c.e] :: X/\HX H H'/\XCapV H.length H' [v,sv1,.int .i64 c.e] ⟨c.P.take i,c.S,c.e⟩) ⟨.snil,[],by simp,by simp,x1,.start o1⟩ ?_
 rintro i hi fr L H2 ⟨v,X,⟨f1,f2,f3,f13,f14,f15⟩,rfl,x2,hO⟩
 have l2:=x2.len
 simp [f1,f2,f3,f13,f14,f15]
 refine aC (fun ht => ?_) fun hfl => ?_
 ·have ht:i<c.P.length:=by omega
  have hp1:=hp.mono x2
  obtain ⟨t1,t2⟩:=hp1.at' i ht
  obtain ⟨b1,b2⟩:=hsh.pc i ht
  simp [f1,f2,f3,f13,f14,f15,rd0,cm,hp1.at ht,hp1.ld2 ht,t1.stor,t1.one,t2.stor,t2.one,al,ft,gy]
  refine ji t1 (by omega) (by omega) fun H3 a' x3 oa => ?_
  replace x3:HX H2 H3:=x3
  have l3:=x3.len
  simp [f1,f2,f3,f13,f14,f15,rd0,cm,t2.stor,ft]
  refine ji (t2.mono x3) (by omega) (by omega) fun H4 b' x4 ob => ?_
  replace x4:HX H3 H4:=x4
  obtain ⟨pv',H5,c1,c2,c3,c4⟩:=hO.pushP (lim:=lim) (x3.trans x4) (oa.mono x4) (ob.le l3) (rJ oa ob) ⟨by omega,l2⟩ (by rw [List.length_take];omega)
  obtain ⟨y1,y2,_,_⟩:=c2.vals
  simp (disch:=omega) [f1,f2,f3,f13,f14,f15,oa.sl.one,ob.sl.one,oa.sl.stor,ob.sl.stor,al,c1,y1,y2,ae]
  exact ⟨ht,c3 _ ((x2.trans x3).trans x4) (Nat.le_refl _),by rw [lH ht];exact c2⟩
 ·have:i=c.P.length:=by omega
  subst this
  rw [List.take_length] at hO
  obtain ⟨y1,y2,y3,y4⟩:=hO.vals
  simp [f1,f2,f3,f13,f14,f15,bh,al,y1,y2,y3,y4]
  exact hK _ _ x2 hO
theorem XC.wr {q k:Nat}{x:Int}(h:XC n H pv sv ps P S)(hq:q<P.length)(hk:k<(P.getD q default).a.length)(hlim:lim<=n) :
 ∃H',(∀L,aD lim L H (ept 1 (ps.getD q default).2 k) (.int .i64 x) 1=some (L,H'))/\XC n H' pv sv ps (P.set q ⟨(P.getD q default).s,(P.getD q default).a.set k x⟩) S/\∀H0,HX H0 H->H0.length<=n->HX H0 H':=by
 obtain ⟨h1,h2,h3,h4,h5⟩:=h
 have ho:=(h1.at' q hq).2
 have hql:q<ps.length:=by rw [h1.len];exact hq
 have kp:∀{u:V},nal u (ps.getD q default).2->∀b o m z,u=.sl b o m z->(dI H (ps.getD q default).2 (bH ((P.getD q default).a.set k x)))[b]? = H[b]? := by
  intro u hu b o m z e
  cases hv:(ps.getD q default).2 with
  | sl b' o' z' y' =>
    simp only [dI]
    rw [List.getElem?_set_ne]
    rintro rfl
    exact hu _ _ _ _ _ _ _ e hv
  | _=>rfl
 have hnp:nal pv (ps.getD q default).2:=fun b o z y o' z' y' e e'=>h1.ap q hq _ _ _ _ _ _ _ e (Or.inr e')
 refine ⟨dI H (ps.getD q default).2 (bH ((P.getD q default).a.set k x)),fun L=>ho.store ⟨hlim,hk⟩,⟨⟨h1.own.keepB (kp hnp),by simp [h1.len],fun i hi => ?_,fun i hi=>h1.ap i (by simpa using hi)⟩,h2.keepB (kp (h4 q hq).2),h3,fun i hi=>h4 i (by simpa using hi),h5⟩,fun H0 hx hl=>AU hx ho hl⟩
 rw [List.length_set] at hi
 rw [gU hq]
 have t:=h1.at' i hi
 refine ⟨?_,?_⟩
 ·have:=t.1.keepB (kp (h5 i (by rw [h1.len];exact hi) q hql).1)
  split
  ·rename_i e;subst e;exact this
  ·exact this
 ·split
  ·rename_i e;subst e;exact ho.put (by simp)
  ·rename_i e
   exact t.2.keepB (kp ((h5 i (by rw [h1.len];exact hi) q hql).2 e).2)
end
section
variable {n lim:Nat}{H H' H1:Hp}{K:V->Hp->Prop}{v pv sv a b u:V}{ps:List (V×V)}{P:List Pc}{S:List Sm}{e:Int}{ws:List V}{c d:Cp}
theorem XC.dart {q j:Nat}{x:Int}(h:XC n H pv sv ps P S)(hq:q<P.length)(hj:j<(P.getD q default).a.length)(hm:(j+1) % ksN P q<(P.getD q default).a.length)(hlim:lim<=n) :
 ∃ H1 H2,(∀L,aD lim L H (ept 1 (ps.getD q default).2 j) (.int .i64 ((P.getD q default).a.getD j 0-x)) 1=some (L,H1))∧SlV H1 (ps.getD q default).2 ((P.getD q default).a.set j ((P.getD q default).a.getD j 0-x)) ∧
   (∀L,aD lim L H1 (ept 1 (ps.getD q default).2 ((j+1) % ksN P q)) (.int .i64 (((P.getD q default).a.set j ((P.getD q default).a.getD j 0-x)).getD ((j+1) % ksN P q) 0+x)) 1=some (L,H2))/\XC n H2 pv sv ps (oz P q j x) S/\(∀H0,HX H0 H->H0.length<=n->HX H0 H2):=by
 obtain ⟨H1,a1,a2,a3⟩:=h.wr (x:=(P.getD q default).a.getD j 0-x) hq hj hlim
 have hq2:q<(P.set q ⟨(P.getD q default).s,(P.getD q default).a.set j ((P.getD q default).a.getD j 0-x)⟩).length:=by simpa using hq
 have e1:(P.set q ⟨(P.getD q default).s,(P.getD q default).a.set j ((P.getD q default).a.getD j 0-x)⟩).getD q default=⟨(P.getD q default).s,(P.getD q default).a.set j ((P.getD q default).a.getD j 0-x)⟩:=by rw [gU hq,if_pos rfl]
 have t:=(a2.p.at' q hq2).2.sl
 obtain ⟨H2,b1,b2,b3⟩:=a2.wr (q:=q) (k:=(j+1) % ksN P q) (x:=((P.getD q default).a.set j ((P.getD q default).a.getD j 0-x)).getD ((j+1) % ksN P q) 0+x) hq2 (by rw [e1];simpa using hm) hlim
 rw [e1] at t b2
 rw [List.set_set] at b2
 exact ⟨H1,H2,a1,t,b1,b2,fun H0 hx hl=>b3 H0 (a3 H0 hx hl) hl⟩
theorem Hr {q j:Nat}{x:Int}(h0:cF c=0)(hq:q<c.P.length)(hj:j<ksN c.P q):iJ c ((aZ c.P q+j:Nat):Int) x=if tu (c.P.getD q default).a j (ksN c.P q) x then 0 else 1:=by
 unfold iJ
 rw [if_neg (fun g=>g h0),if_neg (fun g=>g ⟨by omega,by have:aZ c.P q+j<nsN c.P:=fh hq hj;omega⟩),Int.toNat_natCast,(nF hq hj).1,(nF hq hj).2]
theorem Gi {q j:Nat}{x:Int}(hq:q<c.P.length)(hj:j<ksN c.P q):oy c ((aZ c.P q+j:Nat):Int) x=⟨oz c.P q j x,c.S,c.e⟩:=by
 unfold oy
 rw [Int.toNat_natCast,(nF hq hj).1,(nF hq hj).2];rfl
theorem Fq {i x:Int}(i0:I64 i)(i1:I64 x)(hc:CapV H ws c)(hsh:ShortC c)(hlim:lim<=H.length)(hK:∀H' ws',HX H H'->CapV H' ws' (if iJ c i x=0 then oy c i x else CY)->K (.tup [.agg ws',.int .i64 (iJ c i x)]) H'):aF tbl lim 32 [.agg ws,.int .i64 i,.int .i64 x] H K:=by
 obtain ⟨pv,sv,ps,rfl,hp,hs,z1,z2,z3,z4⟩:=hc.form
 have s1:=hsh.np
 have s2:=hsh.ns
 have hz:∀{H'},CapV H' [.snil,.snil,.int .i64 0] CY:=fun {H'}=>zA (m:=0) |>.cap
 refine ao tbl_at32 rfl ?_
 simp [vf32,z1,z2,z3,z4,bh]
 refine ce hc (by omega) (by omega) fun H1 x1 => ?_
 replace x1:HX H H1:=x1
 have l1:=x1.len
 by_cases h0:cF c=0
 case neg =>
  have e1:iJ c i x=cF c:=by rw [iJ,if_pos h0]
  have:=hK H1 [.snil,.snil,.int .i64 0] x1 (by rw [if_neg (by rw [e1];exact h0)];exact hz)
  rw [e1] at this
  simp [h0,bh,al]
  exact this
 have hok:=cX.1 h0
 have hn48:=hok.ns
 by_cases hneg:i<0
 ·have e1:iJ c i x=5:=by rw [iJ,if_neg (fun g=>g h0),if_pos (by omega)]
  have:=hK H1 [.snil,.snil,.int .i64 0] x1 (by rw [if_neg (by rw [e1];omega)];exact hz)
  rw [e1] at this
  have hd:=decide_eq_true hneg
  simp [h0,hd,bh,al]
  exact this
 have hd:=decide_eq_false hneg
 simp [h0,hd,bh,z1,z2,z3,z4]
 refine kh (hc.mono x1) hok (by omega) fun H2 lv x2 hlv => ?_
 replace x2:HX H1 H2:=x2
 have l2:=x2.len
 have hll:bD lv=some (.int .i64 (nsN c.P)):=by rw [hlv.lst.len,cx]
 by_cases hbig:(nsN c.P:Int)<=i
 ·have e1:iJ c i x=5:=by rw [iJ,if_neg (fun g=>g h0),if_pos (by omega)]
  have:=hK H2 [.snil,.snil,.int .i64 0] (x1.trans x2) (by rw [if_neg (by rw [e1];omega)];exact hz)
  rw [e1] at this
  have hd:=decide_eq_true hbig
  simp [hll,hd,bh,al]
  exact this
 obtain ⟨q,j,h1,h2,h3⟩:=cH (pcs:=c.P) (i:=i.toNat) (p:=c.P.length) (by have:aZ c.P c.P.length=nsN c.P:=rfl;omega)
 obtain rfl:i=((aZ c.P q+j:Nat):Int):=by omega
 have hd:decide ((nsN c.P:Int)<=(aZ c.P q:Int)+(j:Int))=false:=decide_eq_false (by omega)
 simp [hll,hd,bh,z1,z2,z3,z4]
 refine oQ (hc.mono (x1.trans x2)) hsh (by omega) fun H3 ws3 x3 o3 => ?_
 replace x3:HX H2 H3:=x3
 have l3:=x3.len
 obtain ⟨pv3,sv3,ps3,rfl,hX⟩:=o3.parts
 have q1:=hX.p.own.lst.stor
 have q2:=hX.p.own.lst.one
 have q3:=hX.s.lst.stor
 have q4:=hX.s.lst.one
 have hp3:=hX.p.pcsV
 have hE:=Hr (x:=x) h0 h1 h2
 have hC:=Gi (c:=c) (x:=x) h1 h2
 rw [hE,hC] at hK
 clear hE hC
 have hlen:∀t,t<c.P.length->(c.P.getD t default).a.length=ksN c.P t:=fun t ht=>(co (hok.pc t ht)).2.1
 simp [q1,q2,q3,q4,al]
 refine aO q (fun t fr L H'=>(fr 1=.int .i64 ((aZ c.P q+j:Nat)-(aZ c.P t:Nat):Int)/\fr 2=.int .i64 x/\fr 3=.lp 0 0/\fr 6=.lp 1 0/\fr 9=.lp 2 0/\fr 10=.int .i64 t)/\L=[[pv,sv,.int .i64 c.e],[.snil,.snil,.int .i64 0],[pv3,sv3,.int .i64 c.e]]/\H'=H3) ⟨by simp [aZ],by simp,rfl⟩ ?_
 rintro t ht fr L H4 ⟨⟨f1,f2,f3,f6,f9,f10⟩,rfl,rfl⟩
 have htP:t<c.P.length:=by omega
 have hsl:=(hp3.at' t htP).2
 have hvl:bD (ps3.getD t default).2=some (.int .i64 (ksN c.P t)):=by rw [hsl.len,hlen t htP]
 simp [f1,f2,f3,f6,f9,f10,rd0,hp3.at htP,hp3.fa htP,hp3.ld1 htP,hvl]
 refine aC (fun hc1 => ?_) fun hc1 => ?_
 ·have htq:t<q:=by
   apply Classical.byContradiction
   intro g
   have:t=q:=by omega
   subst this;omega
  have hst:=ib (pcs:=c.P) (q:=t)
  have hmo:=kr (pcs:=c.P) (p:=t+1) (q:=q) (by omega)
  have hlt:aZ c.P q+j<nsN c.P:=fh h1 h2
  simp (disch:=omega) [f1,f2,f3,f6,f9,f10,rd0,hp3.at htP,hp3.fa htP,hp3.ld1 htP,hvl,ae]
  exact ⟨htq,by omega⟩
 ·have htq:t=q:=by
   apply Classical.byContradiction
   intro g
   have:=kr (pcs:=c.P) (p:=t+1) (q:=q) (by omega)
   have hst:=ib (pcs:=c.P) (q:=t)
   omega
  subst htq
  have hks:=hok.ks h1
  have hlq:=hlen t h1
  obtain ⟨m,hm⟩:∃m,m=(j+1) % ksN c.P t:=⟨_,rfl⟩
  have hmk:m<ksN c.P t:=by rw [hm];exact Nat.mod_lt _ (by omega)
  have hne:(ksN c.P t:Int)≠0:=by omega
  have hrem:bU .rem (.int .i64 ((j:Int)+1)) (.int .i64 (ksN c.P t))=some (.int .i64 (m:Nat)):=by
   rw [gx hne,hm]
   have:((j:Int)+1).tmod (ksN c.P t:Int)=(((j+1) % ksN c.P t:Nat):Int):=g8 (j+1) (ksN c.P t)
   rw [this]
  have aj:=hsl.addr (i:=(j:Int)) (by omega)
  have am:=hsl.addr (i:=(m:Int)) (by omega)
  simp only [Int.toNat_natCast] at aj am
  have lj:=fun L=>hsl.load (i:=j) (by omega) (L:=L)
  have lm:=fun L=>hsl.load (i:=m) (by omega) (L:=L)
  have f1:fr 1=.int .i64 (j:Int):=by rw [f1];congr 1;omega
  have pk:=(co (hok.pc t h1)).2.2.1
  have bj:=(pk j h2).2
  have bm:=(pk m hmk).2
  obtain ⟨H5,H6,w1,w2,w3,w4,w5⟩:=hX.dart (j:=j) (x:=x) (lim:=lim) h1 (by omega) (by omega) (by omega)
  have x6:=w5 H ((x1.trans x2).trans x3) (by omega)
  have hr:=hK H6 [pv3,sv3,.int .i64 c.e]
  rw [←hm] at w3
  have am2:=w2.addr (i:=(m:Int)) (by rw [List.length_set];omega)
  simp only [Int.toNat_natCast] at am2
  have lm2:=fun L=>w2.load (i:=m) (by rw [List.length_set];omega) (L:=L)
  have n1:m≠j:=by rw [hm];exact (Dk h2 (by omega)).1
  have ea:((c.P.getD t default).a.set j ((c.P.getD t default).a.getD j 0-x)).getD m 0=(c.P.getD t default).a.getD m 0:=by rw [gP (by omega),if_neg n1]
  rw [ea] at w3 lm2
  have hfa:=hp3.fa htP
  have hat:=hp3.at htP
  have hld:=hp3.ld1 htP
  have hfa:ct 1 (ept 2 pv3 t)=some (dB 2 pv3 t 1):=hfa 1
  have hdb:tu (c.P.getD t default).a j (ksN c.P t) x=decide (1<=x/\x<=(c.P.getD t default).a.getD j 0-1/\x<=359-(c.P.getD t default).a.getD m 0):=by rw [hm];rfl
  rw [hdb] at hr hK
  generalize (ps3.getD t default).2=pa at *
  generalize (c.P.getD t default).a.getD j 0=vj at *
  generalize (c.P.getD t default).a.getD m 0=vm at *
  have bad:¬(1<=x/\x<=vj-1/\x<=359-vm)->K (.tup [.agg [.snil,.snil,.int .i64 0],.int .i64 1]) H4:=fun g=>by
   have:=hK H4 [.snil,.snil,.int .i64 0] ((x1.trans x2).trans x3)
   rw [decide_eq_false g] at this
   exact this hz
  by_cases g1:x<1
  ·have d1:=decide_eq_true g1
   simp (disch:=omega) [f1,f2,f3,f6,f9,f10,rd0,hat,hfa,hld,hvl,ae,hrem,d1,bh,al]
   exact bad (by omega)
  have d1:=decide_eq_false g1
  by_cases g2:vj-1<x
  ·have d2:=decide_eq_true g2
   simp (disch:=omega) [f1,f2,f3,f6,f9,f10,rd0,hat,hfa,hld,hvl,ae,hrem,d1,aj,lj,d2,bh,al]
   exact bad (by omega)
  have d2:=decide_eq_false g2
  by_cases g3:359-vm<x
  ·have d3:=decide_eq_true g3
   simp (disch:=omega) [f1,f2,f3,f6,f9,f10,rd0,hat,hfa,hld,hvl,ae,hrem,d1,aj,lj,d2,am,lm,d3,bh,al]
   exact bad (by omega)
  have d3:=decide_eq_false g3
  rw [decide_eq_true (show 1<=x/\x<=vj-1/\x<=359-vm by omega)] at hr
  have hr:=hr x6 (XCapV.mk (e:=c.e) w4).cap
  simp (disch:=omega) [f1,f2,f3,f6,f9,f10,rd0,hat,hfa,hld,hvl,ae,hrem,d1,aj,lj,d2,am,lm,d3,bh,al,w1,lm2,w3,-aD,gC]
  simp [f6,bh,al]
  rw [if_pos rfl] at hr
  exact hr
end
structure TwoV (n:Nat)(H:Hp)(u w:V)(l m:List Int):Prop where
 ou:OwnV n H u l
 ow:OwnV n H w m
 ap:nal u w
section
variable {n lim:Nat}{H H' H1:Hp}{K:V->Hp->Prop}{v pv sv a b u w:V}{ps:List (V×V)}{P:List Pc}{S:List Sm}{e:Int}{ws:List V}{c d:Cp}{l m:List Int}
theorem TwoV.mono (hx:HX H H')(h:TwoV n H u w l m):TwoV n H' u w l m:=⟨h.ou.mono hx,h.ow.mono hx,h.ap⟩
theorem TwoV.push1 {x:Int}(h:TwoV n H u w l m)(hn:lim<=n/\n<=H.length)(hl:l.length<1000000) :
 ∃u' H',aP lim 1 8 (H++[.row [.int .i64 x] true]) u (.sl H.length 0 1 1)=some (u',H')/\TwoV n H' u' w (l++[x]) m/\(∀H0,HX H0 H->H0.length<=n->HX H0 H')/\H.length<=H'.length:=by
 obtain ⟨u',H',a1,a2,a3,a4,a5,a6⟩:=h.ou.appendF (lim:=lim) (x:=x) hn hl
 refine ⟨u',H',a1,⟨a2,h.ow.keepB fun b o k z e=>a5 b (h.ow.belowB _ _ _ _ e).2 fun o' z' y' e'=>h.ap _ _ _ _ _ _ _ e' e,fun b o z y o' z' y' e e' => ?_⟩,a3,a4⟩
 have:=a6 _ _ _ _ e
 have:=(h.ow.belowB _ _ _ _ e').2
 omega
theorem TwoV.push2 {x:Int}(h:TwoV n H u w l m)(hn:lim<=n/\n<=H.length)(hl:m.length<1000000) :
 ∃w' H',aP lim 1 8 (H++[.row [.int .i64 x] true]) w (.sl H.length 0 1 1)=some (w',H')/\TwoV n H' u w' l (m++[x])/\(∀H0,HX H0 H->H0.length<=n->HX H0 H')/\H.length<=H'.length:=by
 obtain ⟨w',H',a1,a2,a3,a4,a5,a6⟩:=h.ow.appendF (lim:=lim) (x:=x) hn hl
 refine ⟨w',H',a1,⟨h.ou.keepB fun b o k z e=>a5 b (h.ou.belowB _ _ _ _ e).2 fun o' z' y' e'=>h.ap _ _ _ _ _ _ _ e e',a2,fun b o z y o' z' y' e e' => ?_⟩,a3,a4⟩
 have:=a6 _ _ _ _ e'
 have:=(h.ou.belowB _ _ _ _ e).2
 omega
theorem TwoV.st2 {x:Int}{k:Nat}(h:TwoV n H u w l m)(hk:k<m.length)(hlim:lim<=n) :
 ∃H',(∀L,aD lim L H (ept 1 w k) (.int .i64 x) 1=some (L,H'))/\TwoV n H' u w l (m.set k x)/\(∀H0,HX H0 H->H0.length<=n->HX H0 H')/\H.length=H'.length:=by
 refine ⟨dI H w (bH (m.set k x)),fun L=>h.ow.store ⟨hlim,hk⟩,⟨h.ou.keepB fun b o z y e => ?_,h.ow.put (by simp),h.ap⟩,fun H0 hx hl=>AU hx h.ow hl,(wU h.ow).symm⟩
 cases hv:w with
 | sl b' o' z' y' =>
   simp only [dI]
   rw [List.getElem?_set_ne]
   rintro rfl
   exact h.ap _ _ _ _ _ _ _ e hv
 | _=>rfl
theorem Kt {p:Pc}(hp:cg p=true){i t:Nat}:0<=(rot p.a p.s.length i t).sum/\(rot p.a p.s.length i t).sum<=359*t:=by
 obtain ⟨h1,h2,h3,h4⟩:=co hp
 induction t with
 | zero=>simp [rot]
 | succ t ih =>
   rw [qF,List.sum_append]
   have:=(h3 ((i+t) % p.s.length) (Nat.mod_lt _ (by omega))).2
   simp only [List.sum_cons,List.sum_nil]
   omega
def rg (i t k:Nat):Nat:=(i+t) % k
theorem tX {p:Pc}{i j:Nat}{ln an:Int}(ha:SlV H a p.s)(hb:SlV H b p.a)(hp:cg p=true)(hi:i<p.s.length)(hj:j<p.s.length)(hij:i≠j)(han : -1000000<=an/\an<=1000000)(hlim:lim<=H.length)
 (hK:∀H' u w,HX H H'->TwoV H.length H' u w (eg p i (stp p.s.length i j) ln an).s (eg p i (stp p.s.length i j) ln an).a->K (.agg [u,w]) H'):aF tbl lim 52 [.agg [a,b],.int .i64 (i:Nat),.int .i64 (j:Nat),.int .i64 ln,.int .i64 an] H K:=by
 obtain ⟨h1,h2,h3,h4⟩:=co hp
 refine ao tbl_at52 rfl ?_
 obtain ⟨k,hk⟩:∃k,k=p.s.length:=⟨_,rfl⟩
 rw [←hk] at hi hj h1 h2 h3 hK
 have hvl:bD a=some (.int .i64 (k:Nat)):=by rw [ha.len,hk]
 obtain ⟨N,hN⟩:∃N,N=stp k i j:=⟨_,rfl⟩
 rw [←hN] at hK
 have hNk:N<k:=by rw [hN];exact j7 hi hj
 have hN0:0<N:=by rw [hN];exact gH hi hj hij
 have hkne:(k:Int)≠0:=by omega
 simp [vf52,ha.stor,ha.one,hb.stor,hb.one,rd0,cm,hvl,al]
 refine aO N (fun t fr L H'=>∃u w,(fr 1=.int .i64 (i:Nat)/\fr 2=.int .i64 (j:Nat)/\fr 3=.int .i64 ln/\fr 4=.int .i64 an/\fr 5=.lp 0 0/\fr 10=.lp 1 0/\fr 11=.lp 2 0/\fr 12=.int .i64 (k:Nat)/\fr 13=.int .i64 (rot p.a k i t).sum/\fr 14=.int .i64 (rg i t k:Nat))/\L=[[a,b],[.snil,.snil],[u,w]]/\HX H H'/\TwoV H.length H' u w (rot p.s k i t) (rot p.a k i t)) ⟨.snil,.snil,by simp [rot,rg,Nat.mod_eq_of_lt hi],by simp,.refl,⟨by simpa [rot] using OwnV.nil,by simpa [rot] using OwnV.nil,fun b o z y o' z' y' e _=>by cases e⟩⟩ ?_
 rintro t ht fr L H1 ⟨u,w,⟨f1,f2,f3,f4,f5,f10,f11,f12,f13,f14⟩,rfl,x1,hT⟩
 have l1:=x1.len
 obtain ⟨bd1,bd2⟩:=Kt hp (i:=i) (t:=t)
 rw [←hk] at bd1 bd2
 obtain ⟨q,hq⟩:∃q,q=(i+t) % k:=⟨_,rfl⟩
 have hrg:rg i t k=q:=hq.symm
 rw [hrg] at f14
 have hqk:q<k:=by rw [hq];exact Nat.mod_lt _ (by omega)
 simp [f1,f2,f3,f4,f5,f10,f11,f12,f13,f14]
 by_cases htN:t<N
 ·have hne:¬(q=j):=by rw [hq];rw [hN] at htN;exact Qa hi hj htN
  have hne2:decide ((q:Int)=(j:Int))=false:=decide_eq_false (by omega)
  have hnx:(q+1) % k=(i+(t+1)) % k:=by rw [hq,Nat.mod_add_mod,Nat.add_assoc]
  have hrem:bU .rem (.int .i64 ((q:Int)+1)) (.int .i64 (k:Int))=some (.int .i64 ((q+1) % k:Nat)):=by
   rw [gx hkne]
   have:((q:Int)+1).tmod (k:Int)=(((q+1) % k:Nat):Int):=g8 (q+1) k
   rw [this]
  have aa:=(ha.mono x1).addr (i:=(q:Int)) (by omega)
  have ab:=(hb.mono x1).addr (i:=(q:Int)) (by omega)
  simp only [Int.toNat_natCast] at aa ab
  have la:=fun L=>(ha.mono x1).load (i:=q) (by omega) (L:=L)
  obtain ⟨u',H2,c1,c2,c3,c4⟩:=hT.push1 (lim:=lim) (x:=p.s.getD q 0) ⟨by omega,l1⟩ (by rw [ci];omega)
  have x2:=c3 H x1 (Nat.le_refl _)
  have lb:=fun L=>(hb.mono x2).load (i:=q) (by omega) (L:=L)
  obtain ⟨w',H3,d1,d2,d3,d4⟩:=c2.push2 (lim:=lim) (x:=p.a.getD q 0) ⟨by omega,by omega⟩ (by rw [ci];omega)
  have x3:=d3 H x2 (Nat.le_refl _)
  have lb3:=fun L=>(hb.mono x3).load (i:=q) (by omega) (L:=L)
  have bq:=(h3 q (by omega)).2
  have yu:=c2.ou.sl.stor
  have yu1:=c2.ou.sl.one
  have yw:=d2.ow.sl.stor
  have yw1:=d2.ow.sl.one
  have es:rot p.a k i (t+1)=rot p.a k i t++[p.a.getD q 0]:=by rw [qF,hq]
  have es':rot p.s k i (t+1)=rot p.s k i t++[p.s.getD q 0]:=by rw [qF,hq]
  obtain ⟨Q,hQ⟩:∃Q,Q=(q+1) % k:=⟨_,rfl⟩
  rw [←hQ] at hrem
  simp (disch:=omega) [f1,f2,f3,f4,f5,f10,f11,f12,f13,f14,hne2,rd0,cm,aa,ab,la,lb,lb3,c1,d1,yu,yu1,yw,yw1,al,ae,hrem]
  have hsum:(rot p.a k i (t+1)).sum=(rot p.a k i t).sum+p.a.getD q 0:=by rw [es,List.sum_append];simp
  refine ⟨htN,⟨hsum.symm,by rw [hQ,hnx];rfl⟩,u',w',⟨rfl,rfl⟩,x3,by rw [es,es'];exact d2⟩
 ·have htN:t=N:=by omega
  subst htN
  have hqj:q=j:=by rw [hq,hN];exact kw hi hj
  have hne2:decide ((q:Int)=(j:Int))=true:=decide_eq_true (by omega)
  have hlw:(rot p.a k i t).length=t:=ci
  have wa:=hT.ow.sl.addr (i:=0) (by rw [hlw];omega)
  have wa:aQ 1 w (.int .i64 0)=some (ept 1 w 0):=by simpa using wa
  obtain ⟨H2,s1,s2,s3,s4⟩:=hT.st2 (lim:=lim) (k:=0) (x:=an) (by rw [hlw];omega) (by omega)
  have x2:=s3 H x1 (Nat.le_refl _)
  have ai:=(hb.mono x2).addr (i:=(i:Int)) (by omega)
  simp only [Int.toNat_natCast] at ai
  have li:=fun L=>(hb.mono x2).load (i:=i) (by omega) (L:=L)
  have bi:=(h3 i hi).2
  obtain ⟨u',H3,c1,c2,c3,c4⟩:=s2.push1 (lim:=lim) (x:=ln) ⟨by omega,by omega⟩ (by rw [ci];omega)
  have x3:=c3 H x2 (Nat.le_refl _)
  have ulen:bD u'=some (.int .i64 ((t:Int)+1)):=by rw [c2.ou.sl.len,List.length_append,ci];rfl
  have yu:=c2.ou.sl.stor
  have yu1:=c2.ou.sl.one
  have yw:=c2.ow.sl.stor
  have yw1:=c2.ow.sl.one
  have hg0:(rot p.a k i t).getD 0 0=p.a.getD i 0:=by rw [kM hN0,Nat.add_zero,Nat.mod_eq_of_lt hi]
  have hsum:((rot p.a k i t).set 0 an).sum=(rot p.a k i t).sum+(an-p.a.getD i 0):=by
   rw [mJ (by rw [ci];exact hN0),hg0];omega
  simp (disch:=omega) [f1,f2,f3,f4,f5,f10,f11,f12,f13,f14,hne2,rd0,cm,wa,s1,ai,li,c1,yu,yu1,al,ulen,ae,-aD,gC]
  simp [f11,f13,yu,yu1,al,ulen,rd0,cm]
  refine kf (by omega) ?_
  obtain ⟨w',H4,d1,d2,d3,d4⟩:=c2.push2 (lim:=lim) (x:=180*((t:Int)+1-2)-((rot p.a k i t).sum+(an-p.a.getD i 0))) ⟨by omega,by omega⟩ (by rw [List.length_set,ci];omega)
  have x4:=d3 H x3 (Nat.le_refl _)
  have zu:=d2.ou.sl.stor
  have zu1:=d2.ou.sl.one
  have zw:=d2.ow.sl.stor
  have zw1:=d2.ow.sl.one
  have hr:=hK H4 u' w' x4 (by
   unfold eg fM
   simp only
   rw [←hk,hsum,show 180*((t:Int)-1)-((rot p.a k i t).sum+(an-p.a.getD i 0))=180*((t:Int)+1-2)-((rot p.a k i t).sum+(an-p.a.getD i 0)) by omega]
   exact d2)
  simp (disch:=omega) [f1,f2,f3,f4,f5,f10,f11,f12,f13,f14,rd0,cm,kY,d1,zu,zu1,zw,zw1,al,ae]
  exact hr
theorem nN (h:SlV H a l)(hl:0<l.length/\l.length<=1000)(hK:K (.int .i64 (l.getD (l.length-1) 0)) H):aF tbl lim 53 [a] H K:=by
 refine ao tbl_at53 rfl ?_
 have ad:=h.addr (i:=(l.length:Int)-1) (by omega)
 have e:((l.length:Int)-1).toNat=l.length-1:=by omega
 rw [e] at ad
 have ld:=fun L=>h.load (i:=l.length-1) (by omega) (L:=L)
 simp (disch:=omega) [vf53,h.len,ad,ld,ae]
 exact hK
end
section
variable {n lim:Nat}{H H' H1:Hp}{K:V->Hp->Prop}{v pv sv a b u w:V}{ps:List (V×V)}{P:List Pc}{S:List Sm}{e:Int}{ws:List V}{c d:Cp}{l m:List Int}
theorem IK {a b c d e f g:V}:fr0 [a,b,c,d,e,f,g] 5=f:=Eq.trans rfl rfl
theorem KJ {a b c d e f g:V}:fr0 [a,b,c,d,e,f,g] 6=g:=Eq.trans rfl rfl
theorem KB {k i:Nat}{b:Int}(hi:i<k)(hb:0<=b/\b<k):(b-(i:Int)+(k:Int)).tmod (k:Int)=(stp k i b.toNat:Nat):=by
 have e:b-(i:Int)+(k:Int)=((b.toNat+k-i:Nat):Int):=by omega
 rw [e];exact g8 _ _
theorem DH {A P k i n b2 b3 b4 b5 b6:Nat}{x y:Int}{o2 o3 o4 o5 o6:Bool}(hi:i<k)(hk:k<=1000/\n<=1000)(hxy:x=A->0<=y/\y<k)(h2:H[b2]? = some (.row [.int .i64 (A:Nat)] o2))(h3:H[b3]? = some (.row [.int .i64 (i:Nat)] o3))(h4:H[b4]? = some (.row [.int .i64 (k:Nat)] o4))(h5:H[b5]? = some (.row [.int .i64 (n:Nat)] o5))(h6:H[b6]? = some (.row [.int .i64 (P:Nat)] o6))
 (hK:K (.tup [.int .i64 (mvP A P k i n x y),.int .i64 (mvI A k i n x y)]) H):aF tbl lim 69 [.int .i64 x,.int .i64 y,.ptr b2 0,.ptr b3 0,.ptr b4 0,.ptr b5 0,.ptr b6 0] H K:=by
 refine ao tbl_at69 rfl ?_
 have r1:∀x:V,rd none [x] 0=some x:=fun _=>rfl
 by_cases hx:x=A
 case neg =>
  have hd:=decide_eq_false hx
  rw [mvP,mvI,if_neg hx,if_neg hx] at hK
  simp [vf69,h2,r1,hd]
  exact hK
 have hd:=decide_eq_true hx
 obtain ⟨hy1,hy2⟩:=hxy hx
 have hkne:(k:Int)≠0:=by omega
 have hrem:bU .rem (.int .i64 (y-(i:Int)+(k:Int))) (.int .i64 (k:Int))=some (.int .i64 (stp k i y.toNat:Nat)):=by
  rw [gx hkne,KB hi ⟨hy1,hy2⟩]
 rw [mvP,mvI,if_pos hx,if_pos hx] at hK
 by_cases hn:stp k i y.toNat<n
 ·have hd2:decide ((stp k i y.toNat:Int)<(n:Int))=true:=decide_eq_true (by omega)
  rw [if_pos hn,if_pos hn] at hK
  simp (disch:=omega) [vf69,h2,h3,h4,h5,h6,r1,hd,ae,hrem,hn,IK,KJ]
  exact hK
 ·have hd2:decide ((stp k i y.toNat:Int)<(n:Int))=false:=decide_eq_false (by omega)
  have hlt:stp k i y.toNat<k:=j7 hi (by omega)
  rw [if_neg hn,if_neg hn] at hK
  have e:((stp k i y.toNat-n:Nat):Int)=(stp k i y.toNat:Int)-(n:Int):=by omega
  rw [e] at hK
  simp (disch:=omega) [vf69,h2,h3,h4,h5,h6,r1,hd,ae,hrem,hn,IK,KJ]
  exact hK
theorem Ea {i j:Nat}{x:Int}{y:Sm}(h:OwnT n smC H v S)(hlim:lim<=n)(hi:i<S.length)(hj:j<4)(hy:smC.cells y=al (smC.cells (S.getD i default)) j [.int .i64 x]) :
 ∃H',(∀L,aD lim L H (dB 4 v i j) (.int .i64 x) 1=some (L,H'))/\OwnT n smC H' v (S.set i y)/\(∀b,(∀o z y,v≠.sl b o z y)->H'[b]? = H[b]?)/\H'.length=H.length:=by
 refine ⟨dI H v (smC.all (S.set i y)),fun L=>h.store hlim hi rfl rfl (by omega) hy,h.put (by simp),fun b hb => ?_,h.setLen⟩
 cases h with
 | nil=>rfl
 | row h1 h3=>simp only [dI];rw [List.getElem?_set_ne (fun e=>hb _ _ _ (by rw [e]))]
theorem qn {i:Nat}{x y:Sm}:(S.set i x).set i y=S.set i y:=by rw [List.set_set]
theorem nL {i:Nat}{x:Sm}(h:i<S.length):(S.set i x).getD i default=x:=by
 simp [List.getD_eq_getElem?_getD,h]
def mvT (f:Sm->Sm)(S:List Sm)(t:Nat):List Sm:=(S.take t).map f++S.drop t
theorem Pn {f:Sm->Sm}{t:Nat}:(mvT f S t).length=S.length:=by simp [mvT];omega
theorem OG {f:Sm->Sm}{t:Nat}(h:t<S.length):(mvT f S t).getD t default=S.getD t default:=by
 unfold mvT
 rw [fY (j:=0) (by simp;omega)]
 simp [List.getD_eq_getElem?_getD]
theorem Pj {f:Sm->Sm}{t:Nat}(h:t<S.length):(mvT f S t).set t (f (S.getD t default))=mvT f S (t+1):=by
 unfold mvT
 have e:((S.take t).map f).length=t:=by simp;omega
 rw [List.set_append_right _ _ (by omega),e,Nat.sub_self,List.drop_eq_getElem_cons h,List.set_cons_zero,kF h,List.map_append]
 simp
theorem ue {a b c d e f:V}:fr0 [a,b,c,d,e,f] 5=f:=Eq.trans rfl rfl
theorem rP {A N i m k:Nat}(ho:OwnT n smC H v S)(hlim:lim<=n/\n<=H.length)(hi:i<k)(hk:k<=1000/\m<=1000)(hs:∀t,t<S.length->((S.getD t default).A=A->0<=(S.getD t default).I/\(S.getD t default).I<k)/\((S.getD t default).B=A->0<=(S.getD t default).J/\(S.getD t default).J<k))(hl:S.length<=1000)
 (hK:∀H',OwnT n smC H' v (S.map (mvS A N k i m))->(∀b,b<H.length->(∀o z y,v≠.sl b o z y)->H'[b]? = H[b]?)->H.length<=H'.length->K (.tup []) H') :
 aF tbl lim 54 [v,.int .i64 (A:Nat),.int .i64 (N:Nat),.int .i64 (i:Nat),.int .i64 (m:Nat),.int .i64 (k:Nat)] H K:=by
 refine ao tbl_at54 rfl ?_
 have hsv:=ho.lst.stor
 simp [vf54,ho.lst.len,ue]
 obtain ⟨Hc,hHc⟩:∃Hc,Hc=H++[Blk.row [V.int IntKind.i64 (A:Nat)] true,Blk.row [V.int IntKind.i64 (N:Nat)] true,Blk.row [V.int IntKind.i64 (i:Nat)] true,Blk.row [V.int IntKind.i64 (m:Nat)] true,Blk.row [V.int IntKind.i64 (k:Nat)] true]:=⟨_,rfl⟩
 have hcl:Hc.length=H.length+5:=by rw [hHc];simp
 have c0:Hc[H.length]? = some (.row [.int .i64 (A:Nat)] true):=by rw [hHc,List.getElem?_append_right (by omega)];simp
 have c1:Hc[H.length+1]? = some (.row [.int .i64 (N:Nat)] true):=by rw [hHc,List.getElem?_append_right (by omega)];simp
 have c2:Hc[H.length+2]? = some (.row [.int .i64 (i:Nat)] true):=by rw [hHc,List.getElem?_append_right (by omega)];simp
 have c3:Hc[H.length+3]? = some (.row [.int .i64 (m:Nat)] true):=by rw [hHc,List.getElem?_append_right (by omega)];simp
 have c4:Hc[H.length+4]? = some (.row [.int .i64 (k:Nat)] true):=by rw [hHc,List.getElem?_append_right (by omega)];simp
 have cold:∀b,b<H.length->Hc[b]? = H[b]? := fun b hb=>by rw [hHc,List.getElem?_append_left hb]
 have hob:=ho.belowB
 have ho:OwnT n smC Hc v S:=ho.keepB fun b o z y e=>cold b (hob _ _ _ _ e).2
 rw [←hHc]
 refine aO S.length (fun t fr L H'=>(fr 0=v/\fr 12=.func (.func 69) [] [.ptr H.length 0,.ptr (H.length+2) 0,.ptr (H.length+4) 0,.ptr (H.length+3) 0,.ptr (H.length+1) 0]/\fr 16=.int .i64 S.length/\fr 17=.int .i64 t)/\L=[]/\OwnT n smC H' v (mvT (mvS A N k i m) S t)/\(∀b,(∀o z y,v≠.sl b o z y)->H'[b]? = Hc[b]?)/\H'.length=Hc.length) ⟨by simp,by simp,by simpa [mvT] using ho,fun _ _=>rfl,rfl⟩ ?_
 rintro t ht fr L H1 ⟨⟨f0,f12,f16,f17⟩,rfl,hT,hk1,hl1⟩
 have hov:∀b,H.length<=b->b<H.length+5->∀o z y,v≠.sl b o z y:=fun b hb _ o z y e=>by have:=(hob _ _ _ _ e).2;omega
 simp [f0,f12,f16,f17]
 refine aC (fun htt => ?_) fun hfl => ?_
 ·have htt:t<S.length:=by omega
  have hTl:(mvT (mvS A N k i m) S t).length=S.length:=Pn
  have hg:=OG (f:=mvS A N k i m) htt
  obtain ⟨s,hs0⟩:∃s,s=S.getD t default:=⟨_,rfl⟩
  obtain ⟨hsA,hsB⟩:=hs t htt
  rw [←hs0] at hsA hsB hg
  have at1:=hT.lst.at (i:=t) (by omega)
  have fa1:=fun j=>hT.lst.faddr (i:=t) (j:=j) (by omega)
  have ldA:∀L,aW none L H1 (dB 4 v t 0)=some (.int .i64 s.A):=fun L=>by rw [hT.lst.rd1 (by omega) (by omega),hg];rfl
  have ldI:∀L,aW none L H1 (dB 4 v t 1)=some (.int .i64 s.I):=fun L=>by rw [hT.lst.rd1 (by omega) (by omega),hg];rfl
  obtain ⟨H2,w1,w2,w3,w4⟩:=Ea (lim:=lim) (i:=t) (j:=0) (x:=mvP A N k i m s.A s.I) (y:=⟨mvP A N k i m s.A s.I,s.I,s.B,s.J⟩) hT hlim.1 (by omega) (by omega) (by rw [hg];rfl)
  have hg2:((mvT (mvS A N k i m) S t).set t ⟨mvP A N k i m s.A s.I,s.I,s.B,s.J⟩).getD t default=⟨mvP A N k i m s.A s.I,s.I,s.B,s.J⟩:=nL (by omega)
  obtain ⟨H3,y1,y2,y3,y4⟩:=Ea (lim:=lim) (i:=t) (j:=1) (x:=mvI A k i m s.A s.I) (y:=⟨mvP A N k i m s.A s.I,mvI A k i m s.A s.I,s.B,s.J⟩) w2 hlim.1 (by rw [List.length_set];omega) (by omega) (by rw [hg2];rfl)
  rw [qn] at y2
  have lp:∀j,JD (dB 4 v t j)=false:=fun j=>by
   obtain ⟨b,e,_⟩:=hT.row_of (by omega)
   rw [e];rfl
  have pt:∀j,Dv (dB 4 v t j)=true:=fun j=>by
   obtain ⟨b,e,_⟩:=hT.row_of (by omega)
   rw [e];rfl
  have k0:H1[H.length]? = some (.row [.int .i64 (A:Nat)] true):=by rw [hk1 _ (hov _ (by omega) (by omega))];exact c0
  have k1:H1[H.length+1]? = some (.row [.int .i64 (N:Nat)] true):=by rw [hk1 _ (hov _ (by omega) (by omega))];exact c1
  have k2:H1[H.length+2]? = some (.row [.int .i64 (i:Nat)] true):=by rw [hk1 _ (hov _ (by omega) (by omega))];exact c2
  have k3:H1[H.length+3]? = some (.row [.int .i64 (m:Nat)] true):=by rw [hk1 _ (hov _ (by omega) (by omega))];exact c3
  have k4:H1[H.length+4]? = some (.row [.int .i64 (k:Nat)] true):=by rw [hk1 _ (hov _ (by omega) (by omega))];exact c4
  simp [f0,f12,f16,f17,at1,fa1,ldA,ldI,lp,pt]
  refine DH hi hk hsA k0 k2 k4 k3 k1 ?_
  have hg3:((mvT (mvS A N k i m) S t).set t ⟨mvP A N k i m s.A s.I,mvI A k i m s.A s.I,s.B,s.J⟩).getD t default=⟨mvP A N k i m s.A s.I,mvI A k i m s.A s.I,s.B,s.J⟩:=nL (by omega)
  have hl3:((mvT (mvS A N k i m) S t).set t ⟨mvP A N k i m s.A s.I,mvI A k i m s.A s.I,s.B,s.J⟩).length=S.length:=by rw [List.length_set];omega
  have ldB:∀L,aW none L H3 (dB 4 v t 2)=some (.int .i64 s.B):=fun L=>by rw [y2.lst.rd1 (by omega) (by omega),hg3];rfl
  have ldJ:∀L,aW none L H3 (dB 4 v t 3)=some (.int .i64 s.J):=fun L=>by rw [y2.lst.rd1 (by omega) (by omega),hg3];rfl
  obtain ⟨H4,z1,z2,z3,z4⟩:=Ea (lim:=lim) (i:=t) (j:=2) (x:=mvP A N k i m s.B s.J) (y:=⟨mvP A N k i m s.A s.I,mvI A k i m s.A s.I,mvP A N k i m s.B s.J,s.J⟩) y2 hlim.1 (by omega) (by omega) (by rw [hg3];rfl)
  rw [qn] at z2
  have hg4:((mvT (mvS A N k i m) S t).set t ⟨mvP A N k i m s.A s.I,mvI A k i m s.A s.I,mvP A N k i m s.B s.J,s.J⟩).getD t default=⟨mvP A N k i m s.A s.I,mvI A k i m s.A s.I,mvP A N k i m s.B s.J,s.J⟩:=nL (by omega)
  obtain ⟨H5,u1,u2,u3,u4⟩:=Ea (lim:=lim) (i:=t) (j:=3) (x:=mvI A k i m s.B s.J) (y:=mvS A N k i m s) z2 hlim.1 (by rw [List.length_set];omega) (by omega) (by rw [hg4];rfl)
  rw [qn,hs0,Pj htt] at u2
  have kp3:∀b,(∀o z y,v≠.sl b o z y)->H3[b]? = Hc[b]? := fun b hb=>by rw [y3 b hb,w3 b hb,hk1 b hb]
  have q0:H3[H.length]? = some (.row [.int .i64 (A:Nat)] true):=by rw [kp3 _ (hov _ (by omega) (by omega))];exact c0
  have q1:H3[H.length+1]? = some (.row [.int .i64 (N:Nat)] true):=by rw [kp3 _ (hov _ (by omega) (by omega))];exact c1
  have q2:H3[H.length+2]? = some (.row [.int .i64 (i:Nat)] true):=by rw [kp3 _ (hov _ (by omega) (by omega))];exact c2
  have q3:H3[H.length+3]? = some (.row [.int .i64 (m:Nat)] true):=by rw [kp3 _ (hov _ (by omega) (by omega))];exact c3
  have q4:H3[H.length+4]? = some (.row [.int .i64 (k:Nat)] true):=by rw [kp3 _ (hov _ (by omega) (by omega))];exact c4
  simp [f0,f12,f16,f17,at1,fa1,lp,pt,w1,y1,ldB,ldJ,-aD,gC]
  refine DH hi hk hsB q0 q2 q4 q3 q1 ?_
  simp (disch:=omega) [f0,f12,f16,f17,at1,fa1,lp,pt,z1,u1,-aD,gC,ae]
  exact ⟨htt,u2,fun b hb=>by rw [u3 b hb,z3 b hb,kp3 b hb],by omega⟩
 ·have:t=S.length:=by omega
  subst this
  have e:mvT (mvS A N k i m) S S.length=S.map (mvS A N k i m):=by simp [mvT]
  rw [e] at hT
  simp
  exact hK H1 hT (fun b hb hv=>by rw [hk1 b hv,cold b hb]) (by omega)
structure YC (n:Nat)(H:Hp)(pv sv:V)(ps:List (V×V))(P:List Pc)(S:List Sm):Prop where
 p:OPcsV n H pv ps P
 s:OwnT n smC H sv S
 a1:nal pv sv
 a2:∀i,i<P.length->nal sv (ps.getD i default).1/\nal sv (ps.getD i default).2
theorem XC.yc (h:XC n H pv sv ps P S):YC n H pv sv ps P S:=⟨h.p,h.s,h.a1,h.a2⟩
theorem YC.le {n':Nat}(hn:n'<=n)(h:YC n H pv sv ps P S):YC n' H pv sv ps P S:=⟨h.p.le hn,h.s.le hn,h.a1,h.a2⟩
theorem YC.cap (h:YC n H pv sv ps P S):CapV H [pv,sv,.int .i64 e] ⟨P,S,e⟩:=.mk h.p.pcsV h.s.lst
theorem nG {ps:List (V×V)}{i t:Nat}{x:V×V}(h:i<ps.length):(ps.set i x).getD t default=if t=i then x else ps.getD t default:=by
 simp only [List.getD_eq_getElem?_getD,List.getElem?_set]
 by_cases e:i=t
 ·subst e;simp [h]
 ·rw [if_neg e,if_neg (fun h=>e h.symm)]
theorem YC.setP {q:Nat}{p:Pc}(h:YC n H pv sv ps P S)(hq:q<P.length)(ha:OwnV n H a p.s)(hb:OwnV n H b p.a)(na:nal pv a/\nal sv a)(nb:nal pv b/\nal sv b)(hlim:lim<=n) :
 ∃H',(∀L,aD lim L H (ept 2 pv q) (.agg [a,b]) 2=some (L,H'))/\YC n H' pv sv (ps.set q (a,b)) (P.set q p) S/\(∀H0,HX H0 H->H0.length<=n->HX H0 H')/\(∀b,(∀o z y,pv≠.sl b o z y)->H'[b]? = H[b]?)/\H'.length=H.length:=by
 obtain ⟨h1,h2,h3,h4⟩:=h
 have hql:q<ps.length:=by rw [h1.len];exact hq
 have he:dB 2 pv q 0=ept 2 pv q:=by
  obtain ⟨b',e,_⟩:=h1.own.row_of (by omega)
  rw [e];rfl
 have sa:stor a=true:=ha.sl.stor
 have sb:stor b=true:=hb.sl.stor
 have ca:aJ a=[a]:=ha.sl.one
 have cb:aJ b=[b]:=hb.sl.one
 have st:stor (.agg [a,b])=true:=by simp [stor,sa,sb,ca,cb]
 have kp:∀b',(∀o z y,pv≠.sl b' o z y)->(dI H pv (pvC.all (ps.set q (a,b))))[b']? = H[b']? := fun b' hb'=>by
  cases hv:pv with
  | sl b2 o z y =>
    simp only [dI]
    rw [List.getElem?_set_ne (fun e=>hb' o z y (by rw [hv,e]))]
  | _=>rfl
 have kv:∀{u:V},nal pv u->∀b' o m z,u=.sl b' o m z->(dI H pv (pvC.all (ps.set q (a,b))))[b']? = H[b']? := fun hu b' o m z e=>kp b' fun o' z' y' e'=>hu _ _ _ _ _ _ _ e' e
 refine ⟨dI H pv (pvC.all (ps.set q (a,b))),fun L => ?_,⟨⟨h1.own.put (by simp),by simp [h1.len],fun i hi => ?_,fun i hi => ?_⟩,h2.keepB (kv h3),h3,fun i hi => ?_⟩,fun H0 hx hl=>HX.of (by rw [h1.own.setLen];exact hx.len) fun b' hb'=>by rw [kp b' fun o z y e=>by have:=(h1.own.belowB _ _ _ _ e).1;omega,hx.same hb'],kp,h1.own.setLen⟩
 ·rw [←he]
  exact h1.own.store hlim hql st rfl (by omega) rfl
 ·rw [List.length_set] at hi
  rw [nG hql,gU hq]
  split
  ·exact ⟨ha.keepB (kv na.1),hb.keepB (kv nb.1)⟩
  ·have t:=h1.at' i hi
   exact ⟨t.1.keepB (kv fun b o z w o' z' w' e e'=>h1.ap i hi _ _ _ _ _ _ _ e (Or.inl e')),t.2.keepB (kv fun b o z w o' z' w' e e'=>h1.ap i hi _ _ _ _ _ _ _ e (Or.inr e'))⟩
 ·rw [List.length_set] at hi
  rw [nG hql]
  intro b' o z y o' z' y' e e'
  split at e'
  ·rcases e' with e' | e'
   ·exact na.1 _ _ _ _ _ _ _ e e'
   ·exact nb.1 _ _ _ _ _ _ _ e e'
  ·exact h1.ap i hi _ _ _ _ _ _ _ e e'
 ·rw [List.length_set] at hi
  rw [nG hql]
  split
  ·exact ⟨na.2,nb.2⟩
  ·exact h4 i hi
theorem YC.pushP2 {p:Pc}(h:YC n H pv sv ps P S)(ha:OwnV n H a p.s)(hb:OwnV n H b p.a)(na:nal pv a/\nal sv a)(nb:nal pv b/\nal sv b)(hn:lim<=n/\n<=H.length)(hl:P.length<1000000) :
 ∃pv' H',aP lim 2 48 (H++[.row [a,b] true]) pv (.sl H.length 0 1 2)=some (pv',H')/\YC n H' pv' sv (ps++[(a,b)]) (P++[p]) S/\(∀H0,HX H0 H->H0.length<=n->HX H0 H')/\H.length<=H'.length:=by
 obtain ⟨h1,h2,h3,h4⟩:=h
 obtain ⟨v',H2,a1,a2,a3,a4,a5,a6⟩:=h1.own.appendF2 (lim:=lim) (bytes:=48) (x:=(a,b)) (cs:=[a,b]) rfl hn (by omega) (by rw [h1.len];exact hl)
 have kv:∀{u:V},nal pv u->(∀b o m z,u=.sl b o m z->b<H.length)->∀b' o m z,u=.sl b' o m z->H2[b']? = H[b']? := fun hu hb b' o m z e=>a5 b' (hb _ _ _ _ e) fun o' z' y' e'=>hu _ _ _ _ _ _ _ e' e
 have la:=fun b o m z e=>(ha.belowB b o m z e).2
 have lb:=fun b o m z e=>(hb.belowB b o m z e).2
 refine ⟨v',H2,a1,⟨⟨a2,by simp [h1.len],fun i hi => ?_,fun i hi b' o z y o' z' y' e e' => ?_⟩,h2.keepB (kv h3 fun b o m z e=>(h2.belowB _ _ _ _ e).2),fun b o z y o' z' y' e e' => ?_,fun i hi => ?_⟩,a3,a4⟩
 ·rw [List.length_append,List.length_singleton] at hi
  by_cases hlt:i<P.length
  ·rw [bL (l:=ps) (by rw [h1.len];exact hlt),bL hlt]
   have t:=h1.at' i hlt
   exact ⟨t.1.keepB (kv (fun b o z w o' z' w' e e'=>h1.ap i hlt _ _ _ _ _ _ _ e (Or.inl e')) fun b o m z e=>(t.1.belowB _ _ _ _ e).2),t.2.keepB (kv (fun b o z w o' z' w' e e'=>h1.ap i hlt _ _ _ _ _ _ _ e (Or.inr e')) fun b o m z e=>(t.2.belowB _ _ _ _ e).2)⟩
  ·have:i=P.length:=by omega
   subst this
   rw [bO h1.len.symm,bO rfl]
   exact ⟨ha.keepB (kv na.1 la),hb.keepB (kv nb.1 lb)⟩
 ·rw [List.length_append,List.length_singleton] at hi
  have h6:=a6 _ _ _ _ e
  by_cases hlt:i<P.length
  ·rw [bL (l:=ps) (by rw [h1.len];exact hlt)] at e'
   have t:=h1.at' i hlt
   rcases e' with e' | e'
   ·have:=(t.1.belowB _ _ _ _ e').2;omega
   ·have:=(t.2.belowB _ _ _ _ e').2;omega
  ·have:i=P.length:=by omega
   subst this
   rw [bO h1.len.symm] at e'
   rcases e' with e' | e'
   ·have:=la _ _ _ _ e';omega
   ·have:=lb _ _ _ _ e';omega
 ·have:=a6 _ _ _ _ e
  have:=(h2.belowB _ _ _ _ e').2
  omega
 ·rw [List.length_append,List.length_singleton] at hi
  by_cases hlt:i<P.length
  ·rw [bL (l:=ps) (by rw [h1.len];exact hlt)];exact h4 i hlt
  ·have:i=P.length:=by omega
   subst this
   rw [bO h1.len.symm];exact ⟨na.2,nb.2⟩
theorem YC.seams {S':List Sm}(h:YC n H pv sv ps P S)(hs:OwnT n smC H' sv S')(hk:∀b,b<H.length->(∀o z y,sv≠.sl b o z y)->H'[b]? = H[b]?):YC n H' pv sv ps P S':=by
 obtain ⟨h1,h2,h3,h4⟩:=h
 refine ⟨h1.keepB (fun b o m z e=>hk b (h1.own.belowB _ _ _ _ e).2 fun o' z' y' e'=>h3 _ _ _ _ _ _ _ e e') fun i hi b o m z e => ?_,hs,h3,h4⟩
 rcases e with e | e
 ·exact hk b ((h1.at' i hi).1.belowB _ _ _ _ e).2 fun o' z' y' e'=>(h4 i hi).1 _ _ _ _ _ _ _ e' e
 ·exact hk b ((h1.at' i hi).2.belowB _ _ _ _ e).2 fun o' z' y' e'=>(h4 i hi).2 _ _ _ _ _ _ _ e' e
theorem YC.pushS {x:Sm}{cs:List V}(hcs:smC.cells x=cs)(h:YC n H pv sv ps P S)(hn:lim<=n/\n<=H.length)(hl:S.length<1000000) :
 ∃sv' H',aP lim 4 32 (H++[.row cs true]) sv (.sl H.length 0 1 4)=some (sv',H')/\YC n H' pv sv' ps P (S++[x])/\(∀H0,HX H0 H->H0.length<=n->HX H0 H')/\H.length<=H'.length:=by
 obtain ⟨h1,h2,h3,h4⟩:=h
 obtain ⟨v',H',a1,a2,a3,a4,a5,a6⟩:=h2.appendF2 (lim:=lim) (bytes:=32) hcs hn (by omega) hl
 refine ⟨v',H',a1,⟨h1.keepB (fun b o m z e=>a5 b (h1.own.belowB _ _ _ _ e).2 fun o' z' y' e'=>h3 _ _ _ _ _ _ _ e e') fun i hi b o m z e => ?_,a2,fun b o z y o' z' y' e e' => ?_,fun i hi=>⟨fun b o z y o' z' y' e e' => ?_,fun b o z y o' z' y' e e' => ?_⟩⟩,a3,a4⟩
 ·rcases e with e | e
  ·exact a5 b ((h1.at' i hi).1.belowB _ _ _ _ e).2 fun o' z' y' e'=>(h4 i hi).1 _ _ _ _ _ _ _ e' e
  ·exact a5 b ((h1.at' i hi).2.belowB _ _ _ _ e).2 fun o' z' y' e'=>(h4 i hi).2 _ _ _ _ _ _ _ e' e
 ·have:=(h1.own.belowB _ _ _ _ e).2
  have:=a6 _ _ _ _ e'
  omega
 ·have h6:=a6 _ _ _ _ e
  have:=((h1.at' i hi).1.belowB _ _ _ _ e').2;omega
 ·have h6:=a6 _ _ _ _ e
  have:=((h1.at' i hi).2.belowB _ _ _ _ e').2;omega
end
section
variable {n lim:Nat}{H H' H1:Hp}{K:V->Hp->Prop}{v pv sv a b u w:V}{ps:List (V×V)}{P:List Pc}{S:List Sm}{e:Int}{ws:List V}{c d:Cp}{l m:List Int}
theorem j5 {p:Pc}{i m:Nat}{ln x:Int}:(eg p i m ln x).a.length=m+1/\(eg p i m ln x).s.length=m+1:=by simp [eg,ci]
theorem nJ {p:Pc}{i m:Nat}{ln x:Int}:(eg p i m ln x).a.getD ((eg p i m ln x).a.length-1) 0=fM p i m x:=by
 rw [j5.1]
 unfold eg
 simp only [Nat.add_sub_cancel]
 rw [fY (j:=0) (by simp [ci])]
 rfl
theorem Bu {p:Pc}{i m:Nat}{ln x:Int}(hm:0<m):(eg p i m ln x).a.getD 0 0=x:=by
 unfold eg
 simp only
 rw [bL (by simp [ci];omega),gP (by rw [ci];exact hm),if_pos rfl]
theorem J8 {p:Pc}{i m:Nat}{x:Int}(hp:cg p=true)(hi:i<p.s.length)(hm:0<m/\m<=6)(hx : -5000<=x/\x<=5000) : -20000<=fM p i m x/\fM p i m x<=20000:=by
 rw [pZ hm.1 hi]
 have b:=Kt hp (i:=i) (t:=m)
 have b2:=((co hp).2.2.1 i hi).2
 omega
end
section
variable {n lim:Nat}{H H' H1:Hp}{K:V->Hp->Prop}{v pv sv a b u w:V}{ps:List (V×V)}{P:List Pc}{S:List Sm}{e:Int}{ws:List V}{c d:Cp}{l m:List Int}
theorem AN {A i j ln an:Int}(iA:I64 A)(ii:I64 i)(ij:I64 j)(hc:CapV H ws c)(hsh:ShortC c)(hlim:lim<=H.length)(hK:∀H' ws',HX H H'->CapV H' ws' (if m7 c A i j ln an=0 then Rm c A i j ln an else CY)->K (.tup [.agg ws',.int .i64 (m7 c A i j ln an)]) H'):aF tbl lim 33 [.agg ws,.int .i64 A,.int .i64 i,.int .i64 j,.int .i64 ln,.int .i64 an] H K:=by
 obtain ⟨pv,sv,ps,rfl,hp,hs,z1,z2,z3,z4⟩:=hc.form
 have s1:=hsh.np
 have s2:=hsh.ns
 have hz:∀{H'},CapV H' [.snil,.snil,.int .i64 0] CY:=fun {H'}=>zA (m:=0) |>.cap
 refine ao tbl_at33 rfl ?_
 simp [vf33,z1,z2,z3,z4,bh,ue]
 refine ce hc (by omega) (by omega) fun H1 x1 => ?_
 replace x1:HX H H1:=x1
 have l1:=x1.len
 by_cases h0:cF c=0
 case neg =>
  have e1:m7 c A i j ln an=cF c:=by rw [m7,if_pos h0]
  have:=hK H1 [.snil,.snil,.int .i64 0] x1 (by rw [if_neg (by rw [e1];exact h0)];exact hz)
  rw [e1] at this
  simp [h0,bh,al]
  exact this
 have hok:=cX.1 h0
 have hp1:=hp.mono x1
 have bad:∀{x:Int} {H2:Hp},m7 c A i j ln an=x->x≠0->HX H H2->K (.tup [.agg [.snil,.snil,.int .i64 0],.int .i64 x]) H2:=fun {x H2} e1 h x2=>by
  have:=hK H2 [.snil,.snil,.int .i64 0] x2 (by rw [if_neg (by rw [e1];exact h)];exact hz)
  rw [e1] at this
  exact this
 simp [h0,bh,z1,z2,z3,z4]
 refine gK hp1 z3 z4 ?_
 by_cases q1:cz c.P A i=true
 case neg =>
  have q1:=Bool.eq_false_iff.2 q1
  simp [q1,bh,al]
  exact bad (by rw [m7,if_neg (fun g=>g h0),q1];rfl) (by omega) x1
 simp [q1,bh,z1,z2,z3,z4]
 refine gK hp1 z3 z4 ?_
 by_cases q2:cz c.P A j=true
 case neg =>
  have q2:=Bool.eq_false_iff.2 q2
  simp [q2,bh,al]
  exact bad (by rw [m7,if_neg (fun g=>g h0),q1,q2];rfl) (by omega) x1
 obtain ⟨hA,hi,eA,ei⟩:=cK q1
 obtain ⟨_,hj,_,ej⟩:=cK q2
 have hE:m7 c A i j ln an=if !(Ac (ksN c.P A.toNat) i.toNat j.toNat ln an&&GQ (c.P.getD A.toNat default) i.toNat j.toNat an) then 1 else if c.P.length=8 then 4 else 0:=by
  rw [m7,if_neg (fun g=>g h0),q1,q2];rfl
 have hC:Rm c A i j ln an=⟨dY c.P A.toNat i.toNat j.toNat ln an,jR c.P c.S A.toNat i.toNat j.toNat,c.e⟩:=rfl
 generalize A.toNat=q at *
 generalize i.toNat=i' at *
 generalize j.toNat=j' at *
 subst eA ei ej
 obtain ⟨t1,t2⟩:=hp1.at' q hA
 have hpo:=hok.pc q hA
 have hld:=hp1.ld2 hA
 have hat:=hp1.at hA
 obtain ⟨pc,hpc⟩:∃pc,pc=c.P.getD q default:=⟨_,rfl⟩
 have hkn:ksN c.P q=pc.s.length:=by rw [hpc];rfl
 rw [hkn] at hE hi hj
 rw [←hpc] at hE t1 t2 hpo
 obtain ⟨p1,p2,p3,p4⟩:=co hpo
 generalize (ps.getD q default).1=pa at *
 generalize (ps.getD q default).2=pb at *
 have hvl:bD pa=some (.int .i64 (pc.s.length:Nat)):=t1.len
 have hkne:(pc.s.length:Int)≠0:=by omega
 obtain ⟨m1,hm1⟩:∃m,m=(i'+1) % pc.s.length:=⟨_,rfl⟩
 obtain ⟨m2,hm2⟩:∃m,m=(j'+1) % pc.s.length:=⟨_,rfl⟩
 have hr1:bU .rem (.int .i64 ((i':Int)+1)) (.int .i64 (pc.s.length:Int))=some (.int .i64 (m1:Nat)):=by
  rw [gx hkne,hm1]
  have:((i':Int)+1).tmod (pc.s.length:Int)=(((i'+1) % pc.s.length:Nat):Int):=g8 _ _
  rw [this]
 have hr2:bU .rem (.int .i64 ((j':Int)+1)) (.int .i64 (pc.s.length:Int))=some (.int .i64 (m2:Nat)):=by
  rw [gx hkne,hm2]
  have:((j':Int)+1).tmod (pc.s.length:Int)=(((j'+1) % pc.s.length:Nat):Int):=g8 _ _
  rw [this]
 have bad1:∀{H2:Hp},Ac pc.s.length i' j' ln an=false->HX H H2->K (.tup [.agg [.snil,.snil,.int .i64 0],.int .i64 1]) H2:=fun {H2} g x2=>bad (by rw [hE,g];rfl) (by omega) x2
 have hB:Ac pc.s.length i' j' ln an=decide (i'≠j'/\m1≠j'/\m2≠i'/\(1<=ln/\ln<=200)/\(1<=an/\an<=359)):=by rw [hm1,hm2];rfl
 rw [hB] at bad1 hE
 have y1:=t1.stor
 have y2:=t1.one
 have y3:=t2.stor
 have y4:=t2.one
 simp [q2,hat,hld,rd0,cm,kY,hvl,y1,y2,y3,y4,al]
 by_cases b1:i'=j'
 ·have d1:decide ((i':Int)=(j':Int))=true:=decide_eq_true (by omega)
  simp (disch:=omega) [d1,ae,hr1,bh,al]
  exact bad1 (decide_eq_false (fun g=>g.1 b1)) x1
 have d1:decide ((i':Int)=(j':Int))=false:=decide_eq_false (by omega)
 by_cases b2:m1=j'
 ·have d2:decide ((m1:Int)=(j':Int))=true:=decide_eq_true (by omega)
  simp (disch:=omega) [d1,ae,hr1,d2,bh,al]
  exact bad1 (decide_eq_false (fun g=>g.2.1 b2)) x1
 have d2:decide ((m1:Int)=(j':Int))=false:=decide_eq_false (by omega)
 by_cases b3:m2=i'
 ·have d3:decide ((m2:Int)=(i':Int))=true:=decide_eq_true (by omega)
  simp (disch:=omega) [d1,ae,hr1,d2,hr2,d3,bh,al]
  exact bad1 (decide_eq_false (fun g=>g.2.2.1 b3)) x1
 have d3:decide ((m2:Int)=(i':Int))=false:=decide_eq_false (by omega)
 simp (disch:=omega) [d1,ae,hr1,d2,hr2,d3]
 refine oH ?_
 by_cases b4:1<=ln/\ln<=200
 case neg =>
  have d4:=decide_eq_false b4
  simp only [d4]
  simp [bh,al]
  exact bad1 (decide_eq_false (fun g=>b4 g.2.2.2.1)) x1
 have d4:=decide_eq_true b4
 simp only [d4]
 simp [ue]
 refine fH ?_
 by_cases b5:1<=an/\an<=359
 case neg =>
  have d5:=decide_eq_false b5
  simp only [d5]
  simp [bh,al]
  exact bad1 (decide_eq_false (fun g=>b5 g.2.2.2.2)) x1
 have d5:=decide_eq_true b5
 simp only [d5]
 have hBt:decide (i'≠j'/\m1≠j'/\m2≠i'/\(1<=ln/\ln<=200)/\(1<=an/\an<=359))=true:=decide_eq_true ⟨b1,b2,b3,b4,b5⟩
 rw [hBt] at hE
 simp [ue,kY,y1,y2,y3,y4]
 refine tX (p:=pc) t1 t2 hpo hi hj b1 (by omega) (by omega) fun H2 u w x2 hT => ?_
 replace x2:HX H1 H2:=x2
 have l2:=x2.len
 obtain ⟨N,hN⟩:∃N,N=stp pc.s.length i' j':=⟨_,rfl⟩
 obtain ⟨M,hM⟩:∃M,M=stp pc.s.length j' i':=⟨_,rfl⟩
 obtain ⟨z,hz0⟩:∃z,z=fM pc i' N an:=⟨_,rfl⟩
 have hZ2:=tC (x:=an) hpo hi hj b1
 have hZb:GQ pc i' j' an=decide ((1<=z/\z<=359)/\(1<=pc.a.getD j' 0-z/\pc.a.getD j' 0-z<=359)/\(1<=pc.a.getD i' 0-an/\pc.a.getD i' 0-an<=359)):=by rw [hz0,hN];rfl
 rw [←hN,←hz0,←hM] at hZ2
 rw [←hN] at hT
 rw [hZb] at hE
 have N0:0<N:=by rw [hN];exact gH hi hj b1
 have M0:0<M:=by rw [hM];exact gH hj hi (Ne.symm b1)
 have Nk:N<pc.s.length:=by rw [hN];exact j7 hi hj
 have Mk:M<pc.s.length:=by rw [hM];exact j7 hj hi
 have zb : -20000<=z/\z<=20000:=by rw [hz0];exact J8 hpo hi (by omega) (by omega)
 have k1:=hT.ou.sl.stor
 have k2:=hT.ou.sl.one
 have k3:=hT.ow.sl.stor
 have k4:=hT.ow.sl.one
 have hlw:(eg pc i' N ln an).a.length=N+1:=j5.1
 have ta:=t2.mono x2
 have aj:=ta.addr (i:=(j':Int)) (by omega)
 simp only [Int.toNat_natCast] at aj
 have lj:=fun L=>ta.load (i:=j') (by omega) (L:=L)
 have bj:=(p3 j' hj).2
 have bi:=(p3 i' hi).2
 simp [k1,k2,k3,k4,al,rd0,cm,kY,y1,y2,y3,y4,aj,lj]
 refine nN hT.ow.sl (by omega) ?_
 rw [nJ,←hz0]
 simp (disch:=omega) [ae,kY,y1,y2,y3,y4]
 refine tX (p:=pc) (t1.mono x2) ta hpo hj hi (Ne.symm b1) (by omega) (by omega) fun H3 u2 w2 x3 hT2 => ?_
 replace x3:HX H2 H3:=x3
 have l3:=x3.len
 rw [←hM] at hT2
 have hT3:=hT.mono x3
 have g1:=hT2.ou.sl.stor
 have g2:=hT2.ou.sl.one
 have g3:=hT2.ow.sl.stor
 have g4:=hT2.ow.sl.one
 simp [g1,g2,g3,g4,k1,k2,k3,k4,al,rd0,cm,kY]
 have badZ:∀{H2:Hp},¬((1<=z/\z<=359)/\(1<=pc.a.getD j' 0-z/\pc.a.getD j' 0-z<=359)/\(1<=pc.a.getD i' 0-an/\pc.a.getD i' 0-an<=359))->HX H H2->K (.tup [.agg [.snil,.snil,.int .i64 0],.int .i64 1]) H2:=fun {H2} g x2=>bad (by rw [hE,decide_eq_false g];rfl) (by omega) x2
 have x13:=x1.trans (x2.trans x3)
 refine nN hT3.ow.sl (by omega) ?_
 rw [nJ,←hz0]
 simp
 refine fH ?_
 by_cases c1:1<=z/\z<=359
 case neg =>
  have e1:=decide_eq_false c1
  simp only [e1]
  simp [bh,al]
  exact badZ (fun g=>c1 g.1) x13
 have e1:=decide_eq_true c1
 simp only [e1]
 have hlw2:(eg pc j' M ln (pc.a.getD j' 0-z)).a.length=M+1:=j5.1
 have a0:=hT2.ow.sl.addr (i:=0) (by omega)
 have a0:aQ 1 w2 (.int .i64 0)=some (ept 1 w2 0):=by simpa using a0
 have l0:=fun L=>hT2.ow.sl.load (i:=0) (by omega) (L:=L)
 rw [Bu M0] at l0
 simp [rd0,cm,a0,l0]
 refine fH ?_
 by_cases c2:1<=pc.a.getD j' 0-z/\pc.a.getD j' 0-z<=359
 case neg =>
  have e2:=decide_eq_false c2
  simp only [e2]
  simp [bh,al]
  exact badZ (fun g=>c2 g.2.1) x13
 have e2:=decide_eq_true c2
 simp only [e2]
 simp [rd0,cm,g3]
 refine nN hT2.ow.sl (by omega) ?_
 rw [nJ,hZ2]
 simp
 refine fH ?_
 by_cases c3:1<=pc.a.getD i' 0-an/\pc.a.getD i' 0-an<=359
 case neg =>
  have e3:=decide_eq_false c3
  simp only [e3]
  simp [bh,al]
  exact badZ (fun g=>c3 g.2.2) x13
 have e3:=decide_eq_true c3
 simp only [e3]
 rw [decide_eq_true (show (1<=z/\z<=359)/\(1<=pc.a.getD j' 0-z/\pc.a.getD j' 0-z<=359)/\(1<=pc.a.getD i' 0-an/\pc.a.getD i' 0-an<=359) from ⟨c1,c2,c3⟩)] at hE
 have hvP:bD pv=some (.int .i64 c.P.length):=hp.vlen
 by_cases h8:c.P.length=8
 ·have e8:decide ((c.P.length:Int)=8)=true:=decide_eq_true (by omega)
  simp [rd0,hvP,e8,bh,al]
  exact bad (by rw [hE,if_pos h8];rfl) (by omega) x13
 have e8:decide ((c.P.length:Int)=8)=false:=decide_eq_false (by omega)
 have hE:m7 c q i' j' ln an=0:=by rw [hE,if_neg h8];rfl
 simp [rd0,hvP,e8,bh,z1,z2,z3,z4]
 refine oQ (hc.mono x13) hsh (by omega) fun H4 ws4 x4 o4 => ?_
 replace x4:HX H3 H4:=x4
 have l4:=x4.len
 obtain ⟨pv4,sv4,ps4,rfl,hX⟩:=o4.parts
 have x14:=x13.trans x4
 have hT4:=hT3.mono x4
 have hT24:=hT2.mono x4
 have b_u:=fun b o m z e=>(hT3.ou.belowB b o m z e).2
 have b_w:=fun b o m z e=>(hT3.ow.belowB b o m z e).2
 have b_u2:=fun b o m z e=>(hT2.ou.belowB b o m z e).2
 have b_w2:=fun b o m z e=>(hT2.ow.belowB b o m z e).2
 have b_p:=fun b o m z e=>(hX.p.own.belowB b o m z e).1
 have b_s:=fun b o m z e=>(hX.s.belowB b o m z e).1
 have ap:∀{x y:V},(∀b o m z,x=.sl b o m z->H3.length<=b)->(∀b o m z,y=.sl b o m z->b<H3.length)->nal x y:=fun hx hy b o z w o' z' w' e e'=>by
  have:=hx _ _ _ _ e
  have:=hy _ _ _ _ e'
  omega
 have Y4:YC H.length H4 pv4 sv4 ps4 c.P c.S:=hX.yc.le (by omega)
 have q1':=hX.p.own.lst.stor
 have q2':=hX.p.own.lst.one
 have q3':=hX.s.lst.stor
 have q4':=hX.s.lst.one
 have at4:=hX.p.pcsV.at hA
 obtain ⟨H5,w1,Y5,w3,w4,w5⟩:=Y4.setP (lim:=lim) (p:=eg pc i' N ln an) hA (hT4.ou.le (by omega)) (hT4.ow.le (by omega)) ⟨ap b_p b_u,ap b_s b_u⟩ ⟨ap b_p b_w,ap b_s b_w⟩ (by omega)
 have x5:=w3 H x14 (Nat.le_refl _)
 have ku:∀b',b'<H3.length->H5[b']? = H4[b']? := fun b' hb'=>w4 b' fun o z y e=>by have:=b_p _ _ _ _ e;omega
 have hT25:TwoV H.length H5 u2 w2 (eg pc j' M ln (pc.a.getD j' 0-z)).s (eg pc j' M ln (pc.a.getD j' 0-z)).a :=
  ⟨(hT24.ou.le (by omega)).keepB fun b o m z e=>ku b (b_u2 _ _ _ _ e),(hT24.ow.le (by omega)).keepB fun b o m z e=>ku b (b_w2 _ _ _ _ e),hT24.ap⟩
 obtain ⟨pv6,H6,v1,Y6,v3,v4⟩:=Y5.pushP2 (lim:=lim) (p:=eg pc j' M ln (pc.a.getD j' 0-z)) hT25.ou hT25.ow ⟨ap b_p b_u2,ap b_s b_u2⟩ ⟨ap b_p b_w2,ap b_s b_w2⟩ ⟨by omega,x5.len⟩ (by rw [List.length_set];omega)
 have x6:=v3 H x5 (Nat.le_refl _)
 have l6:=x6.len
 have r1':=Y6.p.own.lst.stor
 have r2':=Y6.p.own.lst.one
 have hrem3:bU .rem (.int .i64 ((j':Int)-(i':Int)+(pc.s.length:Int))) (.int .i64 (pc.s.length:Int))=some (.int .i64 (N:Nat)):=by
  rw [gx hkne,KB hi (by omega),Int.toNat_natCast,←hN]
 simp [q1',q2',q3',q4',al,rd0,cm,kY,bh,k1,k2,k3,k4,g1,g2,g3,g4]
 simp [rd0,kY,at4,w1,k1,k2,k3,k4,-aD,gC]
 simp (disch:=omega) [al,rd0,cm,kY,bh,q1',q2',q3',q4',k1,k2,k3,k4,g1,g2,g3,g4,v1,r1',r2',hp.vlen,ae,hrem3]
 have hsq:∀t,t<c.S.length->((c.S.getD t default).A=q->0<=(c.S.getD t default).I/\(c.S.getD t default).I<pc.s.length)/\((c.S.getD t default).B=q->0<=(c.S.getD t default).J/\(c.S.getD t default).J<pc.s.length):=fun t ht=>by
  obtain ⟨o1,o2⟩:=hok.smB ht
  obtain ⟨_,o3,o4,o5⟩:=cK o1
  obtain ⟨_,o6,o7,o8⟩:=cK o2
  refine ⟨fun g => ?_,fun g => ?_⟩
  ·rw [g,Int.toNat_natCast,hkn] at o3;omega
  ·rw [g,Int.toNat_natCast,hkn] at o6;omega
 have hPC:Rm c q i' j' ln an=⟨c.P.set q (eg pc i' N ln an)++[eg pc j' M ln (pc.a.getD j' 0-z)],c.S.map (mvS q c.P.length pc.s.length i' N)++[⟨(q:Int),(N:Int),(c.P.length:Int),(M:Int)⟩],c.e⟩:=by
  rw [hC,dY,jR,h1P,h2P,hkn,←hpc,←hN,←hM,←hz0]
 rw [hE,if_pos rfl,hPC] at hK
 refine rP (A:=q) (N:=c.P.length) (i:=i') (m:=N) (k:=pc.s.length) Y6.s ⟨hlim,l6⟩ hi (by omega) hsq (by omega) fun H7 hs7 hk7 hl7 => ?_
 have Y7:=Y6.seams hs7 hk7
 have x7:HX H H7:=HX.of (by omega) fun b hb=>by
  rw [hk7 b (by omega) fun o z y e=>by have:=(Y6.s.belowB _ _ _ _ e).1;omega,x6.same hb]
 obtain ⟨sv8,H8,u1,Y8,u3,u4⟩:=Y7.pushS (lim:=lim) (x:=⟨(q:Int),(N:Int),(c.P.length:Int),(M:Int)⟩) (cs:=[.int .i64 (q:Int),.int .i64 (N:Int),.int .i64 (c.P.length:Int),.int .i64 (M:Int)]) rfl ⟨hlim,x7.len⟩ (by rw [List.length_map];omega)
 have x8:=u3 H x7 (Nat.le_refl _)
 have z1':=Y8.p.own.lst.stor
 have z2':=Y8.p.own.lst.one
 have z3':=Y8.s.lst.stor
 have z4':=Y8.s.lst.one
 have lu:bD u=some (.int .i64 ((N:Int)+1)):=by rw [hT3.ou.sl.len,j5.2];rfl
 have lu2:bD u2=some (.int .i64 ((M:Int)+1)):=by rw [hT2.ou.sl.len,j5.2];rfl
 have eN:(N:Int)+1-1=N:=by omega
 have eM:(M:Int)+1-1=M:=by omega
 have hr:=hK H8 _ x8 Y8.cap
 simp (disch:=omega) [al,rd0,cm,bh,RG,zs4,lu,lu2,eN,eM,ae,hp.vlen,u1,z1',z2',z3',z4']
 exact hr
end
end Go.Proofs.YtgjlhdggllakbaaGreatDoor.Vm
namespace Go.Proofs.YtgjlhdggllakbaaGreatDoor.Vm
open Go
def wds (c:UInt8):List UInt8→List (List UInt8)
 | []=>[[]]
 | b :: r=>if b=c then [] :: wds c r else match wds c r with
   | []=>[[b]]
   | w :: ws=>(b :: w) :: ws
theorem rq {c:UInt8}:∀{p:List UInt8},c∉p->wds c p=[p]
 | [],_=>rfl
 | b :: p,h=>by
   have h1:¬b=c:=fun e=>h (by simp [e])
   have h2:c∉p:=fun e=>h (by simp [e])
   rw [wds,if_neg h1,rq h2]
theorem py {c:UInt8}{q:List UInt8}:∀{p:List UInt8},c∉p->wds c (p++c :: q)=p :: wds c q
 | [],_=>by simp [wds]
 | b :: p,h=>by
   have h1:¬b=c:=fun e=>h (by simp [e])
   have h2:c∉p:=fun e=>h (by simp [e])
   rw [List.cons_append,wds,if_neg h1,py h2]
theorem DP {c:UInt8}:∀s:List UInt8,(Lib.indexByte s c = -1∧c∉s)∨∃p q,s=p++c :: q∧c∉p∧Lib.indexByte s c=p.length
 | []=>.inl ⟨rfl,by simp⟩
 | b :: s=>by
   by_cases h:b=c
   ·subst h
    exact .inr ⟨[],s,rfl,by simp,by simp [Lib.indexByte]⟩
   ·have hb:(b==c)=false:=by simpa using h
    rcases DP (c:=c) s with ⟨h1,h2⟩ | ⟨p,q,rfl,h1,h2⟩
    ·refine .inl ⟨by simp [Lib.indexByte,hb,h1],?_⟩
     intro e
     rcases List.mem_cons.1 e with e | e
     ·exact h e.symm
     ·exact h2 e
    ·refine .inr ⟨b :: p,q,rfl,?_,?_⟩
     ·intro e
      rcases List.mem_cons.1 e with e | e
      ·exact h e.symm
      ·exact h1 e
     ·have hn:((p.length:Int) == -1)=false:=by simp
      simp only [Lib.indexByte,hb,h2,hn,Bool.false_eq_true,if_false,List.length_cons]
      omega
theorem to {c:UInt8}:∀(k:Nat) (s:List UInt8),s.count c=k→Lib.splitK [c] 0 k s=wds c s
 | 0,s,h=>by
   rw [Lib.splitK,rq (List.count_eq_zero.1 h)]
 | k + 1,s,h=>by
   rcases DP (c:=c) s with ⟨h1,h2⟩ | ⟨p,q,rfl,h1,h2⟩
   ·rw [List.count_eq_zero.2 h2] at h;cases h
   ·have hp:p.count c=0:=List.count_eq_zero.2 h1
    rw [List.count_append,List.count_cons_self,hp] at h
    have hn:((p.length:Int) == -1)=false:=by simp
    rw [Lib.splitK,Lib.index_one,h2]
    simp only [hn,Bool.false_eq_true,if_false,Int.toNat_natCast,Nat.add_zero,List.length_cons,List.length_nil,Nat.zero_add]
    have e1:(p++c :: q).take p.length=p:=by simp
    have e2:(p++c :: q).drop (p.length+1)=q:=by
     rw [List.drop_append];simp
    rw [e1,e2,to k q (by omega),py h1]
def rY (b:UInt8):Prop:=48<=b.toNat/\b.toNat<=57
theorem D6 {d:Nat}(h:d<10):rY (UInt8.ofNat (48+d))/\(UInt8.ofNat (48+d)).toNat=48+d:=by
 have e:(UInt8.ofNat (48+d)).toNat=48+d:=by simp;omega
 exact ⟨⟨by omega,by omega⟩,e⟩
theorem nz {u:Nat}(h:¬u<10):Lib.decDigits u=Lib.decDigits (u / 10)++[UInt8.ofNat (48+u % 10)]:=by
 rw [Lib.decDigits,dif_neg h]
theorem PJ:∀u:Nat,∀b∈Lib.decDigits u,rY b:=by
 intro u
 induction u using Nat.strongRecOn with
 | _ u ih =>
   intro b hb
   by_cases h:u<10
   ·rw [Lib.decDigits_one h] at hb
    rw [List.mem_singleton.1 hb]
    exact (D6 h).1
   ·rw [nz h] at hb
    rcases List.mem_append.1 hb with hb | hb
    ·exact ih (u / 10) (by omega) b hb
    ·rw [List.mem_singleton.1 hb]
     exact (D6 (by omega)).1
theorem RH (u:Nat):Lib.decDigits u≠[]:=by
 by_cases h:u<10
 ·rw [Lib.decDigits_one h];simp
 ·rw [nz h];simp
theorem rA {b:UInt8} (hb:rY b):∀{l:List UInt8} {a v:Nat},Lib.parseUint10 a l=.ok v→v<1844674407370955161→Lib.parseUint10 a (l++[b])=.ok (v*10+(b.toNat-48))
 | [],a,v,h,hv=>by
   simp only [Lib.parseUint10] at h
   injection h with h;subst h
   obtain ⟨h1,h2⟩:=hb
   simp only [List.nil_append,Lib.parseUint10]
   rw [if_pos ⟨h1,h2⟩,if_neg (by omega),if_neg (by omega)]
 | c :: l,a,v,h,hv=>by
   simp only [List.cons_append,Lib.parseUint10] at h ⊢
   split at h
   ·split at h
    ·cases h
    ·split at h
     ·cases h
     ·rename_i h1 h2 h3
      rw [if_pos h1,if_neg h2,if_neg h3]
      exact rA hb h hv
   ·cases h
theorem LA (u:Nat):u<1844674407370955161->Lib.parseUint10 0 (Lib.decDigits u)=.ok u:=by
 induction u using Nat.strongRecOn with
 | _ u ih =>
   intro hu
   by_cases h:u<10
   ·rw [Lib.decDigits_one h]
    obtain ⟨h1,h2⟩:=D6 h
    simp only [Lib.parseUint10]
    rw [if_pos (show 48<=_/\_ from h1),if_neg (by omega),h2,if_neg (by omega)]
    congr 1;omega
   ·rw [nz h]
    obtain ⟨h1,h2⟩:=D6 (d:=u % 10) (by omega)
    rw [rA h1 (ih (u / 10) (by omega) (by omega)) (by omega),h2]
    congr 1;omega
theorem N1 {u:Nat}(hu:u<1000000000000):Lib.atoiAll (Lib.decDigits u)=.ok (u:Int):=by
 have hp:=LA u (by omega)
 have hd:=PJ u
 have hne:=RH u
 generalize Lib.decDigits u=l at hp hd hne
 cases l with
 | nil=>exact absurd rfl hne
 | cons c r =>
   have hc:=hd c (by simp)
   obtain ⟨a,b⟩:=hc
   rw [Lib.atoiAll_plain c r (by omega) (by omega),Lib.parseMag,if_neg hne,hp]
   simp only [Lib.signless]
   rw [if_neg (by omega)]
theorem JE {u:Nat}{c:UInt8}(h:¬rY c):c∉Lib.decDigits u:=fun hc=>h (PJ u c hc)
def gV (c:UInt8)(l:List Nat):List UInt8:=l.flatMap fun n=>c :: Lib.decDigits n
theorem nk {c:UInt8}{n:Nat}{l:List Nat}:gV c (n :: l)=c :: (Lib.decDigits n++gV c l):=by simp [gV]
theorem s6 {c:UInt8}(hc:¬rY c){p:List UInt8}(hp:c∉p):∀{l:List Nat},wds c (p++gV c l)=p :: l.map Lib.decDigits
 | []=>by simp [gV,rq hp]
 | n :: l=>by
   have e:p++gV c (n :: l)=p++c :: (Lib.decDigits n++gV c l):=by rw [nk]
   rw [e,py hp,s6 hc (JE hc)];rfl
def R4:List UInt8:=[104,97,105,114]
def IH:List UInt8:=[119,114,111,110,103]
def Ss (r w:List Nat):List UInt8:=R4++gV 32 r++32 :: (IH++gV 32 w)
structure RdH where
 k:Bool
 r:List Int
 w:List Int
 deriving DecidableEq
def RdH.num (x:RdH):Lib.NumEnd Int->RdH
 | .ok n=>if x.k then ⟨true,x.r,x.w++[n]⟩ else ⟨false,x.r++[n],x.w⟩
 | _=>x
def RdH.step (x:RdH)(w:List UInt8):RdH:=(if w=IH then { x with k:=true } else x).num (Lib.atoiAll w)
def dM (l:List Nat):List Int:=l.map fun n:Nat=>(n:Int)
theorem tY {c:UInt8}:∀{L:List (List UInt8)},(∀l∈L,c∉l)->wds c (L.flatMap fun l=>l++[c])=L++[[]]
 | [],_=>rfl
 | l :: L,h=>by
   have e:(l :: L).flatMap (fun l=>l++[c])=l++c :: L.flatMap (fun l=>l++[c]):=by simp
   rw [e,py (h l (by simp)),tY fun m hm=>h m (by simp [hm])];rfl
def ew:List UInt8:=[101,97,115,101]
def de:List UInt8:=[112,105,101,99,101]
def eU:List UInt8:=[115,101,97,109]
def lnL (w:List UInt8)(l:List Nat):List UInt8:=w++gV 32 l
theorem Eh {c d:UInt8}(hd:¬rY d)(hcd:d≠c):∀{l:List Nat},d∉gV c l
 | []=>by simp [gV]
 | n :: l=>by
   rw [nk]
   intro h
   rcases List.mem_cons.1 h with h | h
   ·exact hcd h
   ·rcases List.mem_append.1 h with h | h
    ·exact JE hd h
    ·exact Eh hd hcd h
def flP (p:List (Nat×Nat)):List Nat:=p.flatMap fun x=>[x.1,x.2]
def yf (e:Nat)(ps:List (List (Nat×Nat)))(ss:List (List Nat)):List (List UInt8):=lnL ew [e] :: (ps.map (fun p=>lnL de (flP p))++ss.map (lnL eU))
def Oy (e:Nat)(ps:List (List (Nat×Nat)))(ss:List (List Nat)):List UInt8:=(yf e ps ss).flatMap fun l=>l++[10]
theorem h10:¬rY 10:=by unfold rY;decide
theorem h32:¬rY 32:=by unfold rY;decide
theorem KD {w:List UInt8}{l:List Nat}(h:(10:UInt8)∉w):(10:UInt8)∉lnL w l:=by
 intro hh
 rcases List.mem_append.1 hh with hh | hh
 ·exact h hh
 ·exact Eh h10 (by decide) hh
theorem J4 {e:Nat}{ps:List (List (Nat×Nat))}{ss:List (List Nat)}:wds 10 (Oy e ps ss)=yf e ps ss++[[]]:=by
 refine tY fun l hl => ?_
 unfold yf at hl
 rcases List.mem_cons.1 hl with rfl | hl
 ·exact KD (by decide)
 ·rcases List.mem_append.1 hl with hl | hl
  ·obtain ⟨p,-,rfl⟩:=List.mem_map.1 hl
   exact KD (by decide)
  ·obtain ⟨p,-,rfl⟩:=List.mem_map.1 hl
   exact KD (by decide)
structure CpX where
 P:List (List Int×List Int)
 S:List (List Int)
 e:Int
def prs:List Int->List Int×List Int
 | a :: b :: r=>(a :: (prs r).1,b :: (prs r).2)
 | _=>([],[])
def CpX.put (ev:Bool)(x:CpX)(w:List UInt8)(ns:List Int):CpX :=
 if w=ew/\ns.length=1 then { x with e:=ns.headD 0 }
 else if w=de/\(ev=true->ns.length % 2=0) then { x with P:=x.P++[prs ns] }
 else if w=eU/\ns.length=4 then { x with S:=x.S++[ns] }
 else x
def CpX.take (num:List UInt8->Int)(ev:Bool)(x:CpX)(line:List UInt8):CpX:=x.put ev ((wds 32 line).headD []) ((wds 32 line).tail.map num)
def rdC (num:List UInt8->Int)(ev:Bool)(l:List (List UInt8)):CpX:=l.foldl (CpX.take num ev) ⟨[],[],0⟩
def kn (l:List Nat):Prop:=∀n∈l,n<1000000000
def lf (num:List UInt8->Int):Prop:=∀n:Nat,n<1000000000->num (Lib.decDigits n)=n
theorem Dp {num:List UInt8->Int}(hn:lf num):∀{l:List Nat},kn l->(l.map Lib.decDigits).map num=dM l
 | [],_=>rfl
 | n :: l,h=>by
   have:=Dp hn (l:=l) fun m hm=>h m (by simp [hm])
   rw [List.map_cons,List.map_cons,hn n (h n (by simp)),this];rfl
theorem Qq {w:List UInt8}(hw:(32:UInt8)∉w){l:List Nat}:wds 32 (lnL w l)=w :: l.map Lib.decDigits:=s6 h32 hw
theorem yo {l:List Nat}:(dM l).length=l.length:=by simp [dM]
theorem HR {p:List (Nat×Nat)}:(flP p).length=2*p.length:=by
 induction p with
 | nil=>rfl
 | cons x p ih=>simp only [flP,List.flatMap_cons,List.length_append,List.length_cons,List.length_nil] at ih ⊢;omega
theorem KZ:∀{p:List (Nat×Nat)},prs (dM (flP p))=(dM (p.map Prod.fst),dM (p.map Prod.snd))
 | []=>rfl
 | x :: p=>by
   have:=KZ (p:=p)
   show prs ((x.1:Int) :: (x.2:Int) :: dM (flP p))=_
   simp only [prs,this];rfl
theorem uW {num:List UInt8->Int}(hn:lf num){ev:Bool}{x:CpX}{w:List UInt8}(hw:(32:UInt8)∉w){l:List Nat}(hl:kn l):x.take num ev (lnL w l)=x.put ev w (dM l):=by
 unfold CpX.take
 rw [Qq hw]
 simp only [List.headD_cons,List.tail_cons]
 rw [Dp hn hl]
theorem ne1:¬de=ew:=by decide
theorem ne2:¬eU=ew:=by decide
theorem ne3:¬eU=de:=by decide
theorem CL {num:List UInt8->Int}(hn:lf num){ev:Bool}{x:CpX}{p:List (Nat×Nat)}(hp:kn (flP p)):x.take num ev (lnL de (flP p))={ x with P:=x.P++[(dM (p.map Prod.fst),dM (p.map Prod.snd))] }:=by
 rw [uW hn (by decide) hp]
 unfold CpX.put
 rw [if_neg (fun h=>ne1 h.1),if_pos ⟨rfl,fun _=>by rw [yo,HR];omega⟩,KZ]
theorem ET {num:List UInt8->Int}(hn:lf num){ev:Bool}{x:CpX}{s:List Nat}(h4:s.length=4)(hs:kn s):x.take num ev (lnL eU s)={ x with S:=x.S++[dM s] }:=by
 rw [uW hn (by decide) hs]
 unfold CpX.put
 rw [if_neg (fun h=>ne2 h.1),if_neg (fun h=>ne3 h.1),if_pos ⟨rfl,by rw [yo,h4]⟩]
theorem Ex {num:List UInt8->Int}(hn:lf num){ev:Bool}{x:CpX}{e:Nat}(he:e<1000000000):x.take num ev (lnL ew [e])={ x with e:=(e:Int) }:=by
 rw [uW hn (by decide) (fun n hn=>by simp at hn;omega)]
 unfold CpX.put
 rw [if_pos ⟨rfl,rfl⟩];rfl
theorem JN {num:List UInt8->Int}{ev:Bool}{x:CpX}:x.take num ev []=x:=by
 show x.put ev [] []=x
 unfold CpX.put
 rw [if_neg (fun h=>absurd h.1 (by decide)),if_neg (fun h=>absurd h.1 (by decide)),if_neg (fun h=>absurd h.1 (by decide))]
theorem od {num:List UInt8->Int}(hn:lf num){ev:Bool}:∀{ps:List (List (Nat×Nat))} {x:CpX},(∀p∈ps,kn (flP p))->(ps.map fun p=>lnL de (flP p)).foldl (CpX.take num ev) x={ x with P:=x.P++ps.map fun p=>(dM (p.map Prod.fst),dM (p.map Prod.snd)) }
 | [],x,_=>by simp
 | p :: ps,x,h=>by
   rw [List.map_cons,List.foldl_cons,CL hn (h p (by simp)),od hn fun q hq=>h q (by simp [hq])]
   simp
theorem qX {num:List UInt8->Int}(hn:lf num){ev:Bool}:∀{ss:List (List Nat)} {x:CpX},(∀s∈ss,s.length=4/\kn s)->(ss.map (lnL eU)).foldl (CpX.take num ev) x={ x with S:=x.S++ss.map dM }
 | [],x,_=>by simp
 | s :: ss,x,h=>by
   obtain ⟨h4,hs⟩:=h s (by simp)
   rw [List.map_cons,List.foldl_cons,ET hn h4 hs,qX hn fun q hq=>h q (by simp [hq])]
   simp
theorem OA {num:List UInt8->Int}(hn:lf num){ev:Bool}{e:Nat}{ps:List (List (Nat×Nat))}{ss:List (List Nat)}(he:e<1000000000)(hp:∀p∈ps,kn (flP p))(hs:∀s∈ss,s.length=4/\kn s) :
 rdC num ev (wds 10 (Oy e ps ss))=⟨ps.map fun p=>(dM (p.map Prod.fst),dM (p.map Prod.snd)),ss.map dM,e⟩:=by
 unfold rdC
 rw [J4,List.foldl_append,List.foldl_cons,List.foldl_nil,JN,yf,List.foldl_cons,List.foldl_append,Ex hn he,od hn hp,qX hn hs]
 simp only [List.nil_append]
def atV (w:List UInt8):Int:=match Lib.atoiAll w with
 | .ok n=>n
 | .syntax=>0
 | .range=>Lib.atoiSat w
theorem QD:lf atV:=fun n hn=>by
 unfold atV;rw [N1 (by omega)]
end Go.Proofs.YtgjlhdggllakbaaGreatDoor.Vm
namespace Go.Proofs.YtgjlhdggllakbaaGreatDoor.Vm
open Go
set_option maxRecDepth 100000
attribute [-simp] List.getD_eq_getElem?_getD
attribute [simp] yE yM zo zQ
theorem za {f:HF}:al (bH (zs 48)) 0 (bH (vZ f))=bH (vZ f):=dF (by simp)
theorem yI {f:HF}:al (bH (zs 50)) 0 (bH (vq f))=bH (vq f):=dF (by simp)
theorem HK {f g:HF}:al (bH (vZ g)) 0 (bH (vZ f))=bH (vZ f):=dF (by simp)
theorem Fb {f g:HF}:al (bH (vq g)) 0 (bH (vq f))=bH (vq f):=dF (by simp)
attribute [simp] za yI HK Fb
theorem KQ {f:HF}:rd (some 48) (bH (vZ f)) 0=some (.agg (bH (vZ f))):=ki (by simp)
theorem LK {f:HF}:rd (some 50) (bH (vq f)) 0=some (.agg (bH (vq f))):=ki (by simp)
attribute [simp] KQ LK
def er2 (r w r' w':List Int):Int:=if xk r w=0 then xk r' w' else xk r w
section
variable {lim:Nat}{H:Hp}{av bv:V}{r w r' w':List Int}{K:V->Hp->Prop}
theorem BunV.right {rv:V}{r:List Int}(h:SlV H rv r):BunV H r [] (.agg [rv,.snil]):=.mk h .nil
def kA (l:Int):Nat:=24-(max l 1-1).toNat
@[simp] theorem Sv:kA 0=24:=rfl
@[simp] theorem Su:kA 1=24:=rfl
end
end Go.Proofs.YtgjlhdggllakbaaGreatDoor.Vm
namespace Go.Proofs.YtgjlhdggllakbaaGreatDoor.Vm
open Go
attribute [-simp] List.getD_eq_getElem?_getD
theorem KO:∀(k u:Nat),u<10 ^ (k+1)->(Lib.decDigits u).length<=k+1
 | 0,u,h=>by rw [Lib.decDigits_one (by simpa using h)];simp
 | k + 1,u,h=>by
   by_cases h1:u<10
   ·rw [Lib.decDigits_one h1];simp
   ·rw [nz h1,List.length_append]
    have:=KO k (u / 10) (by rw [Nat.pow_succ] at h;omega)
    simp;omega
def toN (l:List Int):List Nat:=l.map Int.toNat
def rS (r w:List Int):List Int:=PH (op r w) 0
def wS (r w:List Int):List Int:=PH (op r w) 1
def Sh (r w:List Int):List UInt8:=Ss (toN (rS r w)) (toN (wS r w))
def So (x:RdH)(T:List UInt8):Prop:=xk x.r x.w=0/\Sh x.r x.w=T
def pcX (p:Pc):List (Nat×Nat):=(p.s.zip p.a).map fun x=>(x.1.toNat,x.2.toNat)
def smT (s:Sm):List Nat:=[s.A.toNat,s.I.toNat,s.B.toNat,s.J.toNat]
def jQ (c:Cp):List UInt8:=Oy c.e.toNat (c.P.map pcX) (c.S.map smT)
def pcO (ns:List Int):Pc:=⟨(prs ns).1,(prs ns).2⟩
def smO (ns:List Int):Sm:=⟨ns.getD 0 0,ns.getD 1 0,ns.getD 2 0,ns.getD 3 0⟩
def Cp.put (ev:Bool)(x:Cp)(w:List UInt8)(ns:List Int):Cp :=
 if w=ew/\ns.length=1 then { x with e:=ns.headD 0 }
 else if w=de/\(ev=true->ns.length % 2=0) then { x with P:=x.P++[pcO ns] }
 else if w=eU/\ns.length=4 then { x with S:=x.S++[smO ns] }
 else x
def Cp.take (num:List UInt8->Int)(ev:Bool)(x:Cp)(line:List UInt8):Cp:=x.put ev ((wds 32 line).headD []) ((wds 32 line).tail.map num)
def rdK (num:List UInt8->Int)(ev:Bool)(l:List (List UInt8)):Cp:=l.foldl (Cp.take num ev) ⟨[],[],0⟩
def wV (x:CpX):Cp:=⟨x.P.map fun p=>⟨p.1,p.2⟩,x.S.map smO,x.e⟩
theorem P6 {ev:Bool}{x:CpX}{w:List UInt8}{ns:List Int}:wV (x.put ev w ns)=(wV x).put ev w ns:=by
 unfold CpX.put Cp.put
 split
 ·rfl
 ·split
  ·simp [wV,pcO]
  ·split
   ·simp [wV]
   ·rfl
theorem D8 {num:List UInt8->Int}{ev:Bool}:∀{l:List (List UInt8)} {x:CpX},wV (l.foldl (CpX.take num ev) x)=l.foldl (Cp.take num ev) (wV x)
 | [],_=>rfl
 | a :: l,x=>by
   rw [List.foldl_cons,List.foldl_cons,D8]
   congr 1
   exact P6
theorem Qh {num:List UInt8->Int}{ev:Bool}{l:List (List UInt8)}:rdK num ev l=wV (rdC num ev l):=by
 unfold rdK rdC
 rw [D8];rfl
theorem Ec:∀{s a:List Int},a.length=s.length->(∀x∈s,0<=x)->(∀x∈a,0<=x)->dM (((s.zip a).map fun x=>(x.1.toNat,x.2.toNat)).map Prod.fst)=s/\dM (((s.zip a).map fun x=>(x.1.toNat,x.2.toNat)).map Prod.snd)=a
 | [],[],_,_,_=>⟨rfl,rfl⟩
 | x :: s,y :: a,h,hs,ha=>by
   obtain ⟨h1,h2⟩:=Ec (s:=s) (a:=a) (by simpa using h) (fun z hz=>hs z (by simp [hz])) fun z hz=>ha z (by simp [hz])
   have hx:=hs x (by simp)
   have hy:=ha y (by simp)
   constructor
   ·show ((x.toNat:Nat):Int) :: dM (((s.zip a).map fun x=>(x.1.toNat,x.2.toNat)).map Prod.fst)=_
    rw [h1];congr 1;omega
   ·show ((y.toNat:Nat):Int) :: dM (((s.zip a).map fun x=>(x.1.toNat,x.2.toNat)).map Prod.snd)=_
    rw [h2];congr 1;omega
 | [],y :: a,h,_,_=>by simp at h
 | x :: s,[],h,_,_=>by simp at h
theorem zd {l:List Int}{x:Int}(h:x∈l):∃i,i<l.length/\l.getD i 0=x:=by
 obtain ⟨i,hi,e⟩:=List.mem_iff_getElem.1 h
 exact ⟨i,hi,by simp [List.getD_eq_getElem?_getD,hi,e]⟩
structure PcB (p:Pc):Prop where
 len:p.a.length=p.s.length
 l6:p.s.length<=6
 s:∀x∈p.s,0<=x/\x<=359
 a:∀x∈p.a,0<=x/\x<=359
theorem Rq {p:Pc}(h:cg p=true):PcB p:=by
 obtain ⟨h1,h2,h3,_⟩:=co h
 refine ⟨h2,h1.2,fun x hx => ?_,fun x hx => ?_⟩
 ·obtain ⟨i,hi,rfl⟩:=zd hx
  have:=(h3 i hi).1
  omega
 ·obtain ⟨i,hi,rfl⟩:=zd hx
  have:=(h3 i (by omega)).2
  omega
theorem Rf {p:Pc}(h:PcB p):(⟨dM ((pcX p).map Prod.fst),dM ((pcX p).map Prod.snd)⟩:Pc)=p:=by
 obtain ⟨h1,h2⟩:=Ec h.len (fun x hx=>(h.s x hx).1) fun x hx=>(h.a x hx).1
 unfold pcX
 rw [h1,h2]
theorem sM {p:Pc}(h:PcB p):∀n∈flP (pcX p),n<=359:=by
 intro n hn
 unfold flP at hn
 obtain ⟨x,hx,hn⟩:=List.mem_flatMap.1 hn
 unfold pcX at hx
 obtain ⟨y,hy,rfl⟩:=List.mem_map.1 hx
 have h1:=h.s y.1 (List.of_mem_zip (by exact hy)).1
 have h2:=h.a y.2 (List.of_mem_zip (by exact hy)).2
 simp only [List.mem_cons,List.not_mem_nil,or_false] at hn
 rcases hn with rfl | rfl<;>omega
def SmB (s:Sm):Prop:=(0<=s.A/\s.A<=8)/\(0<=s.I/\s.I<=8)/\(0<=s.B/\s.B<=8)/\(0<=s.J/\s.J<=8)
theorem CapOk.smBd {c:Cp}(h:CapOk c):∀s∈c.S,SmB s:=by
 intro s hs
 obtain ⟨i,hi,e⟩:=List.mem_iff_getElem.1 hs
 have e0:c.S.getD i default=s:=by simp [List.getD_eq_getElem?_getD,hi,e]
 have h1:=(gL (h.sm i hi)).1
 rw [e0] at h1
 have hn:=h.np
 obtain ⟨a1,a2,a3,a4⟩:=cK h1.1
 obtain ⟨b1,b2,b3,b4⟩:=cK h1.2
 have k1:=h.ks a1
 have k2:=h.ks b1
 unfold SmB
 omega
theorem CapOk.pcB {c:Cp}(h:CapOk c):∀p∈c.P,PcB p:=by
 intro p hp
 obtain ⟨i,hi,e⟩:=List.mem_iff_getElem.1 hp
 have e0:c.P.getD i default=p:=by simp [List.getD_eq_getElem?_getD,hi,e]
 have:=Rq (h.pc i hi)
 rwa [e0] at this
theorem QF {s:Sm}(h:SmB s):smO (dM (smT s))=s:=by
 obtain ⟨h1,h2,h3,h4⟩:=h
 show (⟨(s.A.toNat:Int),(s.I.toNat:Int),(s.B.toNat:Int),(s.J.toNat:Int)⟩:Sm)=s
 rw [show ((s.A.toNat:Nat):Int)=s.A by omega,show ((s.I.toNat:Nat):Int)=s.I by omega,show ((s.B.toNat:Nat):Int)=s.B by omega,show ((s.J.toNat:Nat):Int)=s.J by omega]
theorem uL {α:Type}{f:α->α}:∀{l:List α},(∀x∈l,f x=x)->l.map f=l
 | [],_=>rfl
 | a :: l,h=>by rw [List.map_cons,h a (by simp),uL fun x hx=>h x (by simp [hx])]
theorem OW {num:List UInt8->Int}(hn:lf num){ev:Bool}{c:Cp}(h:CapOk c):rdK num ev (wds 10 (jQ c))=c:=by
 have he:=h.e
 rw [Qh]
 unfold jQ
 rw [OA hn (by omega) (fun p hp=>by
     obtain ⟨q,hq,rfl⟩:=List.mem_map.1 hp
     intro n hn'
     have:=sM (h.pcB q hq) n hn'
     omega) (fun s hs=>by
     obtain ⟨t,ht,rfl⟩:=List.mem_map.1 hs
     obtain ⟨h1,h2,h3,h4⟩:=h.smBd t ht
     refine ⟨rfl,fun n hn' => ?_⟩
     simp only [smT,List.mem_cons,List.not_mem_nil,or_false] at hn'
     rcases hn' with rfl | rfl | rfl | rfl<;>omega)]
 obtain ⟨P,S,e⟩:=c
 simp only [wV,List.map_map]
 simp only at he
 congr 1
 ·exact uL fun p hp=>Rf (h.pcB p hp)
 ·exact uL fun s hs=>QF (h.smBd s hs)
 ·omega
def LH (x:Cp)(T:List UInt8):Prop:=cF x=0/\jQ x=T
instance {x:Cp}{T:List UInt8}:Decidable (LH x T):=by unfold LH;infer_instance
def noC:Cp:=⟨[],[],0⟩
def uF (x:Cp)(T:List UInt8):Cp×Int:=if 4000<T.length then (noC,4) else if LH x T then (x,0) else (noC,3)
theorem Fz {x:Cp}{T:List UInt8}(h:4000<T.length):uF x T=(noC,4):=by unfold uF;rw [if_pos h]
theorem xl {x:Cp}{T:List UInt8}(h:¬4000<T.length)(h2:LH x T):uF x T=(x,0):=by unfold uF;rw [if_neg h,if_pos h2]
theorem Ed {x:Cp}{T:List UInt8}(h:¬4000<T.length)(h2:¬LH x T):uF x T=(noC,3):=by unfold uF;rw [if_neg h,if_neg h2]
theorem ddl {u:Nat}(h:u<=999):(Lib.decDigits u).length<=3:=KO 2 u (by omega)
theorem tU {c:UInt8}:∀{l:List Nat},(∀n∈l,n<=999)->(gV c l).length<=4*l.length
 | [],_=>by simp [gV]
 | n :: l,h=>by
   have h1:=tU (c:=c) (l:=l) fun m hm=>h m (by simp [hm])
   have h2:=ddl (h n (by simp))
   rw [nk,List.length_cons,List.length_append,List.length_cons]
   omega
end Go.Proofs.YtgjlhdggllakbaaGreatDoor.Vm
namespace Go.Proofs.YtgjlhdggllakbaaGreatDoor.Vm
open Go
set_option maxRecDepth 100000
attribute [-simp] List.getD_eq_getElem?_getD
def bA (l:List UInt8):ByteArray:=⟨l.toArray⟩
theorem jy {l:List UInt8}:(bA l).size=l.length:=by show l.toArray.size=_;simp
theorem QW {l m:List UInt8}:bA l++bA m=bA (l++m):=by
 have h:(bA l++bA m).data=(bA (l++m)).data:=by simp [bA]
 generalize bA l++bA m=a at h
 generalize bA (l++m)=b at h
 cases a;cases b;simp at h;subst h;rfl
theorem NS {s:ByteArray}:bA s.data.toList=s:=by cases s;rfl
theorem ix {l:List UInt8}:(bA l).data.toList=l:=by simp [bA]
theorem G6 {s:ByteArray}:jH (.str s)=some (.int .i64 s.size):=Eq.trans rfl rfl
attribute [simp] G6
theorem mQ {l m:List UInt8}(h:l.length+m.length<=1000000):bU .add (.str (bA l)) (.str (bA m))=some (.str (bA (l++m))):=by
 have:(bA l).size+(bA m).size<=1000000:=by rw [jy,jy];exact h
 simp only [bU];rw [if_pos (by omega),QW]
def jT:Cod ByteArray 1:=⟨fun s=>[.str s],fun _=>rfl⟩
theorem QK {s:ByteArray}{a b:Nat}:s.extract a b=bA ((s.data.toList.take b).drop a):=by
 obtain ⟨⟨l⟩⟩:=s
 have h:((⟨⟨l⟩⟩:ByteArray).extract a b).data=(bA ((l.take b).drop a)).data:=by
  simp [bA,ByteArray.data_extract]
  rw [List.drop_take]
 generalize (⟨⟨l⟩⟩:ByteArray).extract a b=x at h
 generalize bA ((l.take b).drop a)=y at h
 cases x;cases y;simp at h;subst h;rfl
theorem Ri {s:ByteArray}{a b:Nat}(h1:a<=b)(h2:b<=s.size):AX (.str s) (some (.int .i64 (a:Int))) (some (.int .i64 (b:Int)))=some (.str (bA ((s.data.toList.take b).drop a))):=by
 simp only [AX,bT,eK]
 rw [if_pos (by omega),if_pos (by omega)]
 simp only [Int.toNat_natCast,QK]
end Go.Proofs.YtgjlhdggllakbaaGreatDoor.Vm
namespace Go.Proofs.YtgjlhdggllakbaaGreatDoor.Vm
open Go
set_option maxRecDepth 100000
attribute [-simp] List.getD_eq_getElem?_getD
theorem Jl {c:UInt8}{l m:List Nat}:gV c (l++m)=gV c l++gV c m:=by simp [gV]
theorem IT {c:UInt8}{n:Nat}:gV c [n]=c :: Lib.decDigits n:=by simp [gV]
theorem J6 {l:List Int}{i:Nat}(h:i<l.length):toN (l.take (i+1))=toN (l.take i)++[(l.getD i 0).toNat]:=by
 rw [List.take_add_one,List.getElem?_eq_getElem h]
 have:l.getD i 0=l[i]:=by rw [List.getD_eq_getElem?_getD,List.getElem?_eq_getElem h];rfl
 rw [this]
 unfold toN
 rw [List.map_append];rfl
theorem Hz {l:List Int}{i:Nat}(h:i<l.length):gV 32 (toN (l.take (i+1)))=gV 32 (toN (l.take i))++32 :: Lib.decDigits (l.getD i 0).toNat:=by
 rw [J6 h,Jl,IT]
end Go.Proofs.YtgjlhdggllakbaaGreatDoor.Vm
namespace Go.Proofs.YtgjlhdggllakbaaGreatDoor.Vm
open Go
set_option maxRecDepth 100000
attribute [-simp] List.getD_eq_getElem?_getD
def Apt (a b:V):Prop:=∀k o z y o' z' y',a=.sl k o z y->b=.sl k o' z' y'->False
theorem Apt.symm {a b:V}(h:Apt a b):Apt b a:=fun k o z y o' z' y' h1 h2=>h k o' z' y' o z y h2 h1
theorem mV {c:UInt8}:∀l:List UInt8,(wds c l).length<=l.length+1
 | []=>by simp [wds]
 | b :: l=>by
   have:=mV (c:=c) l
   rw [wds]
   split
   ·simp;omega
   ·split
    ·simp
    ·rename_i w ws e;rw [e] at this;simp at this ⊢;omega
theorem pI {c:UInt8}:∀(l:List UInt8),∀w∈wds c l,w.length≤l.length
 | [],w,h=>by simp [wds] at h;rw [h];simp
 | b :: l,w,h=>by
   have ih:=pI (c:=c) l
   rw [wds] at h
   split at h
   ·rcases List.mem_cons.1 h with rfl | h
    ·simp
    ·have:=ih w h;simp;omega
   ·split at h
    ·simp at h;rw [h];simp
    ·rename_i w' ws e
     rw [e] at ih
     rcases List.mem_cons.1 h with rfl | h
     ·have:=ih w' (by simp);simp;omega
     ·have:=ih w (by simp [h]);simp;omega
instance {x:RdH}{T:List UInt8}:Decidable (So x T):=inferInstanceAs (Decidable (_/\_))
theorem Di {W:List UInt8}{s:ByteArray}:bU .neq (.str (bA W)) (.str s)=some (.bool (!(decide (W=s.data.toList)))):=by
 simp only [bU]
 rw [Lib.toList_data,Lib.toList_data,ix]
 by_cases h:W=s.data.toList
 ·simp [h]
 ·simp [h]
def PY:ByteArray:=⟨#[48,49,50,51,52,53,54,55,56,57,97,98,99,100,101,102,103,104,105,106,107,108,109,110,111,112,113,114,115,116,117,118,119,120,121,122]⟩
def smL:ByteArray:=⟨#[48,48,48,49,48,50,48,51,48,52,48,53,48,54,48,55,48,56,48,57,49,48,49,49,49,50,49,51,49,52,49,53,49,54,49,55,49,56,49,57,50,48,50,49,50,50,50,51,50,52,50,53,50,54,50,55,50,56,50,57,51,48,51,49,51,50,51,51,51,52,51,53,51,54,51,55,51,56,51,57,52,48,52,49,52,50,52,51,52,52,52,53,52,54,52,55,52,56,52,57,53,48,53,49,53,50,53,51,53,52,53,53,53,54,53,55,53,56,53,57,54,48,54,49,54,50,54,51,54,52,54,53,54,54,54,55,54,56,54,57,55,48,55,49,55,50,55,51,55,52,55,53,55,54,55,55,55,56,55,57,56,48,56,49,56,50,56,51,56,52,56,53,56,54,56,55,56,56,56,57,57,48,57,49,57,50,57,51,57,52,57,53,57,54,57,55,57,56,57,57]⟩
theorem HZ {n:Nat}(h:n<10):AX (.str PY) (some (.int .i64 (n:Int))) (some (.int .i64 ((n:Int)+1)))=some (.str (bA (Lib.decDigits n))):=by
 rw [Lib.decDigits_one h]
 match n,h with
 | 0,_=>rfl
 | 1,_=>rfl
 | 2,_=>rfl
 | 3,_=>rfl
 | 4,_=>rfl
 | 5,_=>rfl
 | 6,_=>rfl
 | 7,_=>rfl
 | 8,_=>rfl
 | 9,_=>rfl
theorem MW:∀n,n<100->(smL.data.toList.take (2*n+2)).drop (2*n)=[UInt8.ofNat (48+n / 10),UInt8.ofNat (48+n % 10)]:=by decide +kernel
theorem Q8 {n:Nat}(h1:¬n<10)(h2:n<100){a b:Int}(ha:a=2*n)(hb:b=2*n+2):AX (.str smL) (some (.int .i64 a)) (some (.int .i64 b))=some (.str (bA (Lib.decDigits n))):=by
 have e1:a=((2*n:Nat):Int):=by omega
 have e2:b=((2*n+2:Nat):Int):=by omega
 have hz:smL.size=200:=by decide +kernel
 rw [e1,e2,Ri (by omega) (by omega),MW n h2,Lib.decDigits_two h1 h2]
theorem Pk {H:Hp}{lim n:Nat}{K:V->Hp->Prop}(h2:n<100)(hK:K (.str (bA (Lib.decDigits n))) H):aF tbl lim 102 [.int .i64 (n:Int)] H K:=by
 refine ao tbl_at102 rfl ?_
 by_cases h1:n<10
 ·have h1':((n:Int)<10)=True:=eq_true (by omega)
  have:=HZ h1
  simp only [PY] at this
  simp (disch:=omega) [vf102,h1',this,ae]
  exact hK
 ·have h1':((n:Int)<10)=False:=eq_false (by omega)
  have:=Q8 h1 h2 (a:=(n:Int)*2) (b:=(n:Int)*2+2) (by omega) (by omega)
  simp only [smL] at this
  simp (disch:=omega) [vf102,h1',this,ae]
  exact hK
theorem P5 {n:Nat}:bU .shr (.int .i64 (n:Int)) (.int .u64 18)=some (.int .i64 ((n / 262144:Nat):Int)):=by
 show some (V.int .i64 (Int.fdiv (n:Int) ((262144:Nat):Int)))=_
 rw [fdN]
def nD (n:Nat):Nat:=if n<1000 then 3 else if n<10000 then 4 else if n<100000 then 5 else if n<1000000 then 6 else 7
def lq (n:Nat):Nat:=if n<512 then 2 else if n<8192 then 3 else if n<65536 then 4 else if n<524288 then 5 else 6
theorem RZ {n:Nat}(h1:100<=n)(h2:n<=1000000):pw n*78913 / 262144=lq n/\pw n<=20:=by
 unfold pw lq bl8
 repeat' split
 all_goals omega
theorem Nm {H:Hp}{lim n:Nat}{K:V->Hp->Prop}(h1:100<=n)(h2:n<=1000000)(hK:K (.int .i64 (lq n:Nat)) H):aF tbl lim 122 [.int .i64 (pw n:Nat)] H K:=by
 refine ao tbl_at122 rfl ?_
 obtain ⟨a,b⟩:=RZ h1 h2
 have hs:=P5 (n:=pw n*78913)
 rw [a] at hs
 have e:((pw n*78913:Nat):Int)=(pw n:Int)*78913:=by omega
 rw [e] at hs
 simp (disch:=omega) [vf122,ae,hs]
 exact hK
theorem D5 {H:Hp}{lim:Nat}{b:Bool}{K:V->Hp->Prop}(hK:K (.int .i64 (if b then 1 else 0)) H):aF tbl lim 123 [.bool b] H K:=by
 refine ao tbl_at123 rfl ?_
 cases b<;>simp [vf123] at hK ⊢<;>exact hK
theorem y9 {H:Hp} {lim n:Nat} {K:V→Hp→Prop} (hg:HX dQ H) (h1:100≤n) (h2:n≤1000000) (hK:K (.int .i64 (nD n:Nat)) H):aF tbl lim 103 [.int .u64 (n:Int)] H K:=by
 refine ao tbl_at103 rfl ?_
 simp [vf103]
 refine Dm h2 ?_
 simp
 refine Nm h1 h2 ?_
 simp
 obtain ⟨X,rfl⟩:=hg
 have d2:∀{L:Lo},aW none L (dQ++X) (.ptr 0 2)=some (.int .u64 100):=fun {L}=>rfl
 have d3:∀{L:Lo},aW none L (dQ++X) (.ptr 0 3)=some (.int .u64 1000):=fun {L}=>rfl
 have d4:∀{L:Lo},aW none L (dQ++X) (.ptr 0 4)=some (.int .u64 10000):=fun {L}=>rfl
 have d5:∀{L:Lo},aW none L (dQ++X) (.ptr 0 5)=some (.int .u64 100000):=fun {L}=>rfl
 have d6:∀{L:Lo},aW none L (dQ++X) (.ptr 0 6)=some (.int .u64 1000000):=fun {L}=>rfl
 have a2:bV 20 1 (.ptr 0 0) (.int .i64 2)=some (.ptr 0 2):=rfl
 have a3:bV 20 1 (.ptr 0 0) (.int .i64 3)=some (.ptr 0 3):=rfl
 have a4:bV 20 1 (.ptr 0 0) (.int .i64 4)=some (.ptr 0 4):=rfl
 have a5:bV 20 1 (.ptr 0 0) (.int .i64 5)=some (.ptr 0 5):=rfl
 have a6:bV 20 1 (.ptr 0 0) (.int .i64 6)=some (.ptr 0 6):=rfl
 generalize dQ++X=H at *
 have fin : ∀ (q p:Nat),(q:Int)=(lq n:Nat)→bV 20 1 (.ptr 0 0) (.int .i64 (q:Int))=some (.ptr 0 q)→(∀{L:Lo},aW none L H (.ptr 0 q)=some (.int .u64 (p:Int)))→q≤6→(nD n=if p≤n then q+1 else q)→ic tbl lim [] H (af [] H (bV 20 1 (V.ptr 0 0) (V.int IntKind.i64 ((lq n:Nat):Int)))) (FL tbl lim (some 10)
  [oL 11 10,oP 12 (VOp.bin BinOp.geq (Opd.t 8) (Opd.t 11)),oP 13 (VOp.call 123 [Opd.t 12]),
   oP 14 (VOp.bin BinOp.add (Opd.t 7) (Opd.t 13)),oM 2 14]
  (kV (bx tbl lim VCode.ret (fnQ [VRes.tmp 2] K)) (fnQ [VRes.tmp 2] K) VExit.normal)
  (upd
   (upd
    (upd
     (upd
      (upd
       (upd (upd (upd (fr0 [V.int IntKind.u64 ↑n]) 2 (V.int IntKind.i64 0)) 4 (V.int IntKind.u64 ↑n)) 5
        (V.int IntKind.i64 ↑(pw n)))
       6 (V.int IntKind.i64 ↑(lq n)))
      3 (V.int IntKind.i64 ↑(lq n)))
     7 (V.int IntKind.i64 ↑(lq n)))
    8 (V.int IntKind.u64 ↑n))
   9 (V.int IntKind.i64 ↑(lq n)))):=by
  intro q p hq ha hd hq6 hnd
  rw [←hq]
  by_cases hp:p<=n
  ·have hp':((p:Int)<=(n:Int))=True:=eq_true (by omega)
   simp [ha,hd,hp']
   refine D5 ?_
   rw [if_pos hp] at hnd
   simp (disch:=omega) [ae]
   rw [hnd] at hK
   have e:((q+1:Nat):Int)=(q:Int)+1:=by omega
   rw [e] at hK
   exact hK
  ·have hp':((p:Int)<=(n:Int))=False:=eq_false (by omega)
   simp [ha,hd,hp']
   refine D5 ?_
   rw [if_neg hp] at hnd
   simp (disch:=omega) [ae]
   rw [hnd] at hK
   exact hK
 by_cases k1:n<512
 ·exact fin 2 100 (by simp [lq,k1]) a2 d2 (by omega) (by unfold nD;rw [if_pos (by omega),if_pos h1])
 by_cases k2:n<8192
 ·exact fin 3 1000 (by simp [lq,k1,k2]) a3 d3 (by omega) (by unfold nD;(repeat' split)<;>omega)
 by_cases k3:n<65536
 ·exact fin 4 10000 (by simp [lq,k1,k2,k3]) a4 d4 (by omega) (by unfold nD;(repeat' split)<;>omega)
 by_cases k4:n<524288
 ·exact fin 5 100000 (by simp [lq,k1,k2,k3,k4]) a5 d5 (by omega) (by unfold nD;(repeat' split)<;>omega)
 ·exact fin 6 1000000 (by simp [lq,k1,k2,k3,k4]) a6 d6 (by omega) (by unfold nD;(repeat' split)<;>omega)
end Go.Proofs.YtgjlhdggllakbaaGreatDoor.Vm
namespace Go.Proofs.YtgjlhdggllakbaaGreatDoor.Vm
open Go
set_option maxRecDepth 100000
attribute [-simp] List.getD_eq_getElem?_getD
theorem Sc:∀k,k<100->smL.data.toList.getD (2*k) 0=UInt8.ofNat (48+k / 10):=by decide +kernel
theorem R5:∀k,k<100->smL.data.toList.getD (2*k+1) 0=UInt8.ofNat (48+k % 10):=by decide +kernel
theorem P3 {j d:Nat}(hj:j<200)(hd:d<10)(h:smL.data.toList.getD j 0=UInt8.ofNat (48+d)):dV (.str smL) (.int .u32 (j:Int))=some (.int .u8 ((48+d:Nat):Int)):=by
 have hz:smL.size=200:=by decide +kernel
 simp only [dV,eK]
 rw [if_pos (by omega)]
 have:smL.data.getD ((j:Int)).toNat 0=UInt8.ofNat (48+d):=by
  rw [Int.toNat_natCast,←h,Array.getD_eq_getD_getElem?,List.getD_eq_getElem?_getD,Array.getElem?_toList]
 rw [this]
 congr 2
 simp;omega
theorem QI {H:Hp}{lim off:Nat}{cs:List V}{v:V}(hl:lim<=H.length)(h:off+1<=cs.length):bW lim (H++[.row cs true]) H.length off [v]=some (H++[.row (al cs off [v]) true]):=by
 simp only [bW,hl,if_true,List.getElem?_concat_length,List.length_cons,List.length_nil,Nat.zero_add,h]
 congr 1
 rw [List.set_append_right _ _ (Nat.le_refl _),Nat.sub_self];rfl
theorem NH {H:Hp}{lim n:Nat}{K:V->Hp->Prop}(hlim:lim<=H.length)(h1:100<=n)(h2:n<1000)
 (hK:K (.tup []) (H++[.row (al (List.replicate 24 (.int .u8 0)) 1 [.int .u8 ((48+n / 100:Nat):Int),.int .u8 ((48+n / 10 % 10:Nat):Int),.int .u8 ((48+n % 10:Nat):Int)]) true])):aF tbl lim 104 [.sl H.length 1 3 1,.int .u64 (n:Int)] (H++[.row (List.replicate 24 (.int .u8 0)) true]) K:=by
 refine ao tbl_at104 rfl ?_
 obtain ⟨a,ha⟩:∃a:Nat,a=n % 100:=⟨_,rfl⟩
 obtain ⟨c,hc⟩:∃c:Nat,c=n / 100:=⟨_,rfl⟩
 obtain ⟨j,hj⟩:∃j:Nat,j=2*a:=⟨_,rfl⟩
 have r1:Int.tmod (n:Int) 100=(a:Int):=by rw [Int.tmod_eq_emod_of_nonneg (by omega)];omega
 have q1:Int.tdiv (n:Int) 100=(c:Int):=by rw [Int.tdiv_eq_ediv_of_nonneg (by omega)];omega
 have w0:IntKind.wrap .u32 (n:Int)=(n:Int):=by simp [IntKind.wrap,IntKind.bits,IntKind.signed];omega
 have w1:IntKind.wrap .u32 ((a:Int)*2)=(j:Int):=by simp [IntKind.wrap,IntKind.bits,IntKind.signed];omega
 have w2:IntKind.wrap .u32 ((j:Int)+1)=(j:Int)+1:=by simp [IntKind.wrap,IntKind.bits,IntKind.signed];omega
 have w3:IntKind.wrap .u32 (c:Int)=(c:Int):=by simp [IntKind.wrap,IntKind.bits,IntKind.signed];omega
 have w4:IntKind.wrap .u32 (48+(c:Int))=48+(c:Int):=by simp [IntKind.wrap,IntKind.bits,IntKind.signed];omega
 have w5:IntKind.wrap .u8 (48+(c:Int))=48+(c:Int):=by simp [IntKind.wrap,IntKind.bits,IntKind.signed];omega
 have x1:=P3 (j:=2*a+1) (d:=a % 10) (by omega) (by omega) (R5 a (by omega))
 have x0:=P3 (j:=2*a) (d:=a / 10) (by omega) (by omega) (Sc a (by omega))
 rw [←hj] at x0 x1
 have ej:((j+1:Nat):Int)=(j:Int)+1:=by omega
 rw [ej] at x1
 have e1:48+n / 100=48+c:=by omega
 have e2:48+n / 10 % 10=48+a / 10:=by omega
 have e3:48+n % 10=48+a % 10:=by omega
 rw [e1,e2,e3] at hK
 obtain ⟨d0,hd0⟩:∃d,d=48+a / 10:=⟨_,rfl⟩
 obtain ⟨d1,hd1⟩:∃d,d=48+a % 10:=⟨_,rfl⟩
 rw [←hd0] at x0 hK
 rw [←hd1] at x1 hK
 simp only [smL] at x0 x1
 simp [vf104]
 refine oE ?_
 have y2:aQ 1 (.sl H.length 1 3 1) (.int .i64 2)=some (.ptr H.length 3):=by simp [aQ,eK]
 have y1:aQ 1 (.sl H.length 1 3 1) (.int .i64 1)=some (.ptr H.length 2):=by simp [aQ,eK]
 have y0:aQ 1 (.sl H.length 1 3 1) (.int .i64 0)=some (.ptr H.length 1):=by simp [aQ,eK]
 simp (disch:=first | omega | (simp;done)) [w0,r1,q1,w1,w2,w3,w4,w5,x0,x1,y0,y1,y2,ae,QI,al]
 have ec:((48+c:Nat):Int)=48+(c:Int):=by omega
 rw [ec] at hK
 simp [al] at hK
 exact hK
end Go.Proofs.YtgjlhdggllakbaaGreatDoor.Vm
namespace Go.Proofs.YtgjlhdggllakbaaGreatDoor.Vm
open Go
set_option maxRecDepth 100000
attribute [-simp] List.getD_eq_getElem?_getD
theorem dd3 {n:Nat}(h1:100<=n)(h2:n<1000):Lib.decDigits n=[UInt8.ofNat (48+n / 100),UInt8.ofNat (48+n / 10 % 10),UInt8.ofNat (48+n % 10)]:=by
 rw [nz (by omega),nz (by omega),Lib.decDigits_one (by omega),show n / 10 / 10=n / 100 by omega];rfl
theorem sO:∀{ds:List Nat},(∀d∈ds,d<256)->ky (ds.map fun d:Nat=>V.int .u8 (d:Int))=some (ds.map UInt8.ofNat)
 | [],_=>rfl
 | d :: ds,h=>by
   have hd:=h d (by simp)
   have ih:=sO (ds:=ds) fun x hx=>h x (by simp [hx])
   simp only [List.map_cons,ky,uD,ih]
   simp
theorem Qd {H:Hp}{ds:List Nat}(h:∀d∈ds,d<256)(hl:ds.length<=20):sY (H++[.row (al (List.replicate 24 (.int .u8 0)) 1 (ds.map fun d:Nat=>V.int .u8 (d:Int))) true]) (.sl H.length 1 ds.length 1)=some (.str (bA (ds.map UInt8.ofNat))):=by
 have e:dD 1 (H++[.row (al (List.replicate 24 (.int .u8 0)) 1 (ds.map fun d:Nat=>V.int .u8 (d:Int))) true]) (.sl H.length 1 ds.length 1)=some (ds.map fun d:Nat=>V.int .u8 (d:Int)):=by
  simp only [dD,List.getElem?_concat_length]
  have e1:(al (List.replicate 24 (V.int .u8 0)) 1 (ds.map fun d:Nat=>V.int .u8 (d:Int)))=(V.int .u8 0) :: ((ds.map fun d:Nat=>V.int .u8 (d:Int))++(List.replicate 24 (V.int .u8 0)).drop (1+ds.length)):=by
   simp [al]
  rw [e1]
  simp
  omega
 simp only [sY,e,sO h]
 rfl
theorem PQ {H:Hp}{R:List V}{d:Nat}(hR:R.length=24)(h1:1<=d)(h2:d<=20):HW 24 1 (H++[.row R true]) (.ptr H.length 0) (some (.int .i64 1)) (some (.int .i64 (1+(d:Int))))=some (.sl H.length 1 d 1):=by
 have hb:bT 24 (some (.int .i64 1)) (some (.int .i64 (1+(d:Int))))=some (1,1+d):=by
  simp only [bT,eK]
  rw [if_pos (by omega),if_pos (by omega)]
  congr 2
 have e1:¬(1=1+d):=by omega
 have e2:1+d-1=d:=by omega
 simp only [HW,List.getElem?_concat_length,hR,hb,e1,e2,if_false]
 simp
theorem BN {R cs:List V}{o:Nat}(h:o+cs.length<=R.length):(al R o cs).length=R.length:=by
 simp [al];omega
theorem zr:List.replicate 24 (V.int .u8 0)=[V.int .u8 0,V.int .u8 0,V.int .u8 0,V.int .u8 0,V.int .u8 0,V.int .u8 0,V.int .u8 0,V.int .u8 0,V.int .u8 0,V.int .u8 0,V.int .u8 0,V.int .u8 0,V.int .u8 0,V.int .u8 0,V.int .u8 0,V.int .u8 0,V.int .u8 0,V.int .u8 0,V.int .u8 0,V.int .u8 0,V.int .u8 0,V.int .u8 0,V.int .u8 0,V.int .u8 0]:=Eq.trans rfl rfl
def Kf (H:Hp) (lim n:Nat):Prop:=∃ds:List Nat,nD n=ds.length∧(∀d∈ds,d<256)∧1≤ds.length∧ds.length≤7∧ds.map UInt8.ofNat=Lib.decDigits n ∧
    (∀K':V->Hp->Prop,K' (.tup []) (H++[.row (al (List.replicate 24 (.int .u8 0)) 1 (ds.map fun d:Nat=>V.int .u8 (d:Int))) true])->aF tbl lim 104 [.sl H.length 1 ds.length 1,.int .u64 (n:Int)] (H++[.row (List.replicate 24 (.int .u8 0)) true]) K')
theorem OL {H:Hp}{lim n:Nat}(hlim:lim<=H.length)(h1:100<=n)(c3:n<1000):Kf H lim n :=
 ⟨[48+n / 100,48+n / 10 % 10,48+n % 10],by unfold nD;simp [c3],by simp;omega,by simp,by simp,by rw [dd3 h1 c3];rfl,fun K' h=>NH hlim h1 c3 h⟩
theorem Mi {H:Hp}{lim n:Nat}{K:V->Hp->Prop}(hg:HX dQ H)(hlim:lim<=H.length)(hn:n<=1000000)(hb:100<=n->Kf H lim n)(hK:∀H',HX H H'->K (.str (bA (Lib.decDigits n))) H'):aF tbl lim 74 [.int .i64 (n:Int),.int .i64 10] H K:=by
 refine ao tbl_at74 rfl ?_
 have p0:((0:Int)<=(n:Int))=True:=eq_true (by omega)
 have p1:((n:Int)<0)=False:=eq_false (by omega)
 by_cases h1:n<100
 ·have h1':((n:Int)<100)=True:=eq_true (by omega)
  simp [vf74,p0,h1']
  refine Pk h1 ?_
  simp
  exact hK H .refl
 ·have h1':((n:Int)<100)=False:=eq_false (by omega)
  have wu:IntKind.wrap .u64 (n:Int)=(n:Int):=by simp [IntKind.wrap,IntKind.bits,IntKind.signed];omega
  simp [vf74,p0,p1,h1',wu]
  refine y9 (hg.trans ⟨_,rfl⟩) (by omega) hn ?_
  simp
  obtain ⟨ds,e1,e2,e3,e4,e5,e6⟩:=hb (show 100<=n by omega)
  have eI:((nD n:Nat):Int)=(ds.length:Int):=by rw [e1]
  have w1:IntKind.wrap .i64 (1+(ds.length:Int))=1+(ds.length:Int):=ae (by omega) (by omega)
  have sA:=PQ (H:=H) (R:=List.replicate 24 (V.int .u8 0)) (d:=ds.length) (by simp) e3 (by omega)
  have hR:(al (List.replicate 24 (V.int .u8 0)) 1 (ds.map fun d:Nat=>V.int .u8 (d:Int))).length=24:=by rw [BN (by simp;omega)];simp
  have sB:=PQ (H:=H) (d:=ds.length) hR e3 (by omega)
  have sC:=Qd (H:=H) e2 (by omega)
  rw [e5] at sC
  rw [zr] at sA sB sC e6
  rw [eI]
  simp [w1,sA]
  refine e6 _ ?_
  generalize al _ 1 (ds.map fun d:Nat=>V.int .u8 (d:Int))=R at *
  simp [w1,p1,sB,sC,eI]
  exact hK _ ⟨_,rfl⟩
theorem QH {H:Hp}{lim n:Nat}{K:V->Hp->Prop}(hg:HX dQ H)(hlim:lim<=H.length)(hn:n<=1000000)(hb:100<=n->Kf H lim n)(hK:∀H',HX H H'->K (.str (bA (Lib.decDigits n))) H'):aF tbl lim 37 [.int .i64 (n:Int)] H K:=by
 refine ao tbl_at37 rfl ?_
 simp [vf37]
 refine ao tbl_at61 rfl ?_
 simp [vf61]
 refine Mi hg hlim hn hb fun H1 x1 => ?_
 simp
 exact hK H1 x1
theorem NT {H:Hp}{lim n:Nat}{K:V->Hp->Prop}(hg:HX dQ H)(hlim:lim<=H.length)(hn:n<=999)(hK:∀H',HX H H'->K (.str (bA (Lib.decDigits n))) H'):aF tbl lim 37 [.int .i64 (n:Int)] H K:=QH hg hlim (by omega) (fun h=>OL hlim h (by omega)) hK
end Go.Proofs.YtgjlhdggllakbaaGreatDoor.Vm
