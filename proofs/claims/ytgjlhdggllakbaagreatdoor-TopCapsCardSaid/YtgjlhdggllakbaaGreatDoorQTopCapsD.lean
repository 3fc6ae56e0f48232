/- Texts of bundles over the machine: the program's side. -/
import Derived.Test.YtgjlhdggllakbaaGreatDoorQTopCapsC
import Derived.Test.YtgjlhdggllakbaaGreatDoorQTopCapsA
import Derived.Test.YtgjlhdggllakbaaGreatDoorVmFlat
import Derived.Test.YtgjlhdggllakbaaGreatDoorVmRec
import Derived.Test.YtgjlhdggllakbaaGreatDoorRows
import Derived.Test.YtgjlhdggllakbaaGreatDoorChecked
import Derived.Stop.LaidErr
import Derived.Lay
import Derived.KernelRfl
set_option linter.unusedVariables false
set_option linter.unusedSimpArgs false
set_option linter.unusedSectionVars false
namespace Go.Proofs.YtgjlhdggllakbaaGreatDoor.Vm
open Go
set_option maxRecDepth 100000
attribute [-simp] List.getD_eq_getElem?_getD
theorem xd {H:Hp}{lim:Nat}{c:UInt8}{s:ByteArray}{K:V->Hp->Prop}(hs:s.size<4294967281)(hK:K (.sl H.length 0 (wds c s.data.toList).length 1) (H++[.row (jT.all ((wds c s.data.toList).map bA)) true])):aF tbl lim 42 [.str s,.str ⟨#[c]⟩] H K:=by
 have hw:lK s c=(wds c s.data.toList).map bA:=by
  have h1:=Lib.splitB_data ⟨#[c]⟩ 0 (Lib.countB s ⟨#[c]⟩) s
  have h2:Lib.splitK [c] 0 (Lib.countB s ⟨#[c]⟩) s.data.toList=wds c s.data.toList:=to _ _ (rk s c).symm
  have h3:(lK s c).map (fun a:ByteArray=>a.data.toList)=wds c s.data.toList:=h1.trans h2
  rw [←h3,List.map_map]
  have:(lK s c).map (bA∘fun a:ByteArray=>a.data.toList)=(lK s c).map id:=List.map_congr_left fun a _=>NS
  rw [this,List.map_id]
 refine jF (g:=qS) (bs:=[.row (jT.all ((wds c s.data.toList).map bA)) true]) tbl_at42 rfl rfl (v:=.sl H.length 0 (wds c s.data.toList).length 1) ?_ hK
 have h5:∀l:List ByteArray,jT.all l=l.map V.str:=fun l=>by
  induction l with
  | nil=>rfl
  | cons a l ih=>rw [Cod.all_cons,ih];rfl
 have h6:((wds c s.data.toList).map bA |>.map V.str).all hJ=true:=by
  rw [List.all_eq_true]
  intro x hx
  obtain ⟨a,-,rfl⟩:=List.mem_map.1 hx
  rfl
 have hg:BP [.str s,.str ⟨#[c]⟩]=some (((wds c s.data.toList).map bA).map V.str):=by
  show (if s.size<4294967281 then some ((lK s c).map V.str) else none)=_
  rw [if_pos hs,hw]
 have hf:([V.str s,V.str ⟨#[c]⟩]:List V).all hJ=true:=rfl
 simp only [qS,Pi,hf,hg,h6,Bool.and_self,if_true,List.length_map,h5]
theorem Ov {H:Hp}(h:HX dQ H):QQ H=true:=by
 obtain ⟨X,rfl⟩:=h
 rfl
theorem Sk (l:List UInt8):(∃n,Lib.atoiAll l=.ok n)\/Lib.atoiAll l=.syntax\/Lib.atoiAll l=.range:=by
 cases Lib.atoiAll l<;>simp
theorem qq:∀{l:List ByteArray},jT.all l=l.map V.str
 | []=>rfl
 | a :: l=>by rw [Cod.all_cons,qq (l:=l)];rfl
end Go.Proofs.YtgjlhdggllakbaaGreatDoor.Vm
namespace Go.Proofs.YtgjlhdggllakbaaGreatDoor.Vm
open Go
set_option maxRecDepth 100000
set_option maxHeartbeats 1000000
attribute [-simp] List.getD_eq_getElem?_getD
theorem KG {lim n:Nat}{H:Hp}{v y:V}{a l:List Int}(h:OwnV n H v a)(hy:SlV H y l)(hlim:lim<=n)(hn:n<=H.length)(hl:a.length<1000000/\l.length<1000000) :
 ∃v' H',aP lim 1 8 H v y=some (v',H')/\OwnV n H' v' (a++l)/\(∀H0,HX H0 H->H0.length<=n->HX H0 H')/\n<=H'.length:=by
 cases h with
 | nil =>
   obtain ⟨v',H',e,o,x⟩:=xN (lim:=lim) hy hn hl.2
   exact ⟨v',H',e,by simpa using o,fun H0 h0 _=>h0.trans x,by have:=x.len;omega⟩
 | row h1 h3 =>
   rename_i b
   have hb:=(List.getElem?_eq_some_iff.1 h3).1
   refine ⟨.sl H.length 0 (a++l).length 1,H.set b .dead++[.row (bH (a++l)) true],?_,.row hn ?_,fun H0 hx hk => ?_,by simp;omega⟩
   ·simp only [aP,hy.cells,hy.len]
    simp [h3,show lim<=b by omega,show (a.length+l.length)*8<=140737488355328 by omega,show a.length+l.length<4611686018427387904 by omega]
    simp [bH]
   ·have:H.length=(H.set b .dead).length:=by simp
    rw [this];exact List.getElem?_concat_length
   ·obtain ⟨X,rfl⟩:=hx
    refine HX.of (by simp;omega) fun i hi => ?_
    rw [List.getElem?_append_left (by simp;omega),List.getElem?_set_ne (by omega),List.getElem?_append_left hi]
def pm (p:Pc)(i:Nat):List Int:=((p.s.zip p.a).take i).flatMap fun x=>[x.1,x.2]
theorem II {p:Pc}(h:p.a.length=p.s.length){i:Nat}(hi:i<p.s.length):pm p (i+1)=pm p i++[p.s.getD i 0,p.a.getD i 0]:=by
 have hz:(p.s.zip p.a)[i]? = some (p.s.getD i 0,p.a.getD i 0):=by
  rw [List.getElem?_zip_eq_some]
  simp [List.getD_eq_getElem?_getD,List.getElem?_eq_getElem hi,List.getElem?_eq_getElem (show i<p.a.length by omega)]
 unfold pm
 rw [List.take_add_one,hz,Option.toList_some,List.flatMap_append]
 simp
theorem Ni {p:Pc}(h:p.a.length=p.s.length):toN (pm p p.s.length)=flP (pcX p):=by
 unfold pm
 rw [List.take_of_length_le (by simp;omega)]
 unfold pcX flP toN
 generalize p.s.zip p.a=z
 induction z with
 | nil=>rfl
 | cons x z ih=>simp only [List.flatMap_cons,List.map_append,List.map_cons,List.map_nil,ih]
theorem wF {p:Pc}:∀i,(pm p i).length<=2*i
 | 0=>by simp [pm]
 | i+1=>by
   have:=wF (p:=p) i
   unfold pm at this ⊢
   rw [List.take_add_one,List.flatMap_append,List.length_append]
   cases (p.s.zip p.a)[i]? with
   | none=>simp only [Option.toList_none,List.flatMap_nil,List.length_nil];omega
   | some x=>simp only [Option.toList_some,List.flatMap_cons,List.flatMap_nil,List.length_append,List.length_cons,List.length_nil];omega
theorem Rh {p:Pc}(h:PcB p){i:Nat}:∀x∈pm p i,0<=x/\x<=999:=by
 intro x hx
 unfold pm at hx
 obtain ⟨y,hy,hx⟩:=List.mem_flatMap.1 hx
 have hy:=List.mem_of_mem_take hy
 have h1:=h.s y.1 (List.of_mem_zip (by exact hy)).1
 have h2:=h.a y.2 (List.of_mem_zip (by exact hy)).2
 simp only [List.mem_cons,List.not_mem_nil,or_false] at hx
 rcases hx with rfl | rfl<;>omega
theorem F4 {l:List Int}(h:∀x∈l,0<=x/\x<=999){i:Nat}:∀n∈toN (l.take i),n<=999:=by
 intro n hn
 unfold toN at hn
 obtain ⟨x,hx,rfl⟩:=List.mem_map.1 hn
 have:=h x (List.mem_of_mem_take hx)
 omega
def lnP (l:List Pc):List UInt8:=l.flatMap fun p=>lnL de (flP (pcX p))++[10]
def lnS (l:List Sm):List UInt8:=l.flatMap fun s=>lnL eU (smT s)++[10]
theorem DJ {c:Cp}:jQ c=lnL ew [c.e.toNat]++[10]++lnP c.P++lnS c.S:=by
 unfold jQ Oy yf lnP lnS
 simp [List.flatMap_cons,List.flatMap_append,List.flatMap_map]
theorem mU {w:List UInt8}{l:List Nat}(h:∀n∈l,n<=999):(lnL w l).length<=w.length+4*l.length:=by
 have:=tU (c:=32) h
 unfold lnL
 rw [List.length_append];omega
theorem wn:∀{l:List Pc},(∀p∈l,PcB p)->(lnP l).length<=54*l.length
 | [],_=>by simp [lnP]
 | p :: l,h=>by
   have hp:=h p (by simp)
   have h1:=mU (w:=de) (l:=flP (pcX p)) fun n hn=>by have:=sM hp n hn;omega
   have h2:=wn (l:=l) fun q hq=>h q (by simp [hq])
   have h3:(flP (pcX p)).length<=12:=by
    rw [HR]
    have:=hp.l6
    unfold pcX
    simp;omega
   have h4:de.length=5:=rfl
   simp only [lnP,List.flatMap_cons,List.length_append,List.length_cons,List.length_nil] at h2 ⊢
   omega
theorem G8 {s:Sm}(h:SmB s):∀n∈smT s,n<=999:=by
 obtain ⟨h1,h2,h3,h4⟩:=h
 intro n hn
 simp only [smT,List.mem_cons,List.not_mem_nil,or_false] at hn
 rcases hn with rfl | rfl | rfl | rfl<;>omega
theorem uG:∀{l:List Sm},(∀s∈l,SmB s)->(lnS l).length<=21*l.length
 | [],_=>by simp [lnS]
 | s :: l,h=>by
   have h1:=mU (w:=eU) (l:=smT s) (G8 (h s (by simp)))
   have h2:=uG (l:=l) fun q hq=>h q (by simp [hq])
   have h3:(smT s).length=4:=rfl
   have h4:eU.length=4:=rfl
   simp only [lnS,List.flatMap_cons,List.length_append,List.length_cons,List.length_nil] at h2 ⊢
   omega
theorem Kv {l:List Pc}{i:Nat}(hi:i<l.length):lnP (l.take (i+1))=lnP (l.take i)++(lnL de (flP (pcX (l.getD i default)))++[10]):=by
 rw [lH hi];simp [lnP]
theorem LF {l:List Sm}{i:Nat}(hi:i<l.length):lnS (l.take (i+1))=lnS (l.take i)++(lnL eU (smT (l.getD i default))++[10]):=by
 have e:l.take (i+1)=l.take i++[l.getD i default]:=by
  rw [List.take_add_one,List.getElem?_eq_getElem hi];simp [List.getD_eq_getElem?_getD,hi]
 rw [e];simp [lnS]
def txK (c:Cp):ByteArray:=if cF c=0 then bA (jQ c) else ⟨#[]⟩
section
variable {lim:Nat}{H:Hp}{K:V->Hp->Prop}{v d p u:V}
theorem Cj {w:List UInt8}{l:List Int}(hg:HX dQ H)(hv:SlV H v l)(hl:∀x∈l,0<=x/\x<=999)(hlen:l.length<=100)(hw:w.length<=10)(hlim:lim<=H.length)(hK:∀H',HX H H'->K (.str (bA (lnL w (toN l)++[10]))) H'):aF tbl lim 17 [.str (bA w),v] H K:=by
 refine ao tbl_at17 rfl ?_
 obtain ⟨B0,hB0⟩:∃B,B=([32]:List UInt8):=⟨_,rfl⟩
 obtain ⟨E0,hE0⟩:∃B,B=([10]:List UInt8):=⟨_,rfl⟩
 have s1:(⟨#[32]⟩:ByteArray)=bA B0:=by rw [hB0];rfl
 have s2:(⟨#[10]⟩:ByteArray)=bA E0:=by rw [hE0];rfl
 have n1:B0.length=1:=by rw [hB0];rfl
 have n2:E0.length=1:=by rw [hE0];rfl
 rw [←hE0] at hK
 simp [vf17,hv.stor,hv.len]
 refine aO l.length (fun i fr L H'=>(fr 0=.str (bA (lnL w (toN (l.take i))))/\fr 7=v/\fr 8=.int .i64 (l.length:Int)/\fr 9=.int .i64 (i:Int))/\L=[]/\HX H H'/\i<=l.length) ⟨⟨by simp [lnL,toN,gV],by simp,by simp,by simp⟩,rfl,.refl,by omega⟩ ?_
 rintro i hi fr L H1 ⟨⟨f0,f7,f8,f9⟩,rfl,x1,hle⟩
 have l1:=x1.len
 have hv1:=hv.mono x1
 have hln:=mU (w:=w) (F4 hl (i:=i))
 have htl:(toN (l.take i)).length<=100:=by simp [toN];omega
 by_cases hp:i<l.length
 ·have hp':((i:Int)<(l.length:Int))=True:=eq_true (by omega)
  have hb:=hl (l.getD i 0) (by rw [List.getD_eq_getElem?_getD,List.getElem?_eq_getElem hp];exact List.getElem_mem hp)
  obtain ⟨n,hn⟩:∃n:Nat,l.getD i 0=(n:Int):=⟨(l.getD i 0).toNat,by omega⟩
  have hnt:(l.getD i 0).toNat=n:=by omega
  have hnx:=Hz (l:=l) (i:=i) hp
  rw [hnt] at hnx
  have ldn:=ddl (u:=n) (by omega)
  have had:=hv1.addr (i:=(i:Int)) ⟨by omega,by omega⟩
  have hld:=hv1.load (i:=i) hp (L:=[])
  rw [hn] at hld
  have t1:=mQ (l:=B0) (m:=Lib.decDigits n) (by omega)
  have t2:=mQ (l:=lnL w (toN (l.take i))) (m:=B0++Lib.decDigits n) (by simp;omega)
  have e2:lnL w (toN (l.take i))++(B0++Lib.decDigits n)=lnL w (toN (l.take (i+1))):=by unfold lnL;rw [hnx,hB0];simp
  rw [e2] at t2
  obtain ⟨Dn,hDn⟩:∃X,X=Lib.decDigits n:=⟨_,rfl⟩
  rw [←hDn] at t1 t2
  clear hnx e2
  generalize B0++Dn=B1 at t1 t2
  generalize lnL w (toN (l.take i))=T0 at t2 f0
  generalize hT1:lnL w (toN (l.take (i+1)))=T1 at t2
  simp (disch:=omega) [f0,f7,f8,f9,hp',had,hld,ae]
  refine NT (n:=n) (hg.trans x1) (by first | exact Nat.le_refl _ | omega) (by omega) fun H2 x2 => ?_
  rw [←hDn]
  simp (disch:=omega) [f0,f7,f8,f9,s1,t1,t2,ae]
  exact ⟨hp,x1.trans x2,hp⟩
 have hp':((i:Int)<(l.length:Int))=False:=eq_false (by omega)
 have hi2:i=l.length:=by omega
 subst hi2
 rw [List.take_length] at f0 hln htl
 have t1:=mQ (l:=lnL w (toN l)) (m:=E0) (by omega)
 simp [f0,f7,f8,f9,hp',s2,t1]
 exact hK H1 x1
end
theorem sE:(⟨#[101,97,115,101]⟩:ByteArray)=bA ew:=Eq.trans rfl rfl
theorem sP:(⟨#[112,105,101,99,101]⟩:ByteArray)=bA de:=Eq.trans rfl rfl
theorem sS:(⟨#[115,101,97,109]⟩:ByteArray)=bA eU:=Eq.trans rfl rfl
theorem RO {P:List Pc}{i:Nat}(hi:i<P.length):P.getD i default∈P:=by
 simp [List.getD_eq_getElem?_getD,hi]
theorem Sq {S:List Sm}{i:Nat}(hi:i<S.length):S.getD i default∈S:=by
 simp [List.getD_eq_getElem?_getD,hi]
section
variable {lim:Nat}{H:Hp}{K:V->Hp->Prop}{v d p u:V}{ws:List V}{c:Cp}
theorem jX (hc:CapV H ws c)(hb:c.S.length<=10000)(hg:HX dQ H)(hlim:lim<=H.length)(hK:∀H',HX H H'->K (.tup [.str (txK c),.int .i64 (cF c)]) H'):aF tbl lim 7 [.agg ws] H K:=by
 obtain ⟨pv,sv,ps,rfl,hp,hs,z1,z2,z3,z4⟩:=hc.form
 refine ao tbl_at7 rfl ?_
 simp [vf7,z1,z2,z3,z4,bh]
 refine ce hc (by omega) hlim fun H1 x1 => ?_
 replace x1:HX H H1:=x1
 have l1:=x1.len
 by_cases he:cF c=0
 case neg =>
  simp [he]
  have:=hK H1 x1
  rw [txK,if_neg he] at this
  exact this
 have hK2:=hK
 rw [txK,if_pos he,he] at hK2
 have hok:=cX.1 he
 have hee:=hok.e
 have hnp:=hok.np
 have hpb:=hok.pcB
 have hsb:=hok.smBd
 obtain ⟨P,S,e⟩:=c
 simp only at hp hs hb hee hnp hpb hsb he hK2 ⊢
 simp [he,z1,z2,z3,z4,rd0,cm,gW,sE]
 refine Cj (w:=ew) (l:=[e]) ((hg.trans x1).trans HX.push) (.lit (own:=true) (l:=[e]) List.getElem?_concat_length rfl) (by simp;omega) (by simp) (by decide) (by simp;omega) fun H2 x2 => ?_
 replace x2:HX H1 H2:=HX.trans ⟨_,rfl⟩ x2
 have l2:=x2.len
 have x12:=x1.trans x2
 obtain ⟨T0,hT0⟩:∃T,T=lnL ew (toN [e])++[10]:=⟨_,rfl⟩
 have hT0l:T0.length<=20:=by
  have:=mU (w:=ew) (l:=toN [e]) (by simp [toN];omega)
  have e4:ew.length=4:=rfl
  rw [hT0];simp [toN] at this ⊢;omega
 have hfin:jQ ⟨P,S,e⟩=T0++lnP P++lnS S:=by rw [DJ,hT0];rfl
 rw [hfin] at hK2
 rw [←hT0]
 have hPl:∀i,(lnP (P.take i)).length<=500:=fun i=>by
  have:=wn (l:=P.take i) fun q hq=>hpb q (List.mem_of_mem_take hq)
  have:(P.take i).length<=8:=by simp;omega
  omega
 have hSl:∀i,(lnS (S.take i)).length<=210000:=fun i=>by
  have:=uG (l:=S.take i) fun q hq=>hsb q (List.mem_of_mem_take hq)
  have:(S.take i).length<=10000:=by simp;omega
  omega
 simp [z1,z2,z3,z4,rd0,cm,gW,hp.vlen]
 refine aO P.length (fun i fr L H'=>∃X,(fr 1=.lp 0 0/\fr 22=pv/\fr 23=.int .i64 (P.length:Int)/\fr 24=.int .i64 (i:Int)/\fr 5=.str (bA (T0++lnP (P.take i))))/\L=[pv,sv,.int .i64 e] :: X/\HX H2 H'/\i<=P.length) ⟨[],⟨by simp,by simp,by simp,by simp,by simp [lnP]⟩,rfl,.refl,by omega⟩ ?_
 rintro i hi fr L H3 ⟨X,⟨f1,f22,f23,f24,f5⟩,rfl,x3,hle⟩
 have l3:=x3.len
 have x13:=x12.trans x3
 have hp3:=hp.mono x13
 have hs3:=hs.mono x13
 by_cases hpp:i<P.length
 ·have hp':((i:Int)<(P.length:Int))=True:=eq_true (by omega)
  obtain ⟨ha,hb2⟩:=hp3.at' i hpp
  have had:=hp3.at hpp
  have hld:=hp3.ld2 hpp
  have hpcB:=hpb _ (RO hpp)
  have hnx:=Kv hpp
  obtain ⟨pp,hpp2⟩:∃x,x=P.getD i default:=⟨_,rfl⟩
  rw [←hpp2] at ha hb2 hpcB hnx
  obtain ⟨a,hav⟩:∃a,a=(ps.getD i default).1:=⟨_,rfl⟩
  obtain ⟨b,hbv⟩:∃a,a=(ps.getD i default).2:=⟨_,rfl⟩
  rw [←hav,←hbv] at hld
  rw [←hav] at ha
  rw [←hbv] at hb2
  have hl6:=hpcB.l6
  have hll:=hpcB.len
  simp (disch:=omega) [f1,f22,f23,f24,f5,hp',had,hld,ft,gy,ha.stor,ha.one,hb2.stor,hb2.one,Qx,rd0,cm,ha.len]
  refine aO pp.s.length (fun j fr L H'=>∃u,(fr 1=.lp 0 0/\fr 22=pv/\fr 23=.int .i64 (P.length:Int)/\fr 24=.int .i64 (i:Int)/\fr 5=.str (bA (T0++lnP (P.take i)))/\fr 7=.lp (X.length+1) 0/\fr 8=u/\fr 30=.int .i64 (pp.s.length:Int)/\fr 31=.int .i64 (j:Int))/\L=[pv,sv,.int .i64 e] :: (X++[[a,b]])/\HX H3 H'/\OwnV H3.length H' u (pm pp j)/\j<=pp.s.length) ⟨.snil,⟨by simp [f1],by simp [f22],by simp [f23],by simp [f24],by simp [f5],by simp,by simp,by simp,by simp⟩,rfl,.refl,.nil,by omega⟩ ?_
  clear f1 f22 f23 f24 f5
  rintro j hj fr2 L2 H4 ⟨u,⟨f1,f22,f23,f24,f5,f7,f8,f30,f31⟩,rfl,x4,hu,hle2⟩
  have l4:=x4.len
  by_cases hj2:j<pp.s.length
  ·have hj':((j:Int)<(pp.s.length:Int))=True:=eq_true (by omega)
   have ha4:=ha.mono x4
   have hb4:=hb2.mono x4
   have a1:=ha4.addr (i:=(j:Int)) ⟨by omega,by omega⟩
   have a2:=hb4.addr (i:=(j:Int)) ⟨by omega,by omega⟩
   simp only [Int.toNat_natCast] at a1 a2
   have d1:=fun L=>ha4.load (i:=j) hj2 (L:=L)
   have d2:=fun L=>hb4.load (i:=j) (by omega) (L:=L)
   have hal:=wF (p:=pp) j
   have hr:SlV (H4++[.row [.int .i64 (pp.s.getD j 0),.int .i64 (pp.a.getD j 0)] true]) (.sl H4.length 0 2 1) [pp.s.getD j 0,pp.a.getD j 0]:=.lit (own:=true) (l:=[pp.s.getD j 0,pp.a.getD j 0]) List.getElem?_concat_length rfl
   obtain ⟨u',H5,c1,c2,c3,c4⟩:=KG (lim:=lim) (n:=H3.length) (hu.mono ⟨_,rfl⟩) hr (by omega) (by simp;omega) ⟨by omega,by simp⟩
   have hnx2:=II hll hj2
   rw [←hnx2] at c2
   simp (disch:=omega) [f1,f22,f23,f24,f5,f7,f8,f30,f31,hj',a1,a2,d1,d2,ft,rd0,cm,c1,ae]
   exact ⟨hj2,c3 H3 (x4.trans ⟨_,rfl⟩) (Nat.le_refl _),c2,hj2⟩
  have hj':((j:Int)<(pp.s.length:Int))=False:=eq_false (by omega)
  have hj3:j=pp.s.length:=by omega
  subst hj3
  have hal:=wF (p:=pp) pp.s.length
  simp (disch:=omega) [f1,f22,f23,f24,f5,f7,f8,f30,f31,hj',sP,hu.sl.stor]
  refine Cj (w:=de) (l:=pm pp pp.s.length) (((hg.trans x13).trans x4)) hu.sl (Rh hpcB) (by omega) (by decide) (by omega) fun H5 x5 => ?_
  replace x5:HX H4 H5:=x5
  have l5:=x5.len
  rw [Ni hll]
  have hPi:=hPl i
  have hPi2:=hPl (i+1)
  rw [hnx] at hPi2
  have t1:=mQ (l:=T0++lnP (P.take i)) (m:=lnL de (flP (pcX pp))++[10]) (by simp at hPi2 ⊢;omega)
  rw [List.append_assoc,←hnx] at t1
  generalize lnL de (flP (pcX pp))++[10]=Ln at t1
  generalize T0++lnP (P.take i)=Ti at t1 f5
  generalize hTn:T0++lnP (P.take (i+1))=Tn at t1
  simp (disch:=omega) [f1,f22,f23,f24,f5,f7,f8,f30,f31,t1,ae]
  exact ⟨hpp,(x3.trans x4).trans x5,hpp⟩
 have hp':((i:Int)<(P.length:Int))=False:=eq_false (by omega)
 have hi2:i=P.length:=by omega
 subst hi2
 rw [List.take_length] at f5
 obtain ⟨T1,hT1⟩:∃T,T=T0++lnP P:=⟨_,rfl⟩
 have hT1l:T1.length<=600:=by
  have:=hPl P.length
  rw [List.take_length] at this
  rw [hT1];simp;omega
 rw [←hT1] at f5 hK2
 simp (disch:=omega) [f1,f22,f23,f24,f5,hp',rd0,cm,gW,hs3.len]
 refine aO S.length (fun i fr L H'=>∃X,(fr 54=sv/\fr 55=.int .i64 (S.length:Int)/\fr 56=.int .i64 (i:Int)/\fr 5=.str (bA (T1++lnS (S.take i))))/\L=[pv,sv,.int .i64 e] :: X/\HX H3 H'/\i<=S.length) ⟨X,⟨by simp,by simp,by simp,by simp [lnS,f5]⟩,rfl,.refl,by omega⟩ ?_
 clear f1 f22 f23 f24 f5 X
 rintro i hi fr3 L H4 ⟨X,⟨f54,f55,f56,f5⟩,rfl,x4,hle2⟩
 have l4:=x4.len
 have hs4:=hs3.mono x4
 by_cases hpp:i<S.length
 ·have hp':((i:Int)<(S.length:Int))=True:=eq_true (by omega)
  have had:=hs4.addr (i:=(i:Int)) ⟨by omega,by omega⟩
  simp only [Int.toNat_natCast] at had
  have hld:∀L,aW (some 4) L H4 (ept 4 sv i)=some (.agg [.int .i64 (S.getD i default).A,.int .i64 (S.getD i default).I,.int .i64 (S.getD i default).B,.int .i64 (S.getD i default).J]):=fun L=>hs4.load hpp
  have hsB:=hsb _ (Sq hpp)
  have hnx:=LF hpp
  have hSi:=hSl i
  have hSi2:=hSl (i+1)
  rw [hnx] at hSi2
  obtain ⟨ss,hss⟩:∃x,x=S.getD i default:=⟨_,rfl⟩
  rw [←hss] at hld hsB hnx hSi2
  have hbd:∀x∈[ss.A,ss.I,ss.B,ss.J],0<=x/\x<=999:=by
   obtain ⟨g1,g2,g3,g4⟩:=hsB
   intro x hx
   simp only [List.mem_cons,List.not_mem_nil,or_false] at hx
   rcases hx with rfl | rfl | rfl | rfl<;>omega
  have t1:=mQ (l:=T1++lnS (S.take i)) (m:=lnL eU (smT ss)++[10]) (by simp at hSi2 ⊢;omega)
  rw [List.append_assoc,←hnx] at t1
  have eT:toN [ss.A,ss.I,ss.B,ss.J]=smT ss:=rfl
  generalize hLn:lnL eU (smT ss)++[10]=Ln at t1
  generalize T1++lnS (S.take i)=Ti at t1 f5
  generalize hTn:T1++lnS (S.take (i+1))=Tn at t1
  simp (disch:=omega) [f54,f55,f56,f5,hp',had,hld,ft,gy,zs4,LQ,al,rd0,cm,gW,rZ,sS]
  refine Cj (w:=eU) (l:=[ss.A,ss.I,ss.B,ss.J]) (((hg.trans x13).trans x4).trans HX.push) (.lit (own:=true) (l:=[ss.A,ss.I,ss.B,ss.J]) List.getElem?_concat_length rfl) hbd (by simp) (by decide) (by simp;omega) fun H5 x5 => ?_
  replace x5:HX H4 H5:=HX.trans ⟨_,rfl⟩ x5
  rw [eT,hLn]
  simp (disch:=omega) [f54,f55,f56,f5,t1,ae]
  exact ⟨hpp,x4.trans x5,hpp⟩
 have hp':((i:Int)<(S.length:Int))=False:=eq_false (by omega)
 have hi2:i=S.length:=by omega
 subst hi2
 rw [List.take_length] at f5
 simp [f54,f55,f56,f5,hp']
 exact hK2 H4 (x13.trans x4)
end
end Go.Proofs.YtgjlhdggllakbaaGreatDoor.Vm
namespace Go.Proofs.YtgjlhdggllakbaaGreatDoor.Vm
open Go
set_option maxRecDepth 100000
attribute [-simp] List.getD_eq_getElem?_getD
theorem QN {H:Hp}{lim:Nat}{s:ByteArray}{K:V->Hp->Prop}(hg:HX dQ H)(hs:s.size<=281474976710656)
 (hK:∀H' ev,HX H H'->K (.tup [.int .i64 (atV s.data.toList),ev]) H'):aF tbl lim 43 [.str s] H K:=by
 have hc:=Ov hg
 have hf:([V.str s]:List V).all hJ=true:=rfl
 rcases Sk s.data.toList with ⟨n,hq⟩ | hq | hq
 ·have e:atV s.data.toList=n:=by unfold atV;rw [hq]
  refine jF (g:=mF) (bs:=[]) tbl_at43 rfl rfl (v:=.tup [.int .i64 n,.inil]) ?_ (by rw [←e];exact hK _ _ ⟨_,rfl⟩)
  have hgg:oh [.str s]=some (.int .i64 n,true):=by simp only [oh,hs,if_true,hq]
  simp only [mF,EZ,hc,hf,hgg,Bool.and_self,if_true,hJ]
 ·have e:atV s.data.toList=0:=by unfold atV;rw [hq]
  refine jF (g:=mF) (bs:=[.dead]) tbl_at43 rfl rfl (v:=.tup [.int .i64 0,.iface teN (.ptr H.length 0)]) ?_ (by rw [←e];exact hK _ _ ⟨_,rfl⟩)
  have hgg:oh [.str s]=some (.int .i64 0,false):=by simp only [oh,hs,if_true,hq]
  simp only [mF,EZ,hc,hf,hgg,Bool.and_self,if_true,hJ,Bool.false_eq_true,if_false]
 ·have e:atV s.data.toList=Lib.atoiSat s.data.toList:=by unfold atV;rw [hq]
  refine jF (g:=mF) (bs:=[.dead]) tbl_at43 rfl rfl (v:=.tup [.int .i64 (Lib.atoiSat s.data.toList),.iface teN (.ptr H.length 0)]) ?_ (by rw [←e];exact hK _ _ ⟨_,rfl⟩)
  have hgg:oh [.str s]=some (.int .i64 (Lib.atoiSat s.data.toList),false):=by simp only [oh,hs,if_true,hq]
  simp only [mF,EZ,hc,hf,hgg,Bool.and_self,if_true,hJ,Bool.false_eq_true,if_false]
section
variable {lim:Nat}{H:Hp}{K:V->Hp->Prop}{v d p u:V}
theorem A9 {l:List (List UInt8)}(h:LstV jT H u (l.map bA)){i:Nat}{w:List UInt8}(hw:l[i]? = some w):(∀L,aW none L H (ept 1 u i)=some (.str (bA w)))/\aQ 1 u (.int .i64 (i:Int))=some (ept 1 u i):=by
 have hi:i<l.length:=(List.getElem?_eq_some_iff.1 hw).1
 have hl:(l.map bA).length=l.length:=by simp
 constructor
 ·intro L
  rw [h.load1 (by omega)]
  have:(l.map bA).getD i default=bA w:=by rw [List.getD_eq_getElem?_getD,List.getElem?_map,hw];rfl
  rw [this];rfl
 ·exact h.addr (i:=(i:Int)) ⟨by omega,by omega⟩
theorem Oq {c:UInt8}:∀l:List UInt8,1<=(wds c l).length
 | []=>by simp [wds]
 | b :: l=>by
   rw [wds]
   split
   ·simp
   ·split
    ·simp
    ·simp
theorem PS {H X:Hp}{l:List (List UInt8)}:LstV jT (H++.row (jT.all (l.map bA)) true :: X) (.sl H.length 0 l.length 1) (l.map bA):=by
 have h0:(H++Blk.row (jT.all (l.map bA)) true :: X)[H.length]? = some (.row (jT.all (l.map bA)) true):=by rw [List.getElem?_append_right (Nat.le_refl _)];simp
 have:=LstV.sl (c:=jT) (l:=l.map bA) (off:=0) h0 (by rw [qq];simp) (by rw [qq];simp [List.take_of_length_le])
 simpa using this
end
end Go.Proofs.YtgjlhdggllakbaaGreatDoor.Vm
namespace Go.Proofs.YtgjlhdggllakbaaGreatDoor.Vm
open Go
set_option maxRecDepth 100000
set_option maxHeartbeats 1000000
attribute [-simp] List.getD_eq_getElem?_getD
theorem D3 {x y:Int}:∀(k:Nat) {l:List Int},l.length=2*k->prs (l++[x,y])=((prs l).1++[x],(prs l).2++[y])
 | 0,l,h=>by
   have:l=[]:=List.eq_nil_of_length_eq_zero (by omega)
   subst this;rfl
 | k + 1,l,h=>by
   match l,h with
   | a :: b :: r,h =>
     have ih:=D3 (x:=x) (y:=y) k (l:=r) (by simp at h;omega)
     show ((a :: (prs (r++[x,y])).1,b :: (prs (r++[x,y])).2):List Int×List Int)=_
     rw [ih];rfl
   | [a],h=>simp at h;omega
theorem Mf {l:List Int}{k:Nat}(h:2*k+1<l.length):l.take (2*(k+1))=l.take (2*k)++[l.getD (2*k) 0,l.getD (2*k+1) 0]:=by
 rw [show 2*(k+1)=2*k+1+1 by omega,nH h,nH (show 2*k<l.length by omega)]
 simp
theorem K0 {l:List Int}{k:Nat}(h:2*k+1<l.length):prs (l.take (2*(k+1)))=((prs (l.take (2*k))).1++[l.getD (2*k) 0],(prs (l.take (2*k))).2++[l.getD (2*k+1) 0]):=by
 rw [Mf h]
 exact D3 k (by simp;omega)
theorem uT:∀(k:Nat) {l:List Int},l.length<=k->(prs l).1.length<=l.length/\(prs l).2.length<=l.length
 | 0,l,h=>by
   have:l=[]:=List.eq_nil_of_length_eq_zero (by omega)
   subst this;simp [prs]
 | k + 1,l,h=>by
   match l,h with
   | [],h=>simp [prs]
   | [a],h=>simp [prs]
   | a :: b :: r,h =>
     have ih:=uT k (l:=r) (by simp at h;omega)
     simp only [prs,List.length_cons]
     omega
theorem Da {W T:List UInt8}:bU .eql (.str (bA W)) (.str (bA T))=some (.bool (decide (W=T))):=by
 simp only [bU]
 rw [Lib.toList_data,Lib.toList_data,ix,ix]
 by_cases h:W=T
 ·subst h;simp
 ·simp [h]
def ApV (a b:V):Prop:=∀k o z y o' z' y',a=.sl k o z y->b=.sl k o' z' y'->False
section
variable {lim n:Nat}{H H':Hp}{K:V->Hp->Prop}{v d p u a b:V}{ws:List V}{c:Cp}{A B ns:List Int}
theorem ApV.symm (h:ApV a b):ApV b a:=fun k o z y o' z' y' h1 h2=>h _ _ _ _ _ _ _ h2 h1
theorem OwnV.keepV (h:OwnV n H v A)(hk:∀b o m z,v=.sl b o m z->H'[b]? = H[b]?):OwnV n H' v A:=by
 cases h with
 | nil=>exact .nil
 | row h1 h3=>exact .row h1 (by rw [hk _ _ _ _ rfl];exact h3)
theorem Dg (ha:OwnV n H a A)(hb:OwnV n H b B)(hap:ApV a b){x:Int}(hn:lim<=n/\n<=H.length)(hl:A.length<1000000) :
 ∃a' H',aP lim 1 8 (H++[.row [.int .i64 x] true]) a (.sl H.length 0 1 1)=some (a',H')/\OwnV n H' a' (A++[x])/\OwnV n H' b B/\ApV a' b/\(∀H0,HX H0 H->H0.length<=n->HX H0 H')/\n<=H'.length:=by
 obtain ⟨a',H',c1,c2,c3,c4,c5,c6⟩:=ha.appendF (lim:=lim) (x:=x) hn hl
 refine ⟨a',H',c1,c2,hb.keepV fun k o m z e=>c5 k (hb.belowB _ _ _ _ e).2 fun o' z' y' e'=>hap _ _ _ _ _ _ _ e' e,fun k o z y o' z' y' e1 e2 => ?_,c3,by omega⟩
 have h1:=c6 _ _ _ _ e1
 have h2:=(hb.belowB _ _ _ _ e2).2
 omega
theorem wP (hv:SlV H v ns)(hev:ns.length % 2=0)(hl:ns.length<=5000)(hlim:lim<=H.length)(hK:∀H' a b,HX H H'->OwnV H.length H' a (prs ns).1->OwnV H.length H' b (prs ns).2->K (.agg [a,b]) H'):aF tbl lim 44 [v] H K:=by
 refine ao tbl_at44 rfl ?_
 simp [vf44]
 refine aO (ns.length / 2) (fun i fr L H'=>(fr 0=v/\fr 2=.lp 0 0/\fr 3=.lp 1 0/\fr 4=.int .i64 (2*(i:Int)))/\(∃a b,L=[[.snil,.snil],[a,b]]/\HX H H'/\OwnV H.length H' a (prs (ns.take (2*i))).1/\OwnV H.length H' b (prs (ns.take (2*i))).2/\ApV a b)/\2*i<=ns.length) ⟨⟨by simp,by simp,by simp,by simp⟩,⟨.snil,.snil,by simp,.refl,.nil,.nil,fun k o z y o' z' y' h=>by cases h⟩,by omega⟩ ?_
 rintro i hi fr L H1 ⟨⟨f0,f2,f3,f4⟩,⟨a,b,rfl,x1,ha,hb,hap⟩,hle⟩
 have l1:=x1.len
 have hv1:=hv.mono x1
 by_cases hp:2*i<ns.length
 ·have hp':(2*(i:Int)<(ns.length:Int))=True:=eq_true (by omega)
  have h2:2*i+1<ns.length:=by omega
  have hnx:=K0 h2
  have hpl:=uT ns.length (l:=ns.take (2*i)) (by simp;omega)
  rw [List.length_take] at hpl
  have a1:=hv1.addr (i:=((2*i:Nat):Int)) ⟨by omega,by omega⟩
  have d1:=fun L=>hv1.load (i:=2*i) (by omega) (L:=L)
  simp only [Int.toNat_natCast] at a1
  rw [show ((2*i:Nat):Int)=2*(i:Int) by omega] at a1
  obtain ⟨a',H2,c1,c2,c3,c4,c5,c6⟩:=Dg (lim:=lim) (x:=ns.getD (2*i) 0) ha hb hap ⟨by omega,by omega⟩ (by omega)
  have x2:=c5 H x1 (Nat.le_refl _)
  have hv2:=hv.mono x2
  have a2:=hv2.addr (i:=((2*i+1:Nat):Int)) ⟨by omega,by omega⟩
  have d2:=fun L=>hv2.load (i:=2*i+1) (by omega) (L:=L)
  simp only [Int.toNat_natCast] at a2
  rw [show ((2*i+1:Nat):Int)=2*(i:Int)+1 by omega] at a2
  obtain ⟨b',H3,e1,e2,e3,e4,e5,e6⟩:=Dg (lim:=lim) (x:=ns.getD (2*i+1) 0) c3 c2 c4.symm ⟨by omega,by omega⟩ (by omega)
  simp (disch:=omega) [f0,f2,f3,f4,hv.len,hp',a1,d1,c1,c2.sl.stor,c2.sl.one,a2,d2,e1,e2.sl.stor,e2.sl.one,ha.sl.stor,hb.sl.stor,ha.sl.one,hb.sl.one,rd0,cm,al,ae]
  rw [hnx]
  exact ⟨by omega,by omega,⟨_,_,⟨rfl,rfl⟩,e5 H x2 (Nat.le_refl _),e3,e2,e4.symm⟩,by omega⟩
 have hp':(2*(i:Int)<(ns.length:Int))=False:=eq_false (by omega)
 have hi2:2*i=ns.length:=by omega
 rw [hi2,List.take_length] at ha hb
 simp [f0,f2,f3,f4,hv.len,hp',ha.sl.stor,hb.sl.stor,ha.sl.one,hb.sl.one,kY,Qx]
 exact hK H1 a b x1 ha hb
end
end Go.Proofs.YtgjlhdggllakbaaGreatDoor.Vm
namespace Go.Proofs.YtgjlhdggllakbaaGreatDoor.Vm
open Go
set_option maxRecDepth 100000
set_option maxHeartbeats 2000000
attribute [-simp] List.getD_eq_getElem?_getD
theorem QJ {ev:Bool}{x:Cp}{w:List UInt8}{ns:List Int}:(x.put ev w ns).P.length<=x.P.length+1/\(x.put ev w ns).S.length<=x.S.length+1:=by
 unfold Cp.put
 split
 ·simp
 ·split
  ·simp
  ·split<;>simp
theorem ww {num:List UInt8->Int}{ev:Bool}{Ls:List (List UInt8)}:∀i,((Ls.take i).foldl (Cp.take num ev) ⟨[],[],0⟩).P.length<=i/\((Ls.take i).foldl (Cp.take num ev) ⟨[],[],0⟩).S.length<=i
 | 0=>by simp
 | i + 1=>by
   have ih:=ww (num:=num) (ev:=ev) (Ls:=Ls) i
   rw [List.take_add_one,List.foldl_append]
   cases Ls[i]? with
   | none=>simp only [Option.toList_none,List.foldl_nil];omega
   | some l =>
     simp only [Option.toList_some,List.foldl_cons,List.foldl_nil]
     have:=QJ (ev:=ev) (x:=(Ls.take i).foldl (Cp.take num ev) ⟨[],[],0⟩) (w:=(wds 32 l).headD []) (ns:=(wds 32 l).tail.map num)
     exact ⟨Nat.le_trans this.1 (by omega),Nat.le_trans this.2 (by omega)⟩
theorem FN {num:List UInt8->Int}{ev:Bool}{Ls:List (List UInt8)}{i:Nat}{l:List UInt8}(h:Ls[i]? = some l):(Ls.take (i+1)).foldl (Cp.take num ev) ⟨[],[],0⟩=((Ls.take i).foldl (Cp.take num ev) ⟨[],[],0⟩).put ev ((wds 32 l).headD []) ((wds 32 l).tail.map num):=by
 rw [List.take_add_one,h,List.foldl_append];rfl
theorem Iy {ev:Bool}{x:Cp}{w:List UInt8}{ns:List Int}(h:w=ew/\ns.length=1):x.put ev w ns={ x with e:=ns.headD 0 }:=by unfold Cp.put;rw [if_pos h]
theorem F3 {ev:Bool}{x:Cp}{w:List UInt8}{ns:List Int}(h:w=de/\(ev=true->ns.length % 2=0)):x.put ev w ns={ x with P:=x.P++[pcO ns] }:=by
 unfold Cp.put
 rw [if_neg (fun g=>ne1 (h.1.symm.trans g.1)),if_pos h]
theorem K5 {ev:Bool}{x:Cp}{w:List UInt8}{ns:List Int}(h:w=eU/\ns.length=4):x.put ev w ns={ x with S:=x.S++[smO ns] }:=by
 unfold Cp.put
 rw [if_neg (fun g=>ne2 (h.1.symm.trans g.1)),if_neg (fun g=>ne3 (h.1.symm.trans g.1)),if_pos h]
theorem Qc {ev:Bool}{x:Cp}{w:List UInt8}{ns:List Int}(h1:¬(w=ew/\ns.length=1))(h2:¬(w=de/\(ev=true->ns.length % 2=0)))(h3:¬(w=eU/\ns.length=4)):x.put ev w ns=x:=by
 unfold Cp.put
 rw [if_neg h1,if_neg h2,if_neg h3]
section
variable {lim n:Nat}{H H':Hp}{K:V->Hp->Prop}{v d p u a b pv sv:V}{ws:List V}{c:Cp}{A B ns:List Int}{P:List Pc}{S:List Sm}{e:Int}
theorem OCapV.setE (h:OCapV n H [pv,sv,.int .i64 e] ⟨P,S,e⟩){e':Int}:OCapV n H [pv,sv,.int .i64 e'] ⟨P,S,e'⟩:=by
 cases h with
 | mk h1 h2 h3 h4=>exact .mk h1 h2 h3 h4
theorem Sn {Ws r:List (List UInt8)}{b:Nat}{w0:List UInt8}(hu:LstV jT H (.sl b 0 Ws.length 1) (Ws.map bA))(hr:Ws=w0 :: r):∃sv,zV 1 (.sl b 0 Ws.length 1) (some (.int .i64 1)) none=some sv/\bD sv=some (.int .i64 (r.length:Int))/\LstV jT H sv (r.map bA)/\stor sv=true:=by
 have hml:(Ws.map bA).length=Ws.length:=by simp
 have hl:Ws.length=r.length+1:=by rw [hr];rfl
 have hb:bT (Ws.map bA).length (some (.int .i64 1)) none=some (1,Ws.length):=by
  rw [hml]
  exact qO (n:=1) (by omega)
 have h1:=hu.subW (a:=1) (b:=Ws.length) ⟨by omega,by omega⟩ (by omega) hb
 have h2:=hu.sub (a:=1) (b:=Ws.length) ⟨by omega,by omega⟩
 have e:((Ws.map bA).drop 1).take (Ws.length-1)=r.map bA:=by
  rw [←List.map_drop,hr,List.drop_one,List.tail_cons,List.take_of_length_le (by simp)]
 rw [e] at h2
 refine ⟨_,h1,?_,h2,h2.stor⟩
 rw [h2.len];simp
theorem zB {T:List UInt8} (hg:HX dQ H) (hT:T.length≤4000) (hlim:lim≤H.length) (hK:∀H' ws,HX H H'→OCapV H.length H' ws (rdK atV true (wds 10 T))→K (.agg ws) H'):aF tbl lim 20 [.str (bA T)] H K:=by
 refine ao tbl_at20 rfl ?_
 simp [vf20]
 refine xd (c:=10) (by rw [jy];omega) ?_
 rw [ix]
 have wm:=pI (c:=10) T
 have wl:=mV (c:=10) T
 have hu0:=PS (H:=H) (X:=[]) (l:=wds 10 T)
 obtain ⟨Ls,hLs⟩:∃Ws,Ws=wds 10 T:=⟨_,rfl⟩
 rw [←hLs] at hK wm wl hu0 ⊢
 have x0:HX H (H++[.row (jT.all (Ls.map bA)) true]):=⟨_,rfl⟩
 have l0:(H++[Blk.row (jT.all (Ls.map bA)) true]).length=H.length+1:=by simp
 obtain ⟨b0,hb0⟩:∃b,b=H.length:=⟨_,rfl⟩
 rw [←hb0] at hu0 l0 ⊢
 generalize H++[Blk.row (jT.all (Ls.map bA)) true]=H0 at *
 simp
 refine aO Ls.length (fun i fr L H'=>(fr 2=.lp 0 0/\fr 3=.lp 1 0/\fr 13=.sl b0 0 Ls.length 1/\fr 14=.int .i64 (Ls.length:Int)/\fr 15=.int .i64 (i:Int))/\(∃pv sv P S e,L=[[.snil,.snil,.int .i64 0],[pv,sv,.int .i64 e]]/\HX H0 H'/\OCapV H0.length H' [pv,sv,.int .i64 e] ⟨P,S,e⟩/\(⟨P,S,e⟩:Cp)=(Ls.take i).foldl (Cp.take atV true) ⟨[],[],0⟩)/\i<=Ls.length) ⟨⟨by simp,by simp,by simp,by simp,by simp⟩,⟨.snil,.snil,[],[],0,by simp,.refl,.mk (ps:=[]) .nil .nil (fun k o z y o' z' y' h=>by cases h) (fun i hi=>by simp at hi),rfl⟩,by omega⟩ ?_
 rintro i hi fr L H1 ⟨⟨f2,f3,f13,f14,f15⟩,⟨pv,sv,P,S,e,rfl,x1,hc,hx⟩,hle⟩
 have l1:=x1.len
 by_cases hp:i<Ls.length
 ·have hp':((i:Int)<(Ls.length:Int))=True:=eq_true (by omega)
  obtain ⟨ln,hln⟩:∃w,Ls[i]? = some w:=⟨_,List.getElem?_eq_getElem hp⟩
  have hnx:=FN (num:=atV) (ev:=true) hln
  have hbd:=ww (num:=atV) (ev:=true) (Ls:=Ls) i
  rw [←hx] at hnx hbd
  simp only at hbd
  obtain ⟨d1,a1⟩:=A9 (hu0.mono x1) hln
  have hll:=wm ln (List.mem_of_getElem? hln)
  have hwm:=pI (c:=32) ln
  have hwl:=mV (c:=32) ln
  have hmin:=Oq (c:=32) ln
  have hs6:=PS (H:=H1) (X:=[]) (l:=wds 32 ln)
  have x6:HX H1 (H1++[.row (jT.all ((wds 32 ln).map bA)) true]):=⟨_,rfl⟩
  simp (disch:=omega) [f2,f3,f13,f14,f15,hp',d1,a1]
  refine xd (c:=32) (by rw [jy];omega) ?_
  rw [ix]
  have l6:(H1++[Blk.row (jT.all ((wds 32 ln).map bA)) true]).length=H1.length+1:=by simp
  obtain ⟨b6,hb6⟩:∃b,b=H1.length:=⟨_,rfl⟩
  rw [←hb6] at hs6 l6 ⊢
  have hc6:=hc.mono x6
  generalize H1++[Blk.row (jT.all ((wds 32 ln).map bA)) true]=H6 at *
  obtain ⟨Ws,hWs⟩:∃Ws,Ws=wds 32 ln:=⟨_,rfl⟩
  rw [←hWs] at hnx hwm hwl hmin hs6 ⊢
  obtain ⟨w0,r,hWr⟩:∃w0 r,Ws=w0 :: r:=by
   match Ws,hmin with
   | w0 :: r,_=>exact ⟨w0,r,rfl⟩
  obtain ⟨sb,q1,q2,q3,q4⟩:=Sn hs6 hWr
  have hrl:r.length<=4001:=by rw [hWr] at hwl;simp at hwl;omega
  have hnx:(Ls.take (i+1)).foldl (Cp.take atV true) ⟨[],[],0⟩=(⟨P,S,e⟩:Cp).put true w0 (r.map atV):=by rw [hnx,hWr];rfl
  simp (disch:=omega) [f2,f3,f13,f14,f15,q1,q2,q4]
  refine aO r.length (fun j fr L H'=>(fr 2=.lp 0 0/\fr 3=.lp 1 0/\fr 13=.sl b0 0 Ls.length 1/\fr 14=.int .i64 (Ls.length:Int)/\fr 15=.int .i64 (i:Int)/\fr 6=.sl b6 0 Ws.length 1/\fr 22=sb/\fr 23=.int .i64 (r.length:Int)/\fr 24=.int .i64 (j:Int))/\(∃nv,fr 7=nv/\HX H6 H'/\OwnV H6.length H' nv ((r.take j).map atV))/\L=[[.snil,.snil,.int .i64 0],[pv,sv,.int .i64 e]]/\j<=r.length) ⟨⟨by simp [f2],by simp [f3],by simp [f13],by simp [f14],by simp [f15],by simp,by simp,by simp,by simp⟩,⟨.snil,by simp,.refl,.nil⟩,rfl,by omega⟩ ?_
  clear f2 f3 f13 f14 f15
  rintro j hj fr2 L2 H7 ⟨⟨f2,f3,f13,f14,f15,f6,f22,f23,f24⟩,⟨nv,f7,x7,hn⟩,rfl,hle2⟩
  have l7:=x7.len
  by_cases hj2:j<r.length
  ·have hj':((j:Int)<(r.length:Int))=True:=eq_true (by omega)
   obtain ⟨w,hw⟩:∃w,r[j]? = some w:=⟨_,List.getElem?_eq_getElem hj2⟩
   obtain ⟨d2,a2⟩:=A9 (q3.mono x7) hw
   have hwl2:=hwm w (by rw [hWr];simp [List.mem_of_getElem? hw])
   simp (disch:=omega) [f2,f3,f13,f14,f15,f6,f22,f23,f24,f7,hj',d2,a2]
   refine QN ((((hg.trans x0).trans x1).trans x6).trans x7) (by rw [jy];omega) fun H8 ev x8 => ?_
   replace x8:HX H7 H8:=x8
   have l8:=x8.len
   rw [ix]
   obtain ⟨nv',H9,c1,c2,c3,c4,c5,c6⟩:=(hn.mono x8).appendF (lim:=lim) (x:=atV w) ⟨by omega,by omega⟩ (by simp;omega)
   have ht:(r.take (j+1)).map atV=(r.take j).map atV++[atV w]:=by rw [List.take_add_one,hw];simp
   simp (disch:=omega) [f2,f3,f13,f14,f15,f6,f22,f23,f24,f7,c1,hn.sl.stor,ae]
   exact ⟨hj2,⟨c3 _ (x7.trans x8) (Nat.le_refl _),by rw [List.map_take] at ht;rw [ht];exact c2⟩,hj2⟩
  have hj':((j:Int)<(r.length:Int))=False:=eq_false (by omega)
  have hj3:j=r.length:=by omega
  subst hj3
  rw [List.take_length] at hn
  have hcn:=hc6.mono x7
  obtain ⟨d3,a3⟩:=A9 (hs6.mono x7) (i:=0) (w:=w0) (by rw [hWr];rfl)
  have a3:aQ 1 (.sl b6 0 Ws.length 1) (.int .i64 0)=some (ept 1 (.sl b6 0 Ws.length 1) 0):=a3
  obtain ⟨ns,hns⟩:∃ns,ns=r.map atV:=⟨_,rfl⟩
  rw [←hns] at hn hnx
  have hnl:ns.length=r.length:=by rw [hns];simp
  have hnv:=hn.sl
  have hvl:=hnv.len
  obtain ⟨z1,z2,z3,z4⟩:=hcn.vals
  have x17:=(x1.trans x6).trans x7
  have q5:=Da (W:=w0) (T:=ew)
  have q6:=Da (W:=w0) (T:=de)
  have q7:=Da (W:=w0) (T:=eU)
  by_cases k1:w0=ew/\ns.length=1
  ·obtain ⟨k1,k2⟩:=k1
   rw [Iy ⟨k1,k2⟩] at hnx
   rw [decide_eq_true k1] at q5
   have k2':((ns.length:Int)=1)=True:=eq_true (by omega)
   have a4:=hnv.addr (i:=0) ⟨by omega,by omega⟩
   have a4:aQ 1 nv (.int .i64 0)=some (ept 1 nv 0):=a4
   have d4:=fun L=>hnv.load (i:=0) (by omega) (L:=L)
   have eh:ns.headD 0=ns.getD 0 0:=by
    match ns,k2 with
    | [x],_=>rfl
   rw [eh] at hnx
   simp (disch:=omega) [f2,f3,f13,f14,f15,f6,f22,f23,f24,f7,hj',d3,a3,sE,q5,hvl,k2',a4,d4,al,ae]
   exact ⟨hp,⟨pv,sv,P,S,ns.getD 0 0,⟨rfl,rfl,rfl⟩,x17,hcn.setE,hnx.symm⟩,hp⟩
  have n1:(decide (w0=ew)&&decide ((ns.length:Int)=1))=false:=by
   rw [Bool.eq_false_iff]
   intro h
   simp only [Bool.and_eq_true,decide_eq_true_eq] at h
   exact k1 ⟨h.1,by omega⟩
  by_cases k3:w0=de/\ns.length % 2=0
  ·obtain ⟨k3,k4⟩:=k3
   rw [F3 ⟨k3,fun _=>k4⟩] at hnx
   have ke:¬w0=ew:=fun h=>ne1 (k3.symm.trans h)
   rw [decide_eq_false ke] at q5
   rw [decide_eq_true k3] at q6
   have rm:Int.tmod (ns.length:Int) 2=0:=by rw [Int.tmod_eq_emod_of_nonneg (by omega)];omega
   simp (disch:=omega) [f2,f3,f13,f14,f15,f6,f22,f23,f24,f7,hj',d3,a3,sE,sP,q5,q6,hvl,rm,hnv.stor,z1,rd0]
   refine wP hnv k4 (by omega) (Nat.le_refl _) fun H8 a b x8 ha hb => ?_
   replace x8:HX H7 H8:=x8
   have l8:=x8.len
   obtain ⟨pv',H9,c1,c2,c3,c4⟩:=hcn.pushP (lim:=lim) (p:=pcO ns) x8 ha hb ⟨by omega,by omega⟩ (by omega)
   have y1:=ha.sl.stor
   have y2:=hb.sl.stor
   have y3:=ha.sl.one
   have y4:=hb.sl.one
   obtain ⟨w1,w2,w3,w4⟩:=c2.vals
   simp (disch:=omega) [f2,f3,f13,f14,f15,f6,f22,f23,f24,f7,y1,y2,y3,y4,Qx,c1,z1,w1,w2,rd0,al,ae]
   exact ⟨hp,⟨_,_,_,_,_,⟨rfl,rfl,rfl⟩,c3 _ (x17.trans x8) (Nat.le_refl _),c2,hnx.symm⟩,hp⟩
  have n2:(decide (w0=de)&&decide (Int.tmod (ns.length:Int) 2=0))=false:=by
   rw [Bool.eq_false_iff]
   intro h
   simp only [Bool.and_eq_true,decide_eq_true_eq] at h
   refine k3 ⟨h.1,?_⟩
   have:=h.2
   rw [Int.tmod_eq_emod_of_nonneg (by omega)] at this
   omega
  by_cases k5:w0=eU/\ns.length=4
  ·obtain ⟨k5,k6⟩:=k5
   rw [K5 ⟨k5,k6⟩] at hnx
   have ke:¬w0=ew:=fun h=>ne2 (k5.symm.trans h)
   have kp:¬w0=de:=fun h=>ne3 (k5.symm.trans h)
   rw [decide_eq_false ke] at q5
   rw [decide_eq_false kp] at q6
   rw [decide_eq_true k5] at q7
   have k6':((ns.length:Int)=4)=True:=eq_true (by omega)
   have b0':aQ 1 nv (.int .i64 0)=some (ept 1 nv 0):=hnv.addr (i:=0) ⟨by omega,by omega⟩
   have b1':aQ 1 nv (.int .i64 1)=some (ept 1 nv 1):=hnv.addr (i:=1) ⟨by omega,by omega⟩
   have b2':aQ 1 nv (.int .i64 2)=some (ept 1 nv 2):=hnv.addr (i:=2) ⟨by omega,by omega⟩
   have b3':aQ 1 nv (.int .i64 3)=some (ept 1 nv 3):=hnv.addr (i:=3) ⟨by omega,by omega⟩
   have e0:=fun L=>hnv.load (i:=0) (by omega) (L:=L)
   have e1:=fun L=>hnv.load (i:=1) (by omega) (L:=L)
   have e2:=fun L=>hnv.load (i:=2) (by omega) (L:=L)
   have e3:=fun L=>hnv.load (i:=3) (by omega) (L:=L)
   obtain ⟨sv',H9,c1,c2,c3,c4⟩:=hcn.pushS (lim:=lim) (x:=smO ns) (cs:=[.int .i64 (ns.getD 0 0),.int .i64 (ns.getD 1 0),.int .i64 (ns.getD 2 0),.int .i64 (ns.getD 3 0)]) rfl ⟨by omega,by omega⟩ (by omega)
   obtain ⟨w1,w2,w3,w4⟩:=c2.vals
   simp (disch:=omega) [f2,f3,f13,f14,f15,f6,f22,f23,f24,f7,hj',d3,a3,sE,sP,sS,q5,q6,q7,hvl,k6',b0',b1',b2',b3',e0,e1,e2,e3,z1,z3,rd0,cm,zs4,LQ,al,c1,w3,w4,ae]
   exact ⟨hp,⟨_,_,_,_,_,⟨rfl,rfl,rfl⟩,c3 _ x17 (Nat.le_refl _),c2,hnx.symm⟩,hp⟩
  have n3:(decide (w0=eU)&&decide ((ns.length:Int)=4))=false:=by
   rw [Bool.eq_false_iff]
   intro h
   simp only [Bool.and_eq_true,decide_eq_true_eq] at h
   exact k5 ⟨h.1,by omega⟩
  rw [Qc k1 (fun h=>k3 ⟨h.1,h.2 rfl⟩) k5] at hnx
  obtain ⟨g1,hg1⟩:∃g,g=decide (w0=ew):=⟨_,rfl⟩
  obtain ⟨g2,hg2⟩:∃g,g=decide (w0=de):=⟨_,rfl⟩
  obtain ⟨g3,hg3⟩:∃g,g=decide (w0=eU):=⟨_,rfl⟩
  rw [←hg1] at q5 n1
  rw [←hg2] at q6 n2
  rw [←hg3] at q7 n3
  cases g1<;>cases g2<;>cases g3<;>simp at n1 n2 n3<;>simp (disch:=omega) [f2,f3,f13,f14,f15,f6,f22,f23,f24,f7,hj',d3,a3,sE,sP,sS,q5,q6,q7,hvl,n1,n2,n3,ae]<;>exact ⟨hp,⟨pv,sv,P,S,e,⟨rfl,rfl,rfl⟩,x17,hcn,hnx.symm⟩,hp⟩
 have hp':((i:Int)<(Ls.length:Int))=False:=eq_false (by omega)
 have hi2:i=Ls.length:=by omega
 subst hi2
 rw [List.take_length] at hx
 obtain ⟨z1,z2,z3,z4⟩:=hc.vals
 simp [f2,f3,f13,f14,f15,hp',z1,z2,z3,z4,bh,kc]
 refine hK H1 _ (x0.trans x1) ?_
 have:rdK atV true Ls=⟨P,S,e⟩:=hx.symm
 rw [this]
 exact hc.le (by omega)
end
theorem PA {ev:Bool} {x:Cp} {w:List UInt8} {ns:List Int} (hx:∀p∈x.P,p.s.length≤5000∧p.a.length≤5000) (hn:ns.length≤5000):∀p∈(x.put ev w ns).P,p.s.length≤5000∧p.a.length≤5000:=by
 unfold Cp.put
 split
 ·exact hx
 ·split
  ·intro p hp
   rcases List.mem_append.1 hp with hp | hp
   ·exact hx p hp
   ·rw [List.mem_singleton.1 hp]
    have:=uT ns.length (l:=ns) (Nat.le_refl _)
    unfold pcO
    simp only
    omega
  ·split<;>exact hx
theorem DK {num:List UInt8->Int}{ev:Bool}:∀{Ls:List (List UInt8)} {x:Cp},(∀l∈Ls,l.length<=4000)->(∀p∈x.P,p.s.length<=5000/\p.a.length<=5000)->∀p∈(Ls.foldl (Cp.take num ev) x).P,p.s.length<=5000/\p.a.length<=5000
 | [],x,_,hx=>hx
 | l :: Ls,x,hL,hx=>by
   rw [List.foldl_cons]
   refine DK (fun m hm=>hL m (by simp [hm])) (PA hx ?_)
   have h1:=mV (c:=32) l
   have h2:=hL l (by simp)
   rw [List.length_map,List.length_tail]
   omega
structure CpB (c:Cp):Prop where
 P:c.P.length<=4001
 S:c.S.length<=4001
 p:∀q,q<c.P.length->(c.P.getD q default).s.length<=5000/\(c.P.getD q default).a.length<=5000
theorem Ry {num:List UInt8->Int}{ev:Bool}{T:List UInt8}(hT:T.length<=4000):CpB (rdK num ev (wds 10 T)):=by
 have wm:=pI (c:=10) T
 have wl:=mV (c:=10) T
 have h1:=ww (num:=num) (ev:=ev) (Ls:=wds 10 T) (wds 10 T).length
 rw [List.take_length] at h1
 refine ⟨by unfold rdK;omega,by unfold rdK;omega,fun q hq => ?_⟩
 exact DK (x:=⟨[],[],0⟩) (fun l hl=>by have:=wm l hl;omega) (by simp) _ (RO hq)
theorem Kg {c:Cp}(h:CapOk c)(hS:c.S.length<=10000):(jQ c).length<=460+21*c.S.length:=by
 have he:=h.e
 have hn:=h.np
 have h1:=mU (w:=ew) (l:=[c.e.toNat]) (by simp;omega)
 have h2:=wn h.pcB
 have h3:=uG h.smBd
 have e4:ew.length=4:=rfl
 rw [DJ]
 simp only [List.length_append,List.length_cons,List.length_nil] at h1 ⊢
 omega
section
variable {lim n:Nat}{H H':Hp}{K:V->Hp->Prop}{v d p u a b pv sv:V}{ws:List V}{c:Cp}
theorem AM:CapV H [.snil,.snil,.int .i64 0] noC:=.mk (ps:=[]) ⟨.nil,rfl,fun i hi=>by simp at hi⟩ .nil
theorem xV {T:List UInt8}(hg:HX dQ H)(hlim:lim<=H.length)(hK:∀H' ws',HX H H'->CapV H' ws' (uF (rdK atV true (wds 10 T)) T).1->K (.tup [.agg ws',.int .i64 (uF (rdK atV true (wds 10 T)) T).2]) H'):aF tbl lim 9 [.str (bA T)] H K:=by
 refine ao tbl_at9 rfl ?_
 by_cases h4:4000<T.length
 ·have h4':((4000:Int)<(T.length:Int))=True:=eq_true (by omega)
  rw [Fz h4] at hK
  simp [vf9,jy,h4',kc,bh]
  exact hK H _ .refl AM
 have h4':((4000:Int)<(T.length:Int))=False:=eq_false (by omega)
 simp [vf9,jy,h4']
 refine zB hg (by omega) hlim fun H1 ws1 x1 hc => ?_
 replace x1:HX H H1:=x1
 have l1:=x1.len
 have hB:=Ry (num:=atV) (ev:=true) (T:=T) (by omega)
 obtain ⟨X,hX⟩:∃X,X=rdK atV true (wds 10 T):=⟨_,rfl⟩
 rw [←hX] at hK hc hB
 have hcc:=hc.cap
 obtain ⟨pv,sv,ps,rfl,-,-,z1,z2,z3,z4⟩:=hcc.form
 simp [z1,z2,z3,z4,kc,bh]
 refine jX hcc (by have:=hB.S;omega) (hg.trans x1) (by omega) fun H2 x2 => ?_
 replace x2:HX H1 H2:=x2
 by_cases he:cF X=0
 case neg =>
  rw [Ed h4 (fun h=>he h.1)] at hK
  simp [he,kc,bh]
  exact hK H2 _ (x1.trans x2) AM
 rw [txK,if_pos he,he]
 by_cases ha:jQ X=T
 ·rw [xl h4 ⟨he,ha⟩] at hK
  have hq:bU .neq (.str (bA (jQ X))) (.str (bA T))=some (.bool false):=by
   have:=Di (W:=jQ X) (s:=bA T)
   rw [ix,decide_eq_true ha] at this
   exact this
  simp [hq,z1,z2,z3,z4,kc,bh]
  exact hK H2 _ (x1.trans x2) (hcc.mono x2)
 ·rw [Ed h4 (fun h=>ha h.2)] at hK
  have hq:bU .neq (.str (bA (jQ X))) (.str (bA T))=some (.bool true):=by
   have:=Di (W:=jQ X) (s:=bA T)
   rw [ix,decide_eq_false ha] at this
   exact this
  simp [hq,kc,bh]
  exact hK H2 _ (x1.trans x2) AM
end
structure Al where
 k:Int
 A:Int
 I:Int
 B:Int
 J:Int
 p:Int
 i:Int
 j:Int
 l:Int
 n:Int
 deriving Inhabited
def Al.cells (x:Al):List V:=[.int .i64 x.k,.int .i64 x.A,.int .i64 x.I,.int .i64 x.B,.int .i64 x.J,.int .i64 x.p,.int .i64 x.i,.int .i64 x.j,.int .i64 x.l,.int .i64 x.n]
def Al.in64 (x:Al):Prop:=I64 x.k/\I64 x.A/\I64 x.I/\I64 x.B/\I64 x.J/\I64 x.p/\I64 x.i/\I64 x.j/\I64 x.l/\I64 x.n
def alC:Cod Al 10:=⟨Al.cells,fun _=>rfl⟩
structure AltV (H:Hp)(v:V)(l:List Al):Prop where
 lst:LstV alC H v l
 all:∀x∈l,x.in64
theorem MB {H:Hp}{v:V}{d:CD}(h:RepT H (.sl [cZ,cZ,cZ,cZ,cZ,cZ,cZ,cZ,cZ,cZ]) v d):∃l,AltV H v l:=by
 obtain ⟨l,h1,_,h3⟩:=z8 (c:=alC) rfl (fun z=>z.in64) (fun vs ds h=>by
  obtain ⟨v0,u0,_,_,rfl,_,p0,q0⟩:=bZ h
  obtain ⟨v1,u1,_,_,rfl,_,p1,q1⟩:=bZ q0
  obtain ⟨v2,u2,_,_,rfl,_,p2,q2⟩:=bZ q1
  obtain ⟨v3,u3,_,_,rfl,_,p3,q3⟩:=bZ q2
  obtain ⟨v4,u4,_,_,rfl,_,p4,q4⟩:=bZ q3
  obtain ⟨v5,u5,_,_,rfl,_,p5,q5⟩:=bZ q4
  obtain ⟨v6,u6,_,_,rfl,_,p6,q6⟩:=bZ q5
  obtain ⟨v7,u7,_,_,rfl,_,p7,q7⟩:=bZ q6
  obtain ⟨v8,u8,_,_,rfl,_,p8,q8⟩:=bZ q7
  obtain ⟨v9,u9,_,_,rfl,_,p9,q9⟩:=bZ q8
  have e:=mu q9
  subst e
  obtain ⟨n0,rfl,c0⟩:=eC p0
  obtain ⟨n1,rfl,c1⟩:=eC p1
  obtain ⟨n2,rfl,c2⟩:=eC p2
  obtain ⟨n3,rfl,c3⟩:=eC p3
  obtain ⟨n4,rfl,c4⟩:=eC p4
  obtain ⟨n5,rfl,c5⟩:=eC p5
  obtain ⟨n6,rfl,c6⟩:=eC p6
  obtain ⟨n7,rfl,c7⟩:=eC p7
  obtain ⟨n8,rfl,c8⟩:=eC p8
  obtain ⟨n9,rfl,c9⟩:=eC p9
  exact ⟨⟨n0,n1,n2,n3,n4,n5,n6,n7,n8,n9⟩,rfl,c0,c1,c2,c3,c4,c5,c6,c7,c8,c9⟩) h
 exact ⟨l,h1,h3⟩
theorem Se {a0 a1 a2 a3 a4 a5 a6 a7 a8 a9:V}:rd (some 4) [a0,a1,a2,a3,a4,a5,a6,a7,a8,a9] 1=some (.agg [a1,a2,a3,a4]):=Eq.trans rfl rfl
theorem DC {a0 a1 a2 a3 a4 a5 a6 a7 a8 a9:V}:rd none [a0,a1,a2,a3,a4,a5,a6,a7,a8,a9] 0=some a0:=Eq.trans rfl rfl
theorem Rz {a0 a1 a2 a3 a4 a5 a6 a7 a8 a9:V}:rd none [a0,a1,a2,a3,a4,a5,a6,a7,a8,a9] 1=some a1:=Eq.trans rfl rfl
theorem PK {a0 a1 a2 a3 a4 a5 a6 a7 a8 a9:V}:rd none [a0,a1,a2,a3,a4,a5,a6,a7,a8,a9] 5=some a5:=Eq.trans rfl rfl
theorem RQ {a0 a1 a2 a3 a4 a5 a6 a7 a8 a9:V}:rd none [a0,a1,a2,a3,a4,a5,a6,a7,a8,a9] 6=some a6:=Eq.trans rfl rfl
theorem RT {a0 a1 a2 a3 a4 a5 a6 a7 a8 a9:V}:rd none [a0,a1,a2,a3,a4,a5,a6,a7,a8,a9] 7=some a7:=Eq.trans rfl rfl
theorem Sd {a0 a1 a2 a3 a4 a5 a6 a7 a8 a9:V}:rd none [a0,a1,a2,a3,a4,a5,a6,a7,a8,a9] 8=some a8:=Eq.trans rfl rfl
theorem PN {a0 a1 a2 a3 a4 a5 a6 a7 a8 a9:V}:rd none [a0,a1,a2,a3,a4,a5,a6,a7,a8,a9] 9=some a9:=Eq.trans rfl rfl
section
variable {lim n:Nat}{H H':Hp}{K:V->Hp->Prop}{v d p u a b pv sv:V}{ws:List V}{c:Cp}
theorem Gl (h:CapOk c):ShortC c:=⟨(pX h).1,(pX h).2.1,(pX h).2.2⟩
noncomputable def pq (c:Cp)(i:Nat):Int:=(((cI c).map (·.ang)).take i).sum
theorem tz {i:Nat}(hi:i<(cI c).length):pq c (i+1)=pq c i+((cI c).getD i default).ang:=by
 unfold pq
 rw [ql (by simpa using hi)]
 congr 1
 simp [List.getD_eq_getElem?_getD,hi]
theorem Rx (hok:CapOk c){q:Ptt}(hq:q∈cI c):0<=q.ang/\q.ang<=17232:=by
 obtain ⟨k,hk,rfl⟩:=List.mem_map.1 hq
 exact Dw hok k
theorem vH (hok:CapOk c):∀{i:Nat},i<=(cI c).length->0<=pq c i/\pq c i<=17232*i
 | 0,_=>by simp [pq]
 | i+1,h=>by
   have h1:=vH hok (i:=i) (by omega)
   have h2:=Rx hok (qR (l:=cI c) (i:=i) (by omega))
   rw [tz (by omega)];omega
theorem pK (hok:CapOk c):∀{i:Nat},i<=c.P.length->0<=gi c.P i/\gi c.P i<=720*i
 | 0,_=>by simp [gi]
 | i+1,h=>by
   have h1:=pK hok (i:=i) (by omega)
   have h2:=hok.ks (q:=i) (by omega)
   rw [gi];omega
theorem Lf (hok:CapOk c):1<=dE c:=by
 have hn:=hok.np
 have:(0:Nat)∈cB (dw (pcN c.P) (lsN c)) c.P.length:=cn.2 ⟨by omega,fun d hd=>absurd hd (Nat.not_lt_zero _)⟩
 exact List.length_pos_of_mem this
theorem Eo (hc:CapV H ws c)(he:cF c=0)(hlim:lim<=H.length)(hK:∀H',HX H H'->K (.bool true) H'):aF tbl lim 12 [.agg ws] H K:=by
 have hok:=cX.1 he
 have hs24:=hok.s24
 have b1:=uZ (c:=c)
 have b2:=hok.ns
 have b4:=hok.np
 have b5:=D7 (c:=c)
 have b6:=DQ (c:=c)
 have b7:=Lf hok
 obtain ⟨pv,sv,ps,rfl,hp,hs,z1,z2,z3,z4⟩:=hc.form
 refine ao tbl_at12 rfl ?_
 simp [vf12,z1,z2,z3,z4,bh]
 refine oT hc (by omega) hlim fun H1 v x1 hv _ => ?_
 replace x1:HX H H1:=x1
 have l1:=x1.len
 obtain ⟨pts,o1,o2,o3⟩:=(hv he).ex
 have hvl:bD v=some (.int .i64 (cI c).length):=by rw [←o2];exact o1.lst.len
 have hvs:=o1.lst.stor
 rw [he]
 simp [z1,z2,z3,z4,bh,hvs]
 refine qW (hc.mono x1) (by omega) (by omega) fun H2 x2 => ?_
 replace x2:HX H1 H2:=x2
 have l2:=x2.len
 rw [if_pos he,he]
 simp [z1,z2,z3,z4,bh]
 refine vJ (hc.mono (x1.trans x2)) (by omega) (by omega) fun H3 x3 => ?_
 replace x3:HX H2 H3:=x3
 have l3:=x3.len
 rw [if_pos he,he]
 simp [z1,z2,z3,z4,bh]
 refine qx (hc.mono ((x1.trans x2).trans x3)) (by omega) (by omega) fun H4 x4 => ?_
 replace x4:HX H3 H4:=x4
 have l4:=x4.len
 rw [if_pos he,he]
 simp [z1,z2,z3,z4,bh]
 refine vQ (hc.mono (((x1.trans x2).trans x3).trans x4)) (by omega) (by omega) fun H5 x5 => ?_
 replace x5:HX H4 H5:=x5
 have l5:=x5.len
 rw [if_pos he,he]
 simp [z1,z2,z3,z4,bh]
 refine Cx (hc.mono ((((x1.trans x2).trans x3).trans x4).trans x5)) (by omega) (by omega) fun H6 w x6 hw _ => ?_
 replace x6:HX H5 H6:=x6
 have l6:=x6.len
 have x16:=((((x2.trans x3).trans x4).trans x5).trans x6)
 have x06:=x1.trans x16
 obtain ⟨us,p1,p2,-⟩:=(hw he).ex
 have hwl:bD w=some (.int .i64 (eJ c).length):=by rw [p1.lst.len,p2,List.length_map]
 have hws:=p1.lst.stor
 rw [he]
 have hp6:=hp.mono x06
 have o6:=o1.lst.mono x16
 obtain ⟨g,hg1,hg2,hg3⟩:=rW hok
 have heq:iL c=((cI c).length:Int)-((nsN c.P:Int)-(c.S.length:Int))+(c.P.length:Int):=rfl
 have hme:=Ax hok
 simp [hws,hvl]
 refine aO (cI c).length (fun i fr L H'=>(fr 1=.lp 0 0/\fr 3=v/\fr 5=.int .i64 (iL c)/\fr 7=.int .i64 (jL c)/\fr 9=.int .i64 (dE c:Int)/\fr 11=.int .i64 (fE c)/\fr 13=w/\fr 15=.int .i64 (jS c i)/\fr 16=.int .i64 (pq c i)/\fr 17=.int .i64 (i:Int))/\L=[[pv,sv,.int .i64 c.e]]/\H'=H6) ⟨by simp [jS,pq],rfl,rfl⟩ ?_
 rintro i hi fr L H7 ⟨⟨f1,f3,f5,f7,f9,f11,f13,f15,f16,f17⟩,rfl,rfl⟩
 by_cases hpp:i<(cI c).length
 ·have hp':((i:Int)<((cI c).length:Int))=True:=eq_true (by omega)
  have ad:=o6.at (i:=i) (by omega)
  have fa:=fun j=>o6.faddr (i:=i) (j:=j) (by omega)
  have ld3:∀L,aW none L H7 (dB 4 v i 3)=some (.int .i64 (pts.getD i default).d):=fun L=>o6.rd1 (by omega) (by omega)
  have ld2:∀L,aW none L H7 (dB 4 v i 2)=some (.int .i64 (pts.getD i default).a):=fun L=>o6.rd1 (by omega) (by omega)
  obtain ⟨q1,q2,q3,q4⟩:=o3 i hpp
  rw [q3] at ld3
  rw [q2] at ld2
  have c1:=lP hok (i:=i) (by omega)
  have c2:=lP hok (i:=i+1) (by omega)
  have c3:=vH hok (i:=i) (by omega)
  have c4:=vH hok (i:=i+1) (by omega)
  have w1:IntKind.wrap .i64 (jS c i+((cI c).getD i default).df)=jS c (i+1):=by rw [←nM hpp];exact ae (by omega) (by omega)
  have w2:IntKind.wrap .i64 (pq c i+((cI c).getD i default).ang)=pq c (i+1):=by rw [←tz hpp];exact ae (by omega) (by omega)
  simp (disch:=omega) [f1,f3,f5,f7,f9,f11,f13,f15,f16,f17,hvl,hp',ad,fa,ld2,ld3,w1,w2,ae]
  exact hpp
 have hp':((i:Int)<((cI c).length:Int))=False:=eq_false (by omega)
 have hi2:i=(cI c).length:=by omega
 subst hi2
 have hm1:jS c (cI c).length=jL c:=by
  unfold jS jL;rw [List.take_of_length_le (by simp)]
 have hm2:pq c (cI c).length=gi c.P c.P.length:=by
  unfold pq;rw [List.take_of_length_le (by simp),O6 hok,IV]
 rw [hm1] at f15
 rw [hm2] at f16
 have wb:=pK hok (i:=c.P.length) (Nat.le_refl _)
 obtain ⟨wt,hwt⟩:∃x,x=gi c.P c.P.length:=⟨_,rfl⟩
 rw [←hwt] at f16
 simp (disch:=omega) [f1,f3,f5,f7,f9,f11,f13,f15,f16,f17,hvl,hp']
 refine aO c.P.length (fun i fr L H'=>(fr 1=.lp 0 0/\fr 5=.int .i64 (iL c)/\fr 7=.int .i64 (jL c)/\fr 9=.int .i64 (dE c:Int)/\fr 11=.int .i64 (fE c)/\fr 13=w/\fr 15=.int .i64 (jL c)/\fr 16=.int .i64 wt/\fr 18=.int .i64 (gi c.P i)/\fr 19=.int .i64 (i:Int))/\L=[[pv,sv,.int .i64 c.e]]/\H'=H7) ⟨by simp [f1,f5,f7,f9,f11,f13,f15,f16,gi],rfl,rfl⟩ ?_
 clear f1 f3 f5 f7 f9 f11 f13 f15 f16 f17
 rintro i hi fr2 L H8 ⟨⟨f1,f5,f7,f9,f11,f13,f15,f16,f18,f19⟩,rfl,rfl⟩
 by_cases hpp:i<c.P.length
 ·have hp':((i:Int)<(c.P.length:Int))=True:=eq_true (by omega)
  have ad:=hp6.at hpp
  have fa:=hp6.fa hpp
  have ld:=hp6.ld0 hpp
  obtain ⟨ha,-⟩:=hp6.at' i hpp
  have hks:=hok.ks hpp
  have hal:bD (ps.getD i default).1=some (.int .i64 (ksN c.P i:Nat)):=ha.len
  have c1:=pK hok (i:=i) (by omega)
  have c2:=pK hok (i:=i+1) (by omega)
  have hwn:gi c.P (i+1)=gi c.P i+180*((ksN c.P i:Int)-2):=rfl
  have w1:IntKind.wrap .i64 (180*((ksN c.P i:Int)-2))=180*((ksN c.P i:Int)-2):=ae (by omega) (by omega)
  have w2:IntKind.wrap .i64 (gi c.P i+180*((ksN c.P i:Int)-2))=gi c.P (i+1):=by rw [hwn];exact ae (by omega) (by omega)
  simp (disch:=omega) [f1,f5,f7,f9,f11,f13,f15,f16,f18,f19,hp6.vlen,hp',ad,fa,ld,hal,rd0,w1,w2,ae]
  exact hpp
 have hp':((i:Int)<(c.P.length:Int))=False:=eq_false (by omega)
 have hi2:i=c.P.length:=by omega
 subst hi2
 rw [←hwt] at f18
 have k1:(jL c=360*iL c)=True:=eq_true hme
 have k2:(iL c=2*(dE c:Int)-2*fE c-((eJ c).length:Int))=True:=eq_true (by omega)
 have k3:(0<=fE c)=True:=eq_true (by omega)
 have k4:((1:Int)<=(dE c:Int))=True:=eq_true (by omega)
 have w1:IntKind.wrap .i64 (360*iL c)=360*iL c:=ae (by omega) (by omega)
 have w2:IntKind.wrap .i64 (2*(dE c:Int))=2*(dE c:Int):=ae (by omega) (by omega)
 have w3:IntKind.wrap .i64 (2*fE c)=2*fE c:=ae (by omega) (by omega)
 have w4:IntKind.wrap .i64 (2*(dE c:Int)-2*fE c)=2*(dE c:Int)-2*fE c:=ae (by omega) (by omega)
 have w5:IntKind.wrap .i64 (2*(dE c:Int)-2*fE c-((eJ c).length:Int))=2*(dE c:Int)-2*fE c-((eJ c).length:Int):=ae (by omega) (by omega)
 have k5:1<=dE c:=b7
 simp (disch:=omega) [f1,f5,f7,f9,f11,f13,f15,f16,f18,f19,hp6.vlen,hp',rd0,hwl,w1,w2,w3,w4,w5,k1,k2,k3,k4,k5]
 exact hK H8 x06
end
section
variable {lim n:Nat}{H H':Hp}{K:V->Hp->Prop}{v d p u a b pv sv:V}{ws:List V}{c:Cp}
theorem GH {x:Al} (hc:CapV H ws c) (hok:CapOk c) (hx:x.in64) (hlim:lim≤H.length) (hK:∀H' ws' c',HX H H'→CapV H' ws' c'→CapOk c'→K (.agg ws') H'):aF tbl lim 14 [.agg ws,.agg x.cells] H K:=by
 have hsh:=Gl hok
 have he:=cX.2 hok
 obtain ⟨i0,i1,i2,i3,i4,i5,i6,i7,i8,i9⟩:=hx
 obtain ⟨k,A,I,B,J,p,i,j,l,n⟩:=x
 simp only at i0 i1 i2 i3 i4 i5 i6 i7 i8 i9
 have hcl:(⟨k,A,I,B,J,p,i,j,l,n⟩:Al).cells=[.int .i64 k,.int .i64 A,.int .i64 I,.int .i64 B,.int .i64 J,.int .i64 p,.int .i64 i,.int .i64 j,.int .i64 l,.int .i64 n]:=rfl
 rw [hcl]
 obtain ⟨pv,sv,ps,rfl,-,-,z1,z2,z3,z4⟩:=hc.form
 refine ao tbl_at14 rfl ?_
 obtain ⟨m,hm⟩:∃m:Nat,IntKind.wrap .u64 k=(m:Int):=by
  refine ⟨(IntKind.wrap .u64 k).toNat,?_⟩
  have:0<=IntKind.wrap .u64 k:=by simp [IntKind.wrap,IntKind.bits,IntKind.signed];omega
  omega
 obtain ⟨r,hr⟩:∃r:Nat,r=m % 4:=⟨_,rfl⟩
 have rm:Int.tmod (m:Int) 4=(r:Int):=by rw [Int.tmod_eq_emod_of_nonneg (by omega)];omega
 have hr4:r<4:=by omega
 clear hr
 have fin:=hK H _ c .refl hc hok
 rcases (show r=0\/r=1\/r=2\/r=3 by omega) with rfl | rfl | rfl | rfl
 ·simp [vf14,z1,z2,z3,z4,hm,rm,bh,DC,Se]
  refine It (s:=⟨A,I,B,J⟩) hc hsh hlim fun H1 ws1 x1 o1 => ?_
  replace x1:HX H H1:=x1
  have o1:=o1.cap
  obtain ⟨pv1,sv1,ps1,rfl,-,-,y1,y2,y3,y4⟩:=o1.form
  by_cases h:cF (Af c ⟨A,I,B,J⟩)=0
  ·rw [if_pos h] at o1
   try rw [if_pos h]
   simp [y1,y2,y3,y4,h,kc,bh]
   exact hK H1 _ _ x1 o1 (cX.1 h)
  ·rw [if_neg h] at o1
   try rw [if_neg h]
   simp [y1,y2,y3,y4,h,z1,z2,z3,z4,kc,bh]
   exact hK H1 _ _ x1 (hc.mono x1) hok
 ·simp [vf14,z1,z2,z3,z4,hm,rm,bh,DC,Rz]
  refine CH hc hsh hlim fun H1 ws1 x1 o1 => ?_
  replace x1:HX H H1:=x1
  obtain ⟨pv1,sv1,ps1,rfl,-,-,y1,y2,y3,y4⟩:=o1.form
  by_cases h:sr c A=0
  ·rw [if_pos h] at o1
   try rw [if_pos h]
   simp [y1,y2,y3,y4,h,kc,bh]
   have hi:0<=A/\A<c.S.length:=by
    unfold sr at h
    rw [if_neg (by omega)] at h
    split at h
    ·assumption
    ·cases h
   exact hK H1 _ _ x1 o1 (Rb hok (by omega))
  ·rw [if_neg h] at o1
   try rw [if_neg h]
   simp [y1,y2,y3,y4,h,z1,z2,z3,z4,kc,bh]
   exact hK H1 _ _ x1 (hc.mono x1) hok
 ·simp [vf14,z1,z2,z3,z4,hm,rm,bh,DC,PK,PN]
  refine Fq i5 i9 hc hsh hlim fun H1 ws1 x1 o1 => ?_
  replace x1:HX H H1:=x1
  obtain ⟨pv1,sv1,ps1,rfl,-,-,y1,y2,y3,y4⟩:=o1.form
  by_cases h:iJ c p n=0
  ·rw [if_pos h] at o1
   try rw [if_pos h]
   simp [y1,y2,y3,y4,h,kc,bh]
   exact hK H1 _ _ x1 o1 (Cb h).2.1
  ·rw [if_neg h] at o1
   try rw [if_neg h]
   simp [y1,y2,y3,y4,h,z1,z2,z3,z4,kc,bh]
   exact hK H1 _ _ x1 (hc.mono x1) hok
 ·simp [vf14,z1,z2,z3,z4,hm,rm,bh,DC,PK,RQ,RT,Sd,PN]
  refine AN i5 i6 i7 hc hsh hlim fun H1 ws1 x1 o1 => ?_
  replace x1:HX H H1:=x1
  obtain ⟨pv1,sv1,ps1,rfl,-,-,y1,y2,y3,y4⟩:=o1.form
  by_cases h:m7 c p i j l n=0
  ·rw [if_pos h] at o1
   try rw [if_pos h]
   simp [y1,y2,y3,y4,h,kc,bh]
   obtain ⟨q,i',j',rfl,rfl,rfl,hg⟩:=NM h
   exact hK H1 _ _ x1 o1 hg.capOk
  ·rw [if_neg h] at o1
   try rw [if_neg h]
   simp [y1,y2,y3,y4,h,z1,z2,z3,z4,kc,bh]
   exact hK H1 _ _ x1 (hc.mono x1) hok
def Sf:Cp:=⟨[⟨[5,5,5],[60,60,60]⟩],[],0⟩
theorem Sp:cF Sf=0:=by decide +kernel
theorem yi {l:List Al}(ha:CapA H ws c)(hv:AltV H v l)(hg:HX dQ H)(hlim:lim<=H.length)(hK:∀H',K (.bool true) H'):aF tbl lim 4 [.agg ws,v] H K:=by
 have hc:=ha.cap
 obtain ⟨pv,sv,ps,rfl,-,-,z1,z2,z3,z4⟩:=hc.form
 refine ao tbl_at4 rfl ?_
 have hvl:=hv.lst.len
 have hvs:=hv.lst.stor
 simp [vf4,z1,z2,z3,z4,hvs,kc,al,bh]
 obtain ⟨H1,hH1⟩:∃H1,H1=H++[Blk.row [.int .i64 5,.int .i64 5,.int .i64 5] true,Blk.row [.int .i64 60,.int .i64 60,.int .i64 60] true,Blk.row [.sl H.length 0 3 1,.sl (H.length+1) 0 3 1] true]:=⟨_,rfl⟩
 have x1:HX H H1:=⟨_,hH1⟩
 have l1:=x1.len
 have g0:H1[H.length]? = some (Blk.row [.int .i64 5,.int .i64 5,.int .i64 5] true):=by rw [hH1,List.getElem?_append_right (by omega)];simp
 have g1:H1[H.length+1]? = some (Blk.row [.int .i64 60,.int .i64 60,.int .i64 60] true):=by rw [hH1,List.getElem?_append_right (by omega)];simp
 have g2:H1[H.length+2]? = some (Blk.row [.sl H.length 0 3 1,.sl (H.length+1) 0 3 1] true):=by rw [hH1,List.getElem?_append_right (by omega)];simp
 have hone:CapV H1 [.sl (H.length+2) 0 1 2,.snil,.int .i64 0] Sf:=by
  refine .mk (ps:=[(.sl H.length 0 3 1,.sl (H.length+1) 0 3 1)]) ⟨?_,rfl,fun i hi => ?_⟩ .nil
  ·exact LstV.sl (c:=pvC) (l:=[(.sl H.length 0 3 1,.sl (H.length+1) 0 3 1)]) (off:=0) g2 (by simp) rfl
  ·have:i=0:=by simp at hi;omega
   subst this
   exact ⟨.lit (l:=[5,5,5]) g0 rfl,.lit (l:=[60,60,60]) g1 rfl⟩
 rw [←hH1]
 refine Eo hone Sp (by omega) fun H2 x2 => ?_
 replace x2:HX H1 H2:=x2
 have l2:=x2.len
 have x12:=x1.trans x2
 have hc2:=hc.mono x12
 simp [z1,z2,z3,z4,bh]
 refine Ji hc2 ?_
 by_cases hl1:gY c=true
 ·rw [hl1]
  simp;exact hK H2
 have hl1:gY c=false:=by simpa using hl1
 have hsh:=LV hl1
 have hns:=hsh.ns
 rw [hl1]
 by_cases h40:40<l.length
 ·have h40':((40:Int)<(l.length:Int))=True:=eq_true (by omega)
  simp [hvl,h40'];exact hK H2
 have h40':((40:Int)<(l.length:Int))=False:=eq_false (by omega)
 simp [hvl,h40',z1,z2,z3,z4,bh]
 refine ce hc2 (by omega) (by omega) fun H3 x3 => ?_
 replace x3:HX H2 H3:=x3
 have l3:=x3.len
 by_cases he:cF c=0
 case neg =>
  simp [he];exact hK H3
 have hok:=cX.1 he
 simp [he]
 refine aO (l.length+1) (fun i fr L H'=>(fr 1=v/\fr 2=.lp 0 0/\fr 6=.int .i64 (i:Int))/\(∃pv sv c X,L=[pv,sv,.int .i64 c.e] :: X/\HX H3 H'/\CapV H' [pv,sv,.int .i64 c.e] c/\CapOk c)/\i<=l.length+1) ⟨⟨by simp,by simp,by simp⟩,⟨pv,sv,c,_,rfl,.refl,hc2.mono x3,hok⟩,by omega⟩ ?_
 clear hc hc2 hok he z1 z2 z3 z4 hsh hns hl1 ha ps
 rintro i hi fr L H4 ⟨⟨f1,f2,f6⟩,⟨pv,sv,c,X,rfl,x4,hc,hok⟩,hle⟩
 have l4:=x4.len
 obtain ⟨ws0,hws0⟩:∃w,w=[pv,sv,.int .i64 c.e]:=⟨_,rfl⟩
 obtain ⟨pv',sv',ps',e1,-,-,z1,z2,z3,z4⟩:=hc.form
 simp only [List.cons.injEq,and_true] at e1
 obtain ⟨rfl,rfl⟩:=e1
 have he:=cX.2 hok
 have hsS:=hok.s24
 have hg4:HX dQ H4:=(hg.trans x12).trans (x3.trans x4)
 by_cases hp:i<=l.length
 case neg =>
  have hp':((i:Int)<=(l.length:Int))=False:=eq_false (by omega)
  simp [f1,f2,f6,hvl,hp']
  exact hK H4
 have hp':((i:Int)<=(l.length:Int))=True:=eq_true (by omega)
 have hfl:=Kg hok (by omega)
 have hrd:=OW QD (ev:=true) hok
 have hpr:uF (rdK atV true (wds 10 (jQ c))) (jQ c)=(c,0):=by
  rw [hrd,xl (by omega) ⟨he,rfl⟩]
 have et:txK c=bA (jQ c):=by unfold txK;rw [if_pos he]
 simp (disch:=omega) [f1,f2,f6,hvl,hp',z1,z2,z3,z4,bh]
 refine jX hc (by omega) hg4 (by omega) fun H5 x5 => ?_
 replace x5:HX H4 H5:=x5
 have l5:=x5.len
 rw [he,et]
 simp (disch:=omega) [f1,f2,f6,z1,z2,z3,z4,bh]
 refine xV (hg4.trans x5) (by omega) fun H6 ws6 x6 hc6 => ?_
 replace x6:HX H5 H6:=x6
 have l6:=x6.len
 rw [hpr] at hc6 ⊢
 obtain ⟨pv6,sv6,ps6,rfl,-,-,y1,y2,y3,y4⟩:=hc6.form
 simp (disch:=omega) [f1,f2,f6,y1,y2,y3,y4,z1,z2,z3,z4,kc,bh,ft,gy]
 refine jX hc6 (by simp only;omega) ((hg4.trans x5).trans x6) (by omega) fun H7 x7 => ?_
 replace x7:HX H6 H7:=x7
 have l7:=x7.len
 simp only [he,et]
 simp (disch:=omega) [f1,f2,f6,z1,z2,z3,z4,bh]
 have x47:=(x5.trans x6).trans x7
 have hc7:=hc.mono x47
 refine ce hc7 (by omega) (by omega) fun H8 x8 => ?_
 replace x8:HX H7 H8:=x8
 have l8:=x8.len
 rw [he]
 simp (disch:=omega) [f1,f2,f6,z1,z2,z3,z4,bh]
 refine Eo (hc7.mono x8) he (by first | exact Nat.le_refl _ | omega) fun H9 x9 => ?_
 replace x9:HX H8 H9:=x9
 have l9:=x9.len
 have vn:bU .neq (.str (bA (jQ c))) (.str (bA (jQ c)))=some (.bool false):=by simp [bU]
 have x49:=(x47.trans x8).trans x9
 have hc9:=hc.mono x49
 have x39:=x4.trans x49
 by_cases hp2:i<l.length
 ·have hp2':((i:Int)<(l.length:Int))=True:=eq_true (by omega)
  have hv9:=hv.lst.mono ((x12.trans x3).trans x39)
  have ad:=hv9.addr (i:=(i:Int)) ⟨by omega,by omega⟩
  have ld:=fun L=>hv9.load (i:=i) hp2 (L:=L)
  have hin:=hv.all _ (show l.getD i default∈l by simp [List.getD_eq_getElem?_getD,hp2])
  simp only [Int.toNat_natCast] at ad
  have ec:alC.cells (l.getD i default)=(l.getD i default).cells:=rfl
  rw [ec] at ld
  simp (disch:=omega) [f1,f2,f6,z1,z2,z3,z4,bh,vn,hvl,hp2',ad,ld,ae]
  refine GH hc9 hok hin (by first | exact Nat.le_refl _ | omega) fun H10 ws10 c10 x10 hc10 ok10 => ?_
  replace x10:HX H9 H10:=x10
  obtain ⟨pv10,sv10,ps10,rfl,-,-,w1,w2,w3,w4⟩:=hc10.form
  simp (disch:=omega) [f1,f2,f6,w1,w2,w3,w4,kc,ae]
  exact ⟨by omega,⟨pv10,sv10,c10,⟨rfl,rfl,rfl⟩,x39.trans x10,hc10,ok10⟩,by omega⟩
 ·have hp2':((i:Int)<(l.length:Int))=False:=eq_false (by omega)
  simp (disch:=omega) [f1,f2,f6,z1,z2,z3,z4,bh,vn,hvl,hp2',ae]
  exact ⟨by omega,⟨pv,sv,c,⟨rfl,rfl,rfl⟩,x39,hc9,hok⟩,by omega⟩
end
end Go.Proofs.YtgjlhdggllakbaaGreatDoor.Vm
namespace Go.Proofs.YtgjlhdggllakbaaGreatDoor.Vm
open Go Go.RowKit Go.ChangeShapes
set_option maxRecDepth 100000
attribute [-simp] List.getD_eq_getElem?_getD
theorem Good.obj {ρ:Loc}{w:World}{k:Nat}(G:Good ρ (dQ.take k) w)(hU:GUp ρ k)(hk:k<cG.length)(he:cG[k]=(none,[])){r o:Nat}{C:Array Value}{el:TypeId}{fz:Nat×Nat}(h1:w.heap[r]? = some (.cells C el fz))(h2:o<=C.size) :
 ∃ρ',Good ρ' (dQ.take (k+1)) w/\GUp ρ' (k+1)/\(∀b y,ρ b=some y->ρ' b=some y)/\ρ' k=some (r,o,0):=by
 obtain ⟨ρ',_,a2,a3,a4⟩:=G.row (cap:=0) (cs:=[]) (o:=o) h1 (by omega) (Nat.le_refl _) (fun i hi=>by simp at hi)
 have hl:(dQ.take k).length=k:=by rw [List.length_take,mt];omega
 have ht:=tn hk
 rw [he] at ht
 rw [←ht] at a2
 rw [hl] at a4
 refine ⟨ρ',a2,fun j g cs hj e => ?_,a3,a4⟩
 by_cases hjk:j=k
 ·subst hjk
  rw [List.getElem?_eq_getElem hk,he] at e
  cases e
 ·exact a3 _ _ (hU j g cs (by omega) e)
theorem yH {P:Program}{W:World}{name:String}{g:Nat}{cs:Array Value}(hg:P.globalNamed name=some g)(hv:W.var? P name=some cs):∃el fz,W.heap[g]? = some (.cells cs el fz):=by
 simp only [World.var?,hg,Option.bind_some] at hv
 split at hv<;>simp_all
theorem tF {W:World}{a:Addr}{v:Value}(h:W.cell? a=some v):a=⟨a.block,a.off,none⟩/\∃C el fz,W.heap[a.block]? = some (.cells C el fz)/\a.off<=C.size:=by
 unfold World.cell? at h
 split at h
 case h_2=>cases h
 rename_i C el fz hb
 split at h
 ·cases h
 rename_i hs
 refine ⟨?_,C,el,fz,hb,Nat.le_of_lt (Array.getElem?_eq_some_iff.1 h).1⟩
 obtain ⟨b,o,s⟩:=a
 cases s with
 | none=>rfl
 | some x=>simp at hs
theorem Dq {ρ:Loc}{t:TypeId}{b:Nat}{x:Value}(h:VR ρ (.ptr b 0) x):ck ρ [.iface t (.ptr b 0)] #[.iface t x] 0:=by
 intro i hi
 have:i=0:=by simp at hi;omega
 subst this
 exact ⟨.iface h,rfl⟩
def tc:List (String×DataW Unit):=[("math/bits.deBruijn32tab",Rows.laid_math_bits_deBruijn32tab),("math/bits.deBruijn64tab",Rows.laid_math_bits_deBruijn64tab),("internal/strconv.uint64pow10",Rows.laid_internal_strconv_uint64pow10),("unicode/utf8.acceptRanges",Rows.laid_unicode_utf8_acceptRanges),("strconv.ErrRange",Rows.laid_strconv_ErrRange),("strconv.ErrSyntax",Rows.laid_strconv_ErrSyntax),("unicode/utf8.first",Rows.laid_unicode_utf8_first)]
theorem PC : "*" ++ "errors.errorString" = "*errors.errorString" := by decide
theorem R7 (u:TypeId)(h:Tryz.prog.typeName? 3 u=some "*errors.errorString"):u=171 :=
 typeName_ptr_named (nm := "errors.errorString") (by rw [PC];kernel_rfl) (by kernel_rfl) (by decide) u (by rw [PC];exact h)
def uU:List V:=(List.range 20).map fun i=>.int .u64 (10 ^ i:Nat)
theorem iM:cG=[(some 2,uU),(none,[]),(none,[]),(some 0,[.iface 171 (.ptr 1 0)]),(some 1,[.iface 171 (.ptr 2 0)])]:=by kernel_rfl
theorem KF {W:World}(h:laidMetH Tryz.prog tc W):∃ρ,Good ρ dQ W/\jn ρ:=by
 rw [MakeChecks.laidMetH_plain _ _ _ (by kernel_rfl)] at h
 have hgp:Tryz.prog.globalNamed "internal/strconv.uint64pow10" = some 2:=by kernel_rfl
 have hgR:Tryz.prog.globalNamed "strconv.ErrRange" = some 1:=by kernel_rfl
 have hgS:Tryz.prog.globalNamed "strconv.ErrSyntax" = some 0:=by kernel_rfl
 have h3:=laidMet.tail (laidMet.tail h)
 have h5:=laidMet.tail (laidMet.tail h3)
 have h6:=laidMet.tail h5
 obtain ⟨ps,⟨g',t',cs,fuel,p,q,hg',ht',hv,htr,_,_⟩,_⟩:=h3
 obtain rfl:=Option.some.inj (hgp.symm.trans hg')
 have eT:(Tryz.prog.globals[2]?).map (·.type)=some 166:=by kernel_rfl
 obtain rfl:=Option.some.inj (eT.symm.trans ht')
 have hlf:Aq Tryz.prog 8 166 Rows.laid_internal_strconv_uint64pow10 0=some ((List.range uU.length).zip uU):=by kernel_rfl
 obtain ⟨el1,fz1,a1,a2,a3⟩:=Kw hgp hlf hv htr
 obtain ⟨aR,sR,vR,cR,_,_⟩:=laid_sentinel (tp:=171) (te:=173) (ts:=9) h5 hgR (ti:=81) (by kernel_rfl) Tryz.underlying81 R7 Tryz.underlying171 Tryz.underlying173 rfl rfl Tryz.underlying9 (by kernel_rfl) (by kernel_rfl)
 obtain ⟨aS,sS,vS,cS,_,_⟩:=laid_sentinel (tp:=171) (te:=173) (ts:=9) h6 hgS (ti:=81) (by kernel_rfl) Tryz.underlying81 R7 Tryz.underlying171 Tryz.underlying173 rfl rfl Tryz.underlying9 (by kernel_rfl) (by kernel_rfl)
 obtain ⟨elR,fzR,bR⟩:=yH hgR vR
 obtain ⟨elS,fzS,bS⟩:=yH hgS vS
 obtain ⟨eR,CR,tR,zR,oR,lR⟩:=tF cR
 obtain ⟨eS,CS,tS,zS,oS,lS⟩:=tF cS
 have hlen:cG.length=5:=by rw [iM];rfl
 have e0:cG[0]'(by omega)=(some 2,uU):=by simp only [iM];rfl
 have e1:cG[1]'(by omega)=(none,[]):=by simp only [iM];rfl
 have e2:cG[2]'(by omega)=(none,[]):=by simp only [iM];rfl
 have e3:cG[3]'(by omega)=(some 0,[.iface 171 (.ptr 1 0)]):=by simp only [iM];rfl
 have e4:cG[4]'(by omega)=(some 1,[.iface 171 (.ptr 2 0)]):=by simp only [iM];rfl
 have G0:Good (fun _=>none) (dQ.take 0) W:=Good.start
 obtain ⟨ρ1,c1,u1,m1,_⟩:=Good.var G0 (fun k _ _ hk=>absurd hk (by omega)) (k:=0) (by omega) a1 (by rw [e0];exact a2) (by rw [e0];exact a3 _) (fun g' e=>by rw [e0] at e;exact (Option.some.inj e).symm)
 obtain ⟨ρ2,c2,u2,m2,q2⟩:=Good.obj c1 u1 (by omega) e1 oS lS
 obtain ⟨ρ3,c3,u3,m3,q3⟩:=Good.obj c2 u2 (by omega) e2 oR lR
 have vS2:VR ρ3 (.ptr 1 0) (.pointer (some aS)):=by
  rw [eS];exact .ptr (m3 _ _ q2)
 have vR2:VR ρ3 (.ptr 2 0) (.pointer (some aR)):=by
  rw [eR];exact .ptr q3
 obtain ⟨ρ4,c4,u4,m4,_⟩:=Good.var c3 u3 (k:=3) (by omega) bS (by rw [e3];exact Nat.le_refl 1) (by rw [e3];exact Dq vS2) (fun g' e=>by rw [e3] at e;exact (Option.some.inj e).symm)
 obtain ⟨ρ5,c5,u5,m5,_⟩:=Good.var c4 u4 (k:=4) (by omega) bR (by rw [e4];exact Nat.le_refl 1) (by rw [e4];exact Dq (vR2.mono m4)) (fun g' e=>by rw [e4] at e;exact (Option.some.inj e).symm)
 rw [show (4+1)=cG.length by omega] at c5 u5
 exact Good.vars c5 u5
noncomputable def Q2 (os:Os):World:=World.laidAll Tryz.prog os tc
theorem Lu (os:Os)(args:Array Value):laidMetH Tryz.prog tc ((Q2 os).forCall (fun _ _=>0) ⟨#[],args,[]⟩).memory:=by
 rw [MakeChecks.laidMetH_plain _ _ _ (by kernel_rfl)]
 exact laidMet_laidAll _ (by kernel_rfl) (by kernel_rfl)
theorem xR (os:Os):(Q2 os).Shaped Tryz.prog:=World.shaped_of_ZipB (by kernel_rfl) (by kernel_rfl)
end Go.Proofs.YtgjlhdggllakbaaGreatDoor.Vm
