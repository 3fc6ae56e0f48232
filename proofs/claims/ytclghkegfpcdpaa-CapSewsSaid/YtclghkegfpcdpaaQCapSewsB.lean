/- Caps over the machine: sewn and unsewn. -/
import Derived.Test.YtclghkegfpcdpaaQCapSewsA
namespace Go.Proofs.Ytclghkegfpcdpaa.Vm
open Go
set_option maxRecDepth 100000
set_option maxHeartbeats 1000000
set_option linter.unusedSimpArgs false
set_option linter.unusedVariables false
attribute [-simp] List.getD_eq_getElem?_getD
def zCap:Cp:=⟨[],[],0⟩
def sewC (c:Cp)(s:Sm):Cp:=⟨c.P,c.S++[s],c.e⟩
theorem sew_same {P:List Pc}{e:Int}{S:List Sm}{s:Sm}{t:Nat}(ht:t<S.length):seamE P e ((S++[s]).take t) ((S++[s]).getD t default)=seamE P e (S.take t) (S.getD t default):=by
  rw [List.take_append_of_le_length (by omega),getD_lt ht]
theorem sew_err {P:List Pc}{e:Int}{S:List Sm}{s:Sm}(h:seamsE P e S S.length 0≠0):seamsE P e (S++[s]) (S++[s]).length 0=seamsE P e S S.length 0:=by
  have hx:∃t,t<S.length∧seamE P e (S.take t) (S.getD t default)≠0:=by
    apply Classical.byContradiction
    intro hn
    exact h (seams_fine fun t ht=>Classical.byContradiction fun g=>hn ⟨t,ht,g⟩)
  obtain ⟨t,h1,h2⟩:=hx
  obtain ⟨m,h3,⟨h4,h5⟩,h6⟩:=first_step (p:=fun m=>m<S.length∧seamE P e (S.take m) (S.getD m default)≠0) ⟨h1,h2⟩
  have hz:∀t,t<m→seamE P e (S.take t) (S.getD t default)=0:=fun t ht=>Classical.byContradiction fun g=>h6 t ht ⟨by omega,g⟩
  rw [seams_err h4 hz h5,seams_err (sm:=S++[s]) (n:=m) (by simp;omega) (fun t ht=>by rw [sew_same (by omega)];exact hz t ht) (by rw [sew_same h4];exact h5),sew_same h4]
theorem sew_bad {c:Cp} {s:Sm} (h:capE c≠0):capE (sewC c s)=capE c:=by
  unfold capE at h ⊢
  unfold sewC
  simp only
  split
  · rfl
  · split
    · rfl
    · split
      · rfl
      · rename_i h1 h2 h3
        simp only [h1,h2,h3,if_false] at h
        exact sew_err h
def unsC (c:Cp)(i:Nat):Cp:=⟨c.P,c.S.take i++c.S.drop (i+1),c.e⟩
def unsE (c:Cp)(i:Int):Int:=if capE c≠0 then capE c else if 0≤i∧i<c.S.length then 0 else 5
section
variable {n lim:Nat}{H H' H1:Hp}{K:V→Hp→Prop}{v pv sv a b:V}{ps:List (V×V)}{P:List Pc}{S:List Sm}{e:Int}{ws:List V}{c d:Cp}
theorem zCapV {m:Nat}{H:Hp}:OCapV m H [.snil,.snil,.int .i64 0] zCap:=.mk OPcsV.nil .nil (fun b o z y o' z' y' e _=>by cases e) fun i hi=>by simp at hi
theorem vapp_e {y:V}{l:List Int}(hy:SlV H y l)(hlim:lim≤H.length)(hl:l.length≤1000):∃v' H',vappend lim 1 8 (H++[.row [] true]) (.sl H.length 0 0 1) y=some (v',H')∧OwnV H.length H' v' l∧HX H H':=by
  have hy2:=hy.mono (H':=H++[.row [] true]) HX.push
  refine ⟨.sl (H.length+1) 0 l.length 1,(H++[Blk.row [] true]).set H.length .dead++[.row (ints l) true],?_,.row (by omega) ?_,?_⟩
  · simp [vappend,hy2.cells,hy2.len,hlim,show l.length*8≤140737488355328 by omega,show l.length<4611686018427387904 by omega]
  · have:H.length+1=((H++[Blk.row [] true]).set H.length .dead).length:=by simp
    rw [this];exact List.getElem?_concat_length
  · refine HX.of (by simp<;>omega) fun i hi => ?_
    rw [List.getElem?_append_left (by simp;omega),List.getElem?_set_ne (by omega),List.getElem?_append_left hi]
theorem vapp_t {α:Type}{k:Nat}{c:Cod α k}{y:V}{l:List α}{bytes:Nat}(hy:LstV c H y l)(hlim:lim≤H.length)(hl:l.length≤1000)(hb:bytes≤1000):∃v' H',vappend lim k bytes (H++[.row [] true]) (.sl H.length 0 0 k) y=some (v',H')∧OwnT H.length c H' v' l∧HX H H':=by
  have hy2:=hy.mono (H':=H++[.row [] true]) HX.push
  have hm:l.length*bytes≤1000*1000:=Nat.mul_le_mul hl hb
  refine ⟨.sl (H.length+1) 0 l.length k,(H++[Blk.row [] true]).set H.length .dead++[.row (c.all l) true],?_,.row (by omega) ?_,?_⟩
  · simp [vappend,hy2.cells,hy2.len,hlim,show l.length*bytes≤140737488355328 by omega,show l.length<4611686018427387904 by omega]
  · have:H.length+1=((H++[Blk.row [] true]).set H.length .dead).length:=by simp
    rw [this];exact List.getElem?_concat_length
  · refine HX.of (by simp<;>omega) fun i hi => ?_
    rw [List.getElem?_append_left (by simp;omega),List.getElem?_set_ne (by omega),List.getElem?_append_left hi]
theorem clone_ints {l:List Int}(hv:SlV H v l)(hlim:lim≤H.length)(hl:l.length≤1000)(hK:∀H' v',HX H H'→OwnV H.length H' v' l→K v' H'):VCall tbl lim 94 [v] H K:=by
  refine VCall_fn tbl_at94 rfl ?_
  obtain ⟨v',H',a1,a2,a3⟩:=vapp_e (lim:=lim) hv hlim hl
  cases hv with
  | nil =>
    simp [vf94]
    exact hK _ _ .refl .nil
  | empty =>
    simp [vf94,a1,a2.sl.stor]
    exact hK _ _ a3 a2
  | sl h1 h2 h3 =>
    simp [vf94,a1,a2.sl.stor]
    exact hK _ _ a3 a2
theorem clone_sms {l:List Sm}(hv:LstV smC H v l)(hlim:lim≤H.length)(hl:l.length≤1000)(hK:∀H' v',HX H H'→OwnT H.length smC H' v' l→K v' H'):VCall tbl lim 93 [v] H K:=by
  refine VCall_fn tbl_at93 rfl ?_
  obtain ⟨v',H',a1,a2,a3⟩:=vapp_t (lim:=lim) (bytes:=32) hv hlim hl (by omega)
  cases hv with
  | nil =>
    simp [vf93]
    exact hK _ _ .refl .nil
  | empty =>
    simp [vf93,a1,a2.lst.stor]
    exact hK _ _ a3 a2
  | sl h1 h2 h3 =>
    simp [vf93,a1,a2.lst.stor]
    exact hK _ _ a3 a2
theorem surf_clone (hc:CapV H ws c)(hsh:ShortC c)(hlim:lim≤H.length)(hK:∀H' ws',HX H H'→OCapV H.length H' ws' c→K (.agg ws') H'):VCall tbl lim 70 [.agg ws] H K:=by
  obtain ⟨pv,sv,ps,rfl,hp,hs,z1,z2,z3,z4⟩:=hc.form
  have s1:=hsh.np
  have s2:=hsh.ns
  refine VCall_fn tbl_at70 rfl ?_
  simp [vf70,z1,z2,z3,z4,rd0,rd1',rd2']
  refine clone_sms hs (by omega) (by omega) fun H1 sv1 x1 o1 => ?_
  replace x1:HX H H1:=x1
  have l1:=x1.len
  simp [rd0,rd1',rd2',z1,z2,o1.lst.stor,o1.lst.one,splice,hp.vlen]
  refine wLoop_up c.P.length (fun i fr L H'=>∃v X,(fr 1=.lp 0 0∧fr 2=.lp 1 0∧fr 3=.lp 2 0∧fr 13=pv∧fr 14=.int .i64 c.P.length∧fr 15=.int .i64 i)∧L=[pv,sv,.int .i64 c.e] :: [.snil,.snil,.int .i64 0] :: [v,sv1,.int .i64 c.e] :: X∧HX H H'∧OCapV H.length H' [v,sv1,.int .i64 c.e] ⟨c.P.take i,c.S,c.e⟩) ⟨.snil,[],by simp,by simp,x1,.mk OPcsV.nil o1 (fun b o z y o' z' y' e _=>by cases e) fun i hi=>by simp at hi⟩ ?_
  rintro i hi fr L H2 ⟨v,X,⟨f1,f2,f3,f13,f14,f15⟩,rfl,x2,hO⟩
  have l2:=x2.len
  simp [f1,f2,f3,f13,f14,f15]
  refine cond_dec (fun ht => ?_) fun hfl => ?_
  · have ht:i<c.P.length:=by omega
    have hp1:=hp.mono x2
    obtain ⟨t1,t2⟩:=hp1.at' i ht
    obtain ⟨b1,b2⟩:=hsh.pc i ht
    simp [f1,f2,f3,f13,f14,f15,rd0,rd1',hp1.at ht,hp1.ld2 ht,t1.stor,t1.one,t2.stor,t2.one,splice,lastO,lastS]
    refine clone_ints t1 (by omega) (by omega) fun H3 a' x3 oa => ?_
    replace x3:HX H2 H3:=x3
    have l3:=x3.len
    simp [f1,f2,f3,f13,f14,f15,rd0,rd1',t2.stor,lastO]
    refine clone_ints (t2.mono x3) (by omega) (by omega) fun H4 b' x4 ob => ?_
    replace x4:HX H3 H4:=x4
    obtain ⟨pv',H5,c1,c2,c3,c4⟩:=hO.pushP (lim:=lim) (x3.trans x4) (oa.mono x4) (ob.le l3) ⟨by omega,l2⟩ (by rw [List.length_take];omega)
    obtain ⟨y1,y2,_,_⟩:=c2.vals
    simp (disch:=omega) [f1,f2,f3,f13,f14,f15,oa.sl.one,ob.sl.one,oa.sl.stor,ob.sl.stor,splice,c1,y1,y2,wrap_i64]
    exact ⟨ht,c3 _ ((x2.trans x3).trans x4) (Nat.le_refl _),by rw [take_nextP ht];exact c2⟩
  · have:i=c.P.length:=by omega
    subst this
    rw [List.take_length] at hO
    obtain ⟨y1,y2,y3,y4⟩:=hO.vals
    simp [f1,f2,f3,f13,f14,f15,rdA3,splice,y1,y2,y3,y4]
    exact hK _ _ x2 hO
theorem surf_Sew {s:Sm}(hc:CapV H ws c)(hsh:ShortC c)(hlim:lim≤H.length)(hK:∀H' ws',HX H H'→OCapV H.length H' ws' (if capE (sewC c s)=0 then sewC c s else zCap)→K (.tup [.agg ws',.int .i64 (capE (sewC c s))]) H'):VCall tbl lim 35 [.agg ws,.agg (smC.cells s)] H K:=by
  obtain ⟨pv,sv,ps,rfl,hp,hs,z1,z2,z3,z4⟩:=hc.form
  have s1:=hsh.np
  have s2:=hsh.ns
  have ec:smC.cells s=[.int .i64 s.A,.int .i64 s.I,.int .i64 s.B,.int .i64 s.J]:=rfl
  refine VCall_fn tbl_at35 rfl ?_
  simp [vf35,z1,z2,z3,z4,rdA3,ec]
  refine surf_clone hc hsh (by omega) fun H1 ws1 x1 o1 => ?_
  replace x1:HX H H1:=x1
  have l1:=x1.len
  obtain ⟨pv1,sv1,ps1,rfl,hp1,hs1,q1,q2,q3,q4⟩:=o1.cap.form
  obtain ⟨sv2,H2,c1,c2,c3,c4⟩:=o1.pushS (lim:=lim) ec ⟨by omega,l1⟩ (by omega)
  obtain ⟨_,_,y3,y4⟩:=c2.vals
  have x2:=c3 H x1 (Nat.le_refl _)
  have l2:=x2.len
  simp [q1,q2,q3,q4,rd0,rd1',rdA3,rdA4,splice,zs4,c1,y3,y4]
  refine surf_Validate (c:=sewC c s) c2.cap (by simp [sewC];omega) (by omega) fun H3 x3 => ?_
  replace x3:HX H2 H3:=x3
  have hres:=hK H3
  by_cases he:capE (sewC c s)=0
  · have:=hres _ (x2.trans x3) (by rw [if_pos he];exact c2.mono x3)
    rw [he] at this
    simp [he,rdA3,q1,q2,y3,y4,splice]
    exact this
  · have:=hres [.snil,.snil,.int .i64 0] (x2.trans x3) (by rw [if_neg he];exact zCapV)
    simp [he,rdA3,splice]
    exact this
theorem r02_Sew {s:Sm}(hc:CapV H ws c)(hsh:ShortC c)(hlim:lim≤H.length)(hK:∀H' ws',HX H H'→OCapV H.length H' ws' (if capE (sewC c s)=0 then sewC c s else zCap)→K (.tup [.agg ws',.int .i64 (capE (sewC c s))]) H'):VCall tbl lim 36 [.agg ws,.agg (smC.cells s)] H K:=by
  obtain ⟨pv,sv,ps,rfl,hp,hs,z1,z2,z3,z4⟩:=hc.form
  have s1:=hsh.np
  have s2:=hsh.ns
  have ec:smC.cells s=[.int .i64 s.A,.int .i64 s.I,.int .i64 s.B,.int .i64 s.J]:=rfl
  refine VCall_fn tbl_at36 rfl ?_
  simp [vf36,z1,z2,z3,z4,rdA3,ec]
  refine r02_Validate hc ⟨by omega,by omega,fun q hq=>by have:=hsh.pc q hq;omega⟩ ?_
  by_cases h0:capE c=0
  case neg =>
    have e1:=sew_bad (s:=s) h0
    have he:¬capE (sewC c s)=0:=by rw [e1];exact h0
    have:=hK H [.snil,.snil,.int .i64 0] HX.refl (by rw [if_neg he];exact zCapV)
    rw [e1] at this
    simp [h0,rdA3,splice]
    exact this
  simp [h0,rdA3,z1,z2,z3,z4]
  refine r02_Copy hc hsh (by omega) fun H1 ws1 x1 o1 => ?_
  replace x1:HX H H1:=x1
  have l1:=x1.len
  obtain ⟨pv1,sv1,ps1,rfl,hp1,hs1,q1,q2,q3,q4⟩:=o1.cap.form
  obtain ⟨sv2,H2,c1,c2,c3,c4⟩:=o1.pushS (lim:=lim) ec ⟨by omega,l1⟩ (by omega)
  obtain ⟨_,_,y3,y4⟩:=c2.vals
  have x2:=c3 H x1 (Nat.le_refl _)
  have l2:=x2.len
  simp [q1,q2,q3,q4,rd0,rd1',rdA3,rdA4,splice,zs4,c1,y3,y4]
  refine r02_Validate (c:=sewC c s) c2.cap ⟨by simp only [sewC];omega,by simp [sewC];omega,fun q hq=>by have:=hsh.pc q hq;simp only [sewC];omega⟩ ?_
  have hres:=hK H2
  by_cases he:capE (sewC c s)=0
  · have:=hres _ x2 (by rw [if_pos he];exact c2)
    rw [he] at this
    simp [he,rdA3,q1,q2,y3,y4,splice]
    exact this
  · have:=hres [.snil,.snil,.int .i64 0] x2 (by rw [if_neg he];exact zCapV)
    simp [he,rdA3,splice]
    exact this
end
end Go.Proofs.Ytclghkegfpcdpaa.Vm
namespace Go.Proofs.Ytclghkegfpcdpaa.Vm
open Go
set_option maxRecDepth 100000
set_option maxHeartbeats 1000000
set_option linter.unusedSimpArgs false
set_option linter.unusedVariables false
attribute [-simp] List.getD_eq_getElem?_getD
section
variable {n lim:Nat}{H H' H1:Hp}{K:V→Hp→Prop}{v pv sv a b u:V}{ps:List (V×V)}{P:List Pc}{S:List Sm}{e:Int}{ws:List V}{c d:Cp}
theorem del_t {α:Type} {k:Nat} {c:Cod α k} {l:List α} {i bytes:Nat} {zero:List V} (ho:OwnT n c H u l) (hi:i<l.length) (hl:l.length≤1000) (hlim:lim≤n) (hz:zero.length=k) :
    ∃ q x y v' H' z H'',vslS3 k u (some (.int .i64 (i:Int))) (some (.int .i64 ((i:Int)+1))) (.int .i64 (l.length:Int))=some q∧vslC k u none (some (.int .i64 (i:Int)))=some x∧vslC k u (some (.int .i64 ((i:Int)+1))) none=some y∧vappC false lim k bytes H x y=some (v',H')∧vlenS v'=some (.int .i64 ((l.length:Int)-1)) ∧
      vslC k v' (some (.int .i64 ((l.length:Int)-1))) (some (.int .i64 (l.length:Int)))=some z∧vclr lim k zero H' z=some H''∧stor v'=true∧LstV c H'' (vweak v') (l.take i++l.drop (i+1))∧H''.length=H.length∧∀b,(∀o z y,u≠.sl b o z y)→H''[b]? = H[b]? := by
  obtain ⟨b,rfl,hb1,h2⟩:=ho.row_of (by omega)
  have hb:b<H.length:=(List.getElem?_eq_some_iff.1 h2).1
  have hne:¬i=l.length:=by omega
  have hall:(c.all l).length=l.length*k:=Cod.all_len
  have htk:(c.all l).take (i*k)=c.all (l.take i):=Cod.all_take
  have hdr:(c.all l).drop ((i+1)*k)=c.all (l.drop (i+1)):=Cod.all_drop
  have htl:(l.take i++l.drop (i+1)).length=l.length-1:=by simp;omega
  have hm1:(l.length-1)*k+k=l.length*k:=by
    rw [←Nat.succ_mul];congr 1;omega
  have b0:vbounds l.length (some (.int .i64 (i:Int))) (some (.int .i64 ((i:Int)+1)))=some (i,i+1):=by
    simp [vbounds,vint];omega
  have b1:vbounds l.length none (some (.int .i64 (i:Int)))=some (0,i):=vbounds_hi (k:=.i64) (by omega)
  have b2:vbounds l.length (some (.int .i64 ((i:Int)+1))) none=some (i+1,l.length):=vbounds_lo (k:=.i64) (n:=i+1) (by omega)
  have b3:vbounds l.length (some (.int .i64 ((l.length:Int)-1))) (some (.int .i64 (l.length:Int)))=some (l.length-1,l.length):=by
    simp [vbounds,vint];omega
  have q0:∃q,vslS3 k (.sl b 0 l.length k) (some (.int .i64 (i:Int))) (some (.int .i64 ((i:Int)+1))) (.int .i64 (l.length:Int))=some q:=by
    simp only [vslS3,vint,Int.toNat_natCast,b0]
    rw [if_pos ⟨trivial,by omega,by omega⟩]
    split
    · exact ⟨_,rfl⟩
    · split<;>exact ⟨_,rfl⟩
  obtain ⟨q,hq⟩:=q0
  have hx:vslC k (.sl b 0 l.length k) none (some (.int .i64 (i:Int)))=some (.slc b 0 i k l.length):=by simp [vslC,b1,mkslc,hne]
  have hlast:vslC k (.slc b 0 (l.length-1) k l.length) (some (.int .i64 ((l.length:Int)-1))) (some (.int .i64 (l.length:Int)))=some (.sl b ((l.length-1)*k) 1 k):=by
    simp only [vslC,if_true,b3]
    by_cases h1:l.length-1=0
    · have h3:l.length=1:=by omega
      simp [h3,mkslc]
    · have h3:¬l.length-1=l.length:=by omega
      have h4:l.length-(l.length-1)=1:=by omega
      simp only [h1,h3,h4,if_false,Nat.zero_add,mkslc,if_true]
  have fin:∀(H':Hp) (cs:List V),H'.length=H.length→(∀b',b'≠b→H'[b']? = H[b']?)→H'[b]? = some (.row cs true)→cs.length=l.length*k→cs.take ((l.length-1)*k)=c.all (l.take i++l.drop (i+1)) →
      ∃H'',vclr lim k zero H' (.sl b ((l.length-1)*k) 1 k)=some H''∧LstV c H'' (.sl b 0 (l.length-1) k) (l.take i++l.drop (i+1))∧H''.length=H.length∧∀b',(∀o z y,V.sl b 0 l.length k≠.sl b' o z y)→H''[b']? = H[b']? := by
    intro H' cs hl' ho' hr hcl hct
    have hrow:rowOf 1 zero=zero:=by simp [rowOf]
    have hst:vstoreH lim H' b ((l.length-1)*k) zero=some (H'.set b (.row (splice cs ((l.length-1)*k) zero) true)):=by
      simp only [vstoreH,show lim≤b by omega,if_true,hr]
      rw [if_pos (by rw [hz];omega)]
    refine ⟨H'.set b (.row (splice cs ((l.length-1)*k) zero) true),?_,?_,by simpa using hl',fun b' hb' => ?_⟩
    · simp only [vclr,hz,and_self,if_true,hrow]
      rw [if_neg (by omega)];exact hst
    · rw [←htl]
      refine .sl (own:=true) (cs:=splice cs ((l.length-1)*k) zero) (by rw [List.getElem?_set_self (by omega),htl]) ?_ ?_
      · rw [htl]
        have:(splice cs ((l.length-1)*k) zero).length=l.length*k:=by
          simp only [splice,List.length_append,List.length_take,List.length_drop,hz,hcl];omega
        omega
      · rw [htl,List.drop_zero,←hct]
        simp only [splice,List.append_assoc]
        rw [List.take_append_of_le_length (by rw [List.length_take];omega),List.take_take,Nat.min_self]
    · rw [List.getElem?_set_ne (fun e=>hb' 0 l.length k (by rw [e]))]
      exact ho' b' fun e=>hb' 0 l.length k (by rw [e])
  by_cases e:i+1=l.length
  · have hd:l.drop (i+1)=[]:=by rw [e];exact List.drop_length
    have hi1:i=l.length-1:=by omega
    obtain ⟨H'',f1,f2,f3,f4⟩:=fin H (c.all l) rfl (fun _ _=>rfl) h2 hall (by rw [hd,List.append_nil,←hi1,htk])
    refine ⟨q,_,.sempty,.slc b 0 (l.length-1) k l.length,H,_,H'',hq,hx,?_,?_,?_,hlast,f1,rfl,f2,f3,f4⟩
    · have hw0:¬l=[]:=fun h=>by rw [h] at hi;simp at hi
      simp [vslC,b2,e,hw0]
    · have hk:vcells k H .sempty=some []:=Eq.trans rfl rfl
      have hle:i≤l.length:=by omega
      have hmk:mkslc b 0 i k l.length=.slc b 0 (l.length-1) k l.length:=by rw [mkslc,if_neg hne,hi1]
      simp only [vappC,hk,vlenS]
      rw [if_pos ⟨trivial,by simp only [Int.toNat_zero];omega⟩]
      simp [hmk]
    · simp only [vlenS];rw [show ((l.length-1:Nat):Int)=(l.length:Int)-1 by omega]
  · have hdl:(l.drop (i+1)).length=l.length-(i+1):=List.length_drop
    have hsl:LstV c H (.sl b (0+(i+1)*k) (l.drop (i+1)).length k) (l.drop (i+1)):=by
      have hmm:(i+1)*k+(l.length-(i+1))*k=l.length*k:=by rw [←Nat.add_mul];congr 1;omega
      refine .sl h2 (by rw [hall,hdl];omega) ?_
      rw [Nat.zero_add,hdr,List.take_of_length_le (by rw [Cod.all_len];omega)]
    have hmi:i*k+(l.length-(i+1))*k=(l.length-1)*k:=by rw [←Nat.add_mul];congr 1;omega
    have hst:vstoreH lim H b (0+i*k) (c.all (l.drop (i+1)))=some (H.set b (.row (splice (c.all l) (0+i*k) (c.all (l.drop (i+1)))) true)):=by
      have:0+i*k+(c.all (l.drop (i+1))).length≤(c.all l).length:=by rw [Cod.all_len,hall,hdl];omega
      simp only [vstoreH,show lim≤b by omega,if_true,h2,this]
    obtain ⟨H'',f1,f2,f3,f4⟩:=fin (H.set b (.row (splice (c.all l) (0+i*k) (c.all (l.drop (i+1)))) true)) (splice (c.all l) (0+i*k) (c.all (l.drop (i+1)))) (by simp) (fun b' hb'=>List.getElem?_set_ne (fun e=>hb' e.symm)) (by rw [List.getElem?_set_self hb]) (by
        simp only [splice,List.length_append,List.length_take,List.length_drop,Cod.all_len];omega) (by
        have hal:(c.all (l.drop (i+1))).length=(l.length-(i+1))*k:=by rw [Cod.all_len,hdl]
        simp only [splice,Nat.zero_add,htk]
        rw [←Cod.all_append,List.take_append_of_le_length (by rw [Cod.all_len,htl];exact Nat.le_refl _),List.take_of_length_le (by rw [Cod.all_len,htl];exact Nat.le_refl _)])
    refine ⟨q,_,.sl b (0+(i+1)*k) (l.drop (i+1)).length k,.slc b 0 (l.length-1) k l.length,_,_,H'',hq,hx,?_,?_,?_,hlast,f1,rfl,f2,f3,f4⟩
    · simp [vslC,b2,mkslc,e]
    · have hk:=hsl.cells
      have hk0:¬((l.drop (i+1)).length:Int)=0:=by omega
      have hvl:vlenS (.sl b (0+(i+1)*k) (l.drop (i+1)).length k)=some (.int .i64 (l.drop (i+1)).length):=Eq.trans rfl rfl
      have hle2:i+((l.drop (i+1)).length:Int).toNat≤l.length:=by rw [hdl];omega
      have hsum:i+((l.drop (i+1)).length:Int).toNat=l.length-1:=by rw [hdl];omega
      have hmk:mkslc b 0 (l.length-1) k l.length=.slc b 0 (l.length-1) k l.length:=by rw [mkslc,if_neg (by omega)]
      simp only [vappC,hk,hvl,true_and,hle2,if_true,hk0,if_false,hst,hsum,hmk]
      simp
    · simp only [vlenS];rw [show ((l.length-1:Nat):Int)=(l.length:Int)-1 by omega]
theorem slices_Delete {i:Nat}(ho:OwnT n smC H u S)(hi:i<S.length)(hl:S.length≤1000)(hlim:lim≤n)(hK:∀H' v',LstV smC H' v' (S.take i++S.drop (i+1))→H'.length=H.length→(∀b,(∀o z y,u≠.sl b o z y)→H'[b]? = H[b]?)→K v' H') :
    VCall tbl lim 71 [u,.int .i64 (i:Int),.int .i64 ((i:Int)+1)] H K:=by
  obtain ⟨q,x,y,v',H',z,H'',e0,e1,e2,e3,e4,e5,e6,e7,e8,e9,e10⟩:=del_t (bytes:=32) (zero:=[.int .i64 0,.int .i64 0,.int .i64 0,.int .i64 0]) ho hi hl hlim rfl
  refine VCall_fn tbl_at71 rfl ?_
  have hne:decide ((i:Int)=(i:Int)+1)=false:=decide_eq_false (by omega)
  simp [vf71,ho.lst.len,e0,e1,e2,e3,e4,e5,e6,hne,zs4,e7]
  exact hK _ _ e8 e9 e10
theorem OCapV.parts (h:OCapV n H ws c):∃pv sv ps,ws=[pv,sv,.int .i64 c.e]∧OPcsV n H pv ps c.P∧OwnT n smC H sv c.S∧(∀b o z y o' z' y',pv=.sl b o z y→sv=.sl b o' z' y'→False)∧∀i,i<c.P.length→∀b o z y o' z' y',sv=.sl b o z y→((ps.getD i default).1=.sl b o' z' y'∨(ps.getD i default).2=.sl b o' z' y')→False:=by
  cases h with
  | mk h1 h2 h3 h4=>exact ⟨_,_,_,rfl,h1,h2,h3,h4⟩
theorem OCapV.seams {sv':V}{S':List Sm}(h:OCapV n H [pv,sv,.int .i64 e] ⟨P,S,e⟩)(hl:LstV smC H' sv' S')(hk:∀b,(∀o z y,sv≠.sl b o z y)→H'[b]? = H[b]?):CapV H' [pv,sv',.int .i64 e] ⟨P,S',e⟩:=by
  cases h with
  | mk h1 h2 h3 h4 =>
  rename_i ps
  refine .mk (OPcsV.pcsV (n:=n) (h1.keepB (fun b o m z g=>hk b fun o' z' y' g'=>h3 _ _ _ _ _ _ _ g g') fun i hi b o m z g=>hk b fun o' z' y' g'=>h4 i hi _ _ _ _ _ _ _ g' g)) hl
theorem surf_Unsew {i:Int}(hc:CapV H ws c)(hsh:ShortC c)(hlim:lim≤H.length)(hK:∀H' ws',HX H H'→CapV H' ws' (if unsE c i=0 then unsC c i.toNat else zCap)→K (.tup [.agg ws',.int .i64 (unsE c i)]) H'):VCall tbl lim 37 [.agg ws,.int .i64 i] H K:=by
  obtain ⟨pv,sv,ps,rfl,hp,hs,z1,z2,z3,z4⟩:=hc.form
  have s1:=hsh.np
  have s2:=hsh.ns
  refine VCall_fn tbl_at37 rfl ?_
  simp [vf37,z1,z2,z3,z4,rdA3]
  refine surf_Validate hc (by omega) (by omega) fun H1 x1 => ?_
  replace x1:HX H H1:=x1
  have l1:=x1.len
  by_cases h0:capE c=0
  case neg =>
    have e1:unsE c i=capE c:=by rw [unsE,if_pos h0]
    have:=hK H1 [.snil,.snil,.int .i64 0] x1 (by rw [if_neg (by rw [e1];exact h0)];exact zCapV (m:=0) |>.cap)
    rw [e1] at this
    simp [h0,rdA3,splice]
    exact this
  by_cases h1:0≤i∧i<c.S.length
  case neg =>
    have e1:unsE c i=5:=by rw [unsE,if_neg (fun g=>g h0),if_neg h1]
    have:=hK H1 [.snil,.snil,.int .i64 0] x1 (by rw [if_neg (by rw [e1];omega)];exact zCapV (m:=0) |>.cap)
    rw [e1] at this
    have hor:(decide (i<0)||decide ((c.S.length:Int)≤i))=true:=by simp;omega
    simp [h0,rd1',hs.len,hor,rdA3,splice]
    exact this
  have e1:unsE c i=0:=by rw [unsE,if_neg (fun g=>g h0),if_pos h1]
  have d1:decide (i<0)=false:=by simp;omega
  have d2:decide ((c.S.length:Int)≤i)=false:=by simp;omega
  simp [h0,rd1',hs.len,d1,d2,rdA3,z1,z2,z3,z4]
  refine surf_clone (hc.mono x1) hsh (by omega) fun H2 ws1 x2 o1 => ?_
  replace x2:HX H1 H2:=x2
  have l2:=x2.len
  obtain ⟨pv1,sv1,ps1,rfl,k1,k2,k3,k4⟩:=o1.parts
  have q1:=k1.own.lst.stor
  have q2:=k1.own.lst.one
  have q3:=k2.lst.stor
  have q4:=k2.lst.one
  obtain ⟨j,rfl⟩:∃j:Nat,i=j:=⟨i.toNat,by omega⟩
  simp (disch:=omega) [q1,q2,q3,q4,rd1',splice,wrap_i64]
  refine slices_Delete (i:=j) k2 (by omega) (by omega) (by omega) fun H3 sv2 hl hlen hkp => ?_
  have hc3:CapV H3 [pv1,sv2,.int .i64 c.e] (unsC c j):=o1.seams hl hkp
  have x3:HX H H3:=HX.of (by have:=x1.len;omega) fun b hb=>by
    rw [hkp b fun o z y g=>by have:=(k2.belowB _ _ _ _ g).1;omega,(x1.trans x2).same hb]
  have:=hK H3 _ x3 (by rw [e1,if_pos rfl];exact hc3)
  rw [e1] at this
  simp [q1,q2,splice,rdA3,hl.stor,hl.one]
  exact this
theorem unsL_step {j t:Nat}(ht:t<S.length)(hj:j<S.length):(if t=j then (S.take j++S.drop (j+1)).take (if t≤j then t else t-1) else (S.take j++S.drop (j+1)).take (if t≤j then t else t-1)++[S.getD t default])=(S.take j++S.drop (j+1)).take (if t+1≤j then t+1 else t):=by
  have hl:(S.take j).length=j:=by simp;omega
  have hlen:(S.take j++S.drop (j+1)).length=S.length-1:=by simp;omega
  by_cases h1:t=j
  · subst h1
    rw [if_pos rfl,if_pos (Nat.le_refl _),if_neg (by omega)]
  · rw [if_neg h1]
    by_cases h2:t<j
    · rw [if_pos (by omega),if_pos (by omega),List.take_add_one,List.getElem?_append_left (by omega),List.getElem?_take,if_pos h2,List.getElem?_eq_getElem ht]
      simp [List.getD_eq_getElem?_getD,ht]
    · rw [if_neg (by omega),if_neg (by omega)]
      have e:t=t-1+1:=by omega
      conv=>rhs;rw [e,List.take_add_one,List.getElem?_append_right (by omega),hl,List.getElem?_drop,show j+1+(t-1-j)=t by omega,List.getElem?_eq_getElem ht]
      simp [List.getD_eq_getElem?_getD,ht]
theorem r02_Unsew {i:Int}(hc:CapV H ws c)(hsh:ShortC c)(hlim:lim≤H.length)(hK:∀H' ws',HX H H'→CapV H' ws' (if unsE c i=0 then unsC c i.toNat else zCap)→K (.tup [.agg ws',.int .i64 (unsE c i)]) H'):VCall tbl lim 38 [.agg ws,.int .i64 i] H K:=by
  obtain ⟨pv,sv,ps,rfl,hp,hs,z1,z2,z3,z4⟩:=hc.form
  have s1:=hsh.np
  have s2:=hsh.ns
  refine VCall_fn tbl_at38 rfl ?_
  simp [vf38,z1,z2,z3,z4,rdA3]
  refine r02_Validate hc ⟨by omega,by omega,fun q hq=>by have:=hsh.pc q hq;omega⟩ ?_
  by_cases h0:capE c=0
  case neg =>
    have e1:unsE c i=capE c:=by rw [unsE,if_pos h0]
    have:=hK H [.snil,.snil,.int .i64 0] HX.refl (by rw [if_neg (by rw [e1];exact h0)];exact zCapV (m:=0) |>.cap)
    rw [e1] at this
    simp [h0,rdA3,splice]
    exact this
  simp (disch:=omega) [h0,rd1',hs.len,wrap_i64]
  refine r02_within ?_
  by_cases h1:0≤i∧i≤(c.S.length:Int)-1
  case neg =>
    have e1:unsE c i=5:=by rw [unsE,if_neg (fun g=>g h0),if_neg (by omega)]
    have:=hK H [.snil,.snil,.int .i64 0] HX.refl (by rw [if_neg (by rw [e1];omega)];exact zCapV (m:=0) |>.cap)
    rw [e1] at this
    have hd:=decide_eq_false h1
    simp only [hd]
    simp [rdA3,splice]
    exact this
  have e1:unsE c i=0:=by rw [unsE,if_neg (fun g=>g h0),if_pos (by omega)]
  have hd:=decide_eq_true h1
  simp only [hd]
  simp [rdA3,z1,z2,z3,z4]
  refine r02_Copy hc hsh (by omega) fun H1 ws1 x1 o1 => ?_
  replace x1:HX H H1:=x1
  have l1:=x1.len
  obtain ⟨pv1,sv1,ps1,rfl,k1,k2,k3,k4⟩:=o1.parts
  have q1:=k1.own.lst.stor
  have q2:=k1.own.lst.one
  have q3:=k2.lst.stor
  have q4:=k2.lst.one
  obtain ⟨j,rfl⟩:∃j:Nat,i=j:=⟨i.toNat,by omega⟩
  have hj:j<c.S.length:=by omega
  have o0:OCapV H.length H1 [pv1,.snil,.int .i64 c.e] ⟨c.P,[],c.e⟩:=.mk k1 .nil (fun b o z y o' z' y' _ g=>by cases g) fun i hi b o z y o' z' y' g _=>by cases g
  simp [q1,q2,q3,q4,rd1',splice]
  refine wLoop_up c.S.length (fun t fr L H'=>∃s,(fr 1=.int .i64 (j:Nat)∧fr 2=.lp 0 0∧fr 4=.lp 1 0∧fr 7=.lp 2 0∧fr 8=.int .i64 t)∧L=[[pv,sv,.int .i64 c.e],[.snil,.snil,.int .i64 0],[pv1,s,.int .i64 c.e]]∧HX H H'∧OCapV H.length H' [pv1,s,.int .i64 c.e] ⟨c.P,(c.S.take j++c.S.drop (j+1)).take (if t≤j then t else t-1),c.e⟩) ⟨.snil,by simp,by simp,x1,by simpa using o0⟩ ?_
  rintro t ht fr L H2 ⟨s,⟨f1,f2,f4,f7,f8⟩,rfl,x2,hO⟩
  have l2:=x2.len
  simp [f1,f2,f4,f7,f8,rd1',hs.len]
  refine cond_dec (fun htt => ?_) fun hfl => ?_
  · have htt:t<c.S.length:=by omega
    have hs1:=hs.mono x2
    have ld:=fun L=>hs1.load htt (L:=L)
    have ec:smC.cells (c.S.getD t default)=[.int .i64 (c.S.getD t default).A,.int .i64 (c.S.getD t default).I,.int .i64 (c.S.getD t default).B,.int .i64 (c.S.getD t default).J]:=rfl
    rw [ec] at ld
    have hst:=unsL_step htt hj
    by_cases e2:t=j
    · subst e2
      rw [if_pos rfl] at hst
      simp (disch:=omega) [f1,f2,f4,f7,f8,wrap_i64]
      refine ⟨htt,x2,?_⟩
      rw [hst] at hO
      have e3:(if t+1≤t then t+1 else t)=t:=if_neg (by omega)
      rw [e3] at hO ⊢
      exact hO
    · have hne:decide ((t:Int)=(j:Int))=false:=by simp;omega
      have hne2:¬((t:Int)=(j:Int)):=by omega
      rw [if_neg e2] at hst
      obtain ⟨s',H3,c1,c2,c3,c4⟩:=hO.pushS (lim:=lim) ec ⟨by omega,l2⟩ (by rw [List.length_take];simp;omega)
      obtain ⟨_,_,y1,y2⟩:=c2.vals
      rw [hst] at c2
      simp (disch:=omega) [f1,f2,f4,f7,f8,hne,rd0,rd1',hs1.at htt,ld,splice,zs4,c1,y1,y2,wrap_i64]
      exact ⟨htt,c3 _ x2 (Nat.le_refl _),c2⟩
  · have:t=c.S.length:=by omega
    subst this
    have e3:(c.S.take j++c.S.drop (j+1)).take (if c.S.length≤j then c.S.length else c.S.length-1)=c.S.take j++c.S.drop (j+1):=by
      rw [if_neg (by omega),List.take_of_length_le (by simp;omega)]
    rw [e3] at hO
    obtain ⟨y1,y2,y3,y4⟩:=hO.vals
    have:=hK H2 _ x2 (by rw [e1,if_pos rfl];exact hO.cap)
    rw [e1] at this
    simp [f1,f2,f4,f7,f8,rdA3,splice,y1,y2,y3,y4]
    exact this
end
end Go.Proofs.Ytclghkegfpcdpaa.Vm
namespace Go.Proofs.Ytclghkegfpcdpaa.Vm
open Go
set_option maxRecDepth 100000
set_option maxHeartbeats 1000000
set_option linter.unusedSimpArgs false
set_option linter.unusedVariables false
attribute [-simp] List.getD_eq_getElem?_getD
section
variable {n lim:Nat}{H H' H1:Hp}{K:V→Hp→Prop}{v pv sv a b u:V}{ps:List (V×V)}{P:List Pc}{S:List Sm}{e:Int}{ws:List V}{c d:Cp}
noncomputable def measL (c:Cp):List V:=if capE c=0 then [.int .i64 (partP c),.int .i64 (eulP c),.int .i64 (missP c),.int .i64 (handP c),.int .i64 0] else [.int .i64 0,.int .i64 0,.int .i64 0,.int .i64 0,.int .i64 (capE c)]
structure WrS (m:Nat)(H0:Hp)(pv:V)(ps:List (V×V))(P:List Pc)(H:Hp):Prop where
  hx:HX H0 H
  hm:H0.length≤m
  own:OwnT m pvC H pv ps
  len:ps.length=P.length
  ol:∀i,i<P.length→OwnL m H (ps.getD i default).1 (P.getD i default).s.length
  ap:∀i,i<P.length→∀b o z y o' z' y',pv=.sl b o z y→(ps.getD i default).1=.sl b o' z' y'→False
theorem WrS.write {m:Nat}{H0:Hp}(h:WrS m H0 pv ps P H){i k:Nat}(hi:i<P.length)(hk:k<(P.getD i default).s.length)(hlim:lim≤m):∃H',(∀L,vstore lim L H (ept 1 (ps.getD i default).1 k) (.int .i64 (-1)) 1=some (L,H'))∧WrS m H0 pv ps P H':=by
  obtain ⟨l,hl,ho⟩:=h.ol i hi
  refine ⟨setH H (ps.getD i default).1 (ints (l.set k (-1))),fun L=>ho.store ⟨hlim,by omega⟩,setH_X h.hx ho h.hm,h.hm,h.own.keepB fun b o z y e => ?_,h.len,fun j hj=>(h.ol j hj).set ho (by simp),h.ap⟩
  cases hq:(ps.getD i default).1 with
  | sl b' o' z' y' =>
    simp only [setH]
    rw [List.getElem?_set_ne]
    rintro rfl
    exact h.ap i hi _ _ _ _ _ _ _ e hq
  | _=>rfl
theorem WrS.vlen {m:Nat}{H0:Hp}(h:WrS m H0 pv ps P H){i:Nat}(hi:i<P.length):vlenS (ps.getD i default).1=some (.int .i64 (P.getD i default).s.length):=by
  obtain ⟨l,hl,ho⟩:=h.ol i hi
  rw [←hl];exact ho.sl.len
theorem WrS.addr {m:Nat}{H0:Hp}(h:WrS m H0 pv ps P H){i k:Nat}(hi:i<P.length)(hk:k<(P.getD i default).s.length):viaddrS 1 (ps.getD i default).1 (.int .i64 (k:Int))=some (ept 1 (ps.getD i default).1 k):=by
  obtain ⟨l,hl,ho⟩:=h.ol i hi
  have:=ho.sl.addr (i:=(k:Int)) (by omega)
  simpa using this
theorem law_CapSews {n0 n1 n2 n3 j:Int}(ha:CapA H ws c)(hlim:lim≤H.length)(i0:I64 n0)(i1:I64 n1)(i2:I64 n2)(i3:I64 n3)(ij:I64 j)(hK:∀H',K (.bool true) H'):VCall tbl lim 8 [.agg ws,.agg [.int .i64 n0,.int .i64 n1,.int .i64 n2,.int .i64 n3],.int .i64 j] H K:=by
  have hc:=ha.cap
  obtain ⟨s,hs0⟩:∃s:Sm,s=⟨n0,n1,n2,n3⟩:=⟨_,rfl⟩
  have ec:[V.int .i64 n0,.int .i64 n1,.int .i64 n2,.int .i64 n3]=smC.cells s:=by rw [hs0];rfl
  rw [ec]
  obtain ⟨pv,sv,ps,rfl,hp,hs,z1,z2,z3,z4⟩:=hc.form
  refine VCall_fn tbl_at8 rfl ?_
  have r4s:rd (some 4) (smC.cells s) 0=some (.agg (smC.cells s)):=Eq.trans rfl rfl
  simp [vf8,z1,z2,z3,z4,rdA3]
  refine l02_Long hc ?_
  cases hl:longB c with
  | true =>
    simp
    refine cp_known hlim fun H' _ => ?_
    simp
    exact hK _
  | false =>
  have hsh:=short_of hl
  have s2:=hsh.ns
  have s1:=hsh.np
  simp [rdA3,r4s,z1,z2,z3,z4]
  refine r02_Copy hc hsh hlim fun H1 ws1 x1 o1 => ?_
  replace x1:HX H H1:=x1
  have l1:=x1.len
  obtain ⟨pv1,sv1,ps1,rfl,hp1,hs1,q1,q2,q3,q4⟩:=o1.cap.form
  simp [rdA3,r4s,q1,q2,q3,q4,splice]
  refine surf_Sew o1.cap hsh (by omega) fun H2 ws2 x2 o2 => ?_
  replace x2:HX H1 H2:=x2
  have l2:=x2.len
  generalize hA:(if capE (sewC c s)=0 then sewC c s else zCap)=A at *
  obtain ⟨pv2,sv2,ps2,rfl,k1,k2,k3,k4⟩:=o2.parts
  have y1:=k1.own.lst.stor
  have y2:=k1.own.lst.one
  have y3:=k2.lst.stor
  have y4:=k2.lst.one
  simp [rdA3,r4s,z1,z2,z3,z4,y1,y2,y3,y4,splice]
  refine r02_Sew (hc.mono (x1.trans x2)) hsh (by omega) fun H3 ws3 x3 o3 => ?_
  replace x3:HX H2 H3:=x3
  have l3:=x3.len
  rw [hA] at o3
  obtain ⟨pv3,sv3,ps3,rfl,hp3,hs3,t1,t2,t3,t4⟩:=o3.cap.form
  simp [rdA3,q1,q2,q3,q4,t1,t2,t3,t4,splice]
  refine surf_Unsew (o1.cap.mono (x2.trans x3)) hsh (by omega) fun H4 ws4 x4 c4 => ?_
  replace x4:HX H3 H4:=x4
  have l4:=x4.len
  generalize hU:(if unsE c j=0 then unsC c j.toNat else zCap)=U at *
  obtain ⟨pv4,sv4,ps4,rfl,hp4,hs4,u1,u2,u3,u4⟩:=c4.form
  simp [rdA3,z1,z2,z3,z4,u1,u2,u3,u4,splice]
  refine r02_Unsew (hc.mono ((x1.trans x2).trans (x3.trans x4))) hsh (by omega) fun H5 ws5 x5 c5 => ?_
  replace x5:HX H4 H5:=x5
  have l5:=x5.len
  rw [hU] at c5
  obtain ⟨pv5,sv5,ps5,rfl,hp5,hs5,w1,w2,w3,w4⟩:=c5.form
  have bA:A.P.length≤1000000∧A.S.length≤1000000∧∀q,q<A.P.length→(A.P.getD q default).s.length≤1000000∧(A.P.getD q default).a.length≤1000000:=by
    rw [←hA]
    split
    · refine ⟨by simp only [sewC];omega,by simp [sewC];omega,fun q hq => ?_⟩
      have:=hsh.pc q hq
      simp only [sewC];omega
    · exact ⟨by simp [zCap],by simp [zCap],fun q hq=>by simp [zCap] at hq⟩
  have bU:U.P.length≤1000000∧U.S.length≤1000000∧∀q,q<U.P.length→(U.P.getD q default).s.length≤1000000∧(U.P.getD q default).a.length≤1000000:=by
    rw [←hU]
    split
    · refine ⟨by simp only [unsC];omega,by simp [unsC];omega,fun q hq => ?_⟩
      have:=hsh.pc q hq
      simp only [unsC];omega
    · exact ⟨by simp [zCap],by simp [zCap],fun q hq=>by simp [zCap] at hq⟩
  simp [rdA3,t1,t2,t3,t4,y1,y2,y3,y4,w1,w2,w3,w4,splice]
  refine r02_Same (c:=A) (d:=A) (o2.cap.mono (x3.trans (x4.trans x5))) (o3.cap.mono (x4.trans x5)) (Or.inr bA) ?_
  simp [same_refl,rdA3,u1,u3,w1,w3]
  refine r02_Same (c:=U) (d:=U) (c4.mono x5) c5 (Or.inr bU) ?_
  simp [same_refl,rd0]
  have hW:WrS H1.length H1 pv2 ps2 A.P H5:=⟨x2.trans (x3.trans (x4.trans x5)),Nat.le_refl _,k1.own.mono (x3.trans (x4.trans x5)),k1.len,fun i hi=>⟨_,rfl,(k1.at' i hi).1.mono (x3.trans (x4.trans x5))⟩,fun i hi b o z y o' z' y' g g'=>k1.ap i hi _ _ _ _ _ _ _ g (Or.inl g')⟩
  refine wLoop_up A.P.length (fun i fr L H'=>(fr 3=.lp 0 0∧fr 7=.lp 2 0∧fr 8=.lp 3 0∧fr 16=.bool true∧fr 17=.int .i64 i)∧(∃X,L=[pv,sv,.int .i64 c.e] :: smC.cells s :: [pv1,sv1,.int .i64 c.e] :: [pv2,sv2,.int .i64 A.e] :: X)∧WrS H1.length H1 pv2 ps2 A.P H') ⟨by simp,by simp,hW⟩ ?_
  rintro i hi fr L H6 ⟨⟨f3,f7,f8,f16,f17⟩,⟨X,rfl⟩,hW⟩
  have hpl:vlenS pv2=some (.int .i64 A.P.length):=by rw [hW.own.lst.len,hW.len]
  simp [f3,f7,f8,f16,f17,rd0,hpl]
  refine cond_dec (fun ht => ?_) fun hfl => ?_
  · have ht:i<A.P.length:=by omega
    have bq:=bA.2.2 i ht
    simp [f3,f7,f8,f16,f17]
    refine wLoop_up (A.P.getD i default).s.length (fun k fr L H'=>(fr 3=.lp 0 0∧fr 7=.lp 2 0∧fr 8=.lp 3 0∧fr 16=.bool true∧fr 17=.int .i64 i∧fr 18=.int .i64 k)∧(∃X,L=[pv,sv,.int .i64 c.e] :: smC.cells s :: [pv1,sv1,.int .i64 c.e] :: [pv2,sv2,.int .i64 A.e] :: X)∧WrS H1.length H1 pv2 ps2 A.P H') ⟨by simp [f3,f7,f8,f16,f17],by simp,hW⟩ ?_
    clear f3 f7 f8 f16 f17 hW X fr
    rintro k hk fr L H7 ⟨⟨f3,f7,f8,f16,f17,f18⟩,⟨X,rfl⟩,hW⟩
    have ad:=hW.own.lst.at (i:=i) (by rw [hW.len];exact ht)
    have fa:vfaddr 0 (ept 2 pv2 i)=some (eptf 2 pv2 i 0):=hW.own.lst.faddr (by rw [hW.len];exact ht)
    have ld:∀L,vload none L H7 (eptf 2 pv2 i 0)=some (ps2.getD i default).1:=fun L=>by
      rw [hW.own.lst.rd1 (by rw [hW.len];exact ht) (by omega)];rfl
    have hvl:=hW.vlen ht
    simp [f3,f7,f8,f16,f17,f18,rd0,ad,fa,ld,hvl]
    refine cond_dec (fun hkt => ?_) fun hkf => ?_
    · have hkt:k<(A.P.getD i default).s.length:=by omega
      have a2:=hW.addr ht hkt
      obtain ⟨H8,w5,w6⟩:=hW.write (lim:=lim) ht hkt (by omega)
      generalize (ps2.getD i default).1=pq at *
      simp (disch:=omega) [f3,f7,f8,f16,f17,f18,rd0,ad,fa,ld,a2,w5,-vstore,lpId_ept,wrap_i64]
      exact ⟨hkt,w6⟩
    · have:k=(A.P.getD i default).s.length:=by omega
      simp (disch:=omega) [f3,f7,f8,f16,f17,f18,wrap_i64]
      exact ⟨ht,hW⟩
  · simp [f3,f7,f8,f16,f17,rdA3,z1,z3,q1,q3]
    refine r02_Same (c:=c) (d:=c) (o1.cap.mono hW.hx) (hc.mono (x1.trans hW.hx)) (Or.inl hsh) ?_
    have:=hW.hx.len
    simp [same_refl]
    refine cp_known (by omega) fun H8 _ => ?_
    simp
    exact hK _
end
end Go.Proofs.Ytclghkegfpcdpaa.Vm
