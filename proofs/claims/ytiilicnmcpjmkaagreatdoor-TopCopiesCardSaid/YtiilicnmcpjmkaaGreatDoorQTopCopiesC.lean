/- Package card over the machine: Merge, Meet, Relation. -/
import Derived.Test.YtiilicnmcpjmkaaGreatDoorQTopCopiesB
import Derived.Test.YtiilicnmcpjmkaaGreatDoorQTopCopiesA
import Derived.Test.YtiilicnmcpjmkaaGreatDoorVmFlat
import Derived.Test.YtiilicnmcpjmkaaGreatDoorVmRec
import Derived.Test.YtiilicnmcpjmkaaGreatDoorRows
import Derived.Test.YtiilicnmcpjmkaaGreatDoorChecked
import Derived.Stop.LaidErr
import Derived.LaidHandle
import Derived.Lay
import Derived.KernelRfl
namespace Go.Proofs.YtiilicnmcpjmkaaGreatDoor.Vm
open Go
set_option maxRecDepth 100000
set_option linter.unusedSimpArgs false
set_option linter.unusedVariables false
attribute [-simp] List.getD_eq_getElem?_getD
section
variable {α:Type}{k n:Nat}{c:Cod α k}{H:Hp}{v:V}{l:List α}
theorem OwnT.appendG (h:OwnT n c H v l) {lim bytes:Nat} {y:V} {m:List α} (hy:LstV c H y m) (hn:lim≤n∧n≤H.length) (hb:bytes≤1000) (hl:l.length+m.length≤1000000) :
    ∃v' H',vappend lim k bytes H v y=some (v',H')∧OwnT n c H' v' (l++m)∧(∀H0,HX H0 H→H0.length≤n→HX H0 H')∧n≤H'.length∧∀b',b'<H.length→(∀o z y,v≠.sl b' o z y)→H'[b']? = H[b']? := by
  have hb1:(l.length+m.length)*bytes≤1000000*1000:=Nat.mul_le_mul hl hb
  by_cases hm:0<m.length
  · obtain ⟨v',H',a1,a2,a3,a4,a5,a6⟩:=h.appendL (lim:=lim) (bytes:=bytes) hy HX.refl hn hb hl hm
    exact ⟨v',H',a1,a2,a3,a4,a6⟩
  · have hm:m=[]:=List.eq_nil_of_length_eq_zero (by omega)
    subst hm
    cases h with
    | nil =>
      refine ⟨.snil,H,?_,by rw [List.append_nil];exact .nil,fun H0 h0 _=>h0,by omega,fun _ _ _=>rfl⟩
      simp [vappend,hy.cells,hy.len]
    | row h1 h2 =>
      rename_i b
      have hbl:=(List.getElem?_eq_some_iff.1 h2).1
      refine ⟨.sl H.length 0 l.length k,H.set b .dead++[.row (c.all l) true],?_,?_,fun H0 h0 hk0 => ?_,by simp;omega,fun b' hb' hne => ?_⟩
      · simp [vappend,hy.cells,hy.len,h2,Cod.all_len,show lim≤b by omega,show l.length*bytes≤140737488355328 by simp at hb1;omega,show l.length<4611686018427387904 by simp at hl;omega,Cod.all_nil]
      · rw [List.append_nil]
        refine .row (by omega) ?_
        have e:H.length=(H.set b .dead).length:=by simp
        rw [e];exact List.getElem?_concat_length
      · obtain ⟨X,rfl⟩:=h0
        refine HX.of (by simp;omega) fun i hi => ?_
        rw [List.getElem?_append_left (by simp;omega),List.getElem?_set_ne (by omega),List.getElem?_append_left hi]
      · rw [List.getElem?_append_left (by simpa using hb'),List.getElem?_set_ne (fun e=>hne _ _ _ (by rw [e]))]
end
theorem filE_sort {c:List En}(h:valE c=0){g:Nat→Bool}:SortR cfE 0 (filE g c c.length).length (filE g c c.length) :=
  pw_sort (filE_pw fun i j h1 h2 _ _=>by
    rw [cfE_le]
    have o:=val_ord h h2 (Nat.le_of_lt h1)
    by_cases e:(c.getD i default).p=(c.getD j default).p
    · have:=val_lt h h1 h2 e;omega
    · omega)
def merE (a b:List En):Int:=if cmpE a b≠0 then cmpE a b else if 60<(bothL a b a.length).length+(firstL a b a.length).length+(firstL b a b.length).length then 4 else 0
def relP (a b:List En):Int:=if cmpE a b≠0 then 0 else if 0<(firstL a b a.length).length∧0<(firstL b a b.length).length then 3 else if 0<(firstL a b a.length).length then 1 else if 0<(firstL b a b.length).length then 2 else 0
def meetL (a b:List En):List En:=if cmpE a b=0 then bothL a b a.length else []
theorem cmp_ok {a b:List En}(h:cmpE a b=0):valE a=0∧valE b=0∧∀i,i<a.length→okM a b i=true:=by
  unfold cmpE at h
  split at h
  · rename_i h1;exact absurd h h1
  rename_i h1
  split at h
  · rename_i h2;exact absurd h h2
  rename_i h2
  split at h
  · cases h
  rename_i h3
  simp only [Bool.not_eq_false] at h3
  exact ⟨by simpa using h1,by simpa using h2,fun i hi=>allN_at h3 hi⟩
section
variable {lim:Nat}{H:Hp}{K:V→Hp→Prop}{v w:V}{a b:List En}{x y z:Int}
theorem card_RelationG (hc:LstV enC H v a) (hw:LstV enC H w b) (hsa:shortC a) (hsb:shortC b) (hlim:lim≤H.length)
    (hK:∀H',HX H H'→K (.tup [.int .i64 (relP a b),.int .i64 (cmpE a b)]) H'):VCall tbl lim 36 [v,w] H K:=by
  refine VCall_fn tbl_at36 rfl ?_
  simp [vf36,hc.stor,hw.stor]
  refine card_compareG hc hw hsa hsb hlim (fun h H' hx => ?_) fun h H' p q r hx op oq or _ _ => ?_
  · have e:relP a b=0:=if_pos h
    simp [eq_false h]
    have:=hK H' hx
    rwa [e] at this
  · have hK:=hK H' hx
    rw [h] at hK
    unfold relP at hK
    rw [if_neg (by rw [h];simp)] at hK
    by_cases h1:0<(firstL a b a.length).length
    · by_cases h2:0<(firstL b a b.length).length
      · rw [if_pos ⟨h1,h2⟩] at hK
        simp [op.lst.stor,oq.lst.stor,or.lst.stor,op.lst.one,oq.lst.one,or.lst.one,oq.lst.len,or.lst.len,h1,h2]
        exact hK
      · rw [if_neg (by omega),if_pos h1] at hK
        simp [op.lst.stor,oq.lst.stor,or.lst.stor,op.lst.one,oq.lst.one,or.lst.one,oq.lst.len,or.lst.len,h1,h2]
        exact hK
    · by_cases h2:0<(firstL b a b.length).length
      · rw [if_neg (by omega),if_neg h1,if_pos h2] at hK
        simp [op.lst.stor,oq.lst.stor,or.lst.stor,op.lst.one,oq.lst.one,or.lst.one,oq.lst.len,or.lst.len,h1,h2]
        exact hK
      · rw [if_neg (by omega),if_neg h1,if_neg h2] at hK
        simp [op.lst.stor,oq.lst.stor,or.lst.stor,op.lst.one,oq.lst.one,or.lst.one,oq.lst.len,or.lst.len,h1,h2]
        exact hK
theorem card_Merge (hc:LstV enC H v a)(hw:LstV enC H w b)(hsa:shortC a)(hsb:shortC b)(hlim:lim≤H.length)
    (hno:merE a b≠0→∀H',HX H H'→K (.tup [.snil,.int .i64 (merE a b)]) H')
    (hK:merE a b=0→∀H' u l,HX H H'→OwnT H.length enC H' u l→l.Perm (bothL a b a.length++(firstL a b a.length++firstL b a b.length))→SortR cfE 0 l.length l→K (.tup [u,.int .i64 0]) H'):VCall tbl lim 14 [v,w] H K:=by
  refine VCall_fn tbl_at14 rfl ?_
  simp [vf14,hc.stor,hw.stor]
  refine card_compareG hc hw hsa hsb hlim (fun h H' hx => ?_) fun h H' p q r hx op oq or hap hrq => ?_
  · have e:merE a b=cmpE a b:=if_pos h
    simp [eq_false h]
    have:=hno (by rw [e];exact h) H' hx
    rwa [e] at this
  obtain ⟨hva,hvb,hok⟩:=cmp_ok h
  have hl:=valE_small hva
  have hlb:=valE_small hvb
  have n1:(bothL a b a.length).length≤a.length:=filE_len
  have n2:(firstL a b a.length).length≤a.length:=filE_len
  have n3:(firstL b a b.length).length≤b.length:=filE_len
  have lx:=hx.len
  by_cases h60:60<(bothL a b a.length).length+(firstL a b a.length).length+(firstL b a b.length).length
  · have e:merE a b=4:=by simp [merE,h,h60]
    simp (disch:=omega) [op.lst.stor,oq.lst.stor,or.lst.stor,op.lst.one,oq.lst.one,or.lst.one,op.lst.len,oq.lst.len,or.lst.len,wrap_i64,show (60:Int)<(bothL a b a.length).length+(firstL a b a.length).length+(firstL b a b.length).length by omega]
    have:=hno (by rw [e];decide) H' hx
    rwa [e] at this
  have e:merE a b=0:=by simp [merE,h,h60]
  have hK:=hK e
  obtain ⟨u,H1,a1,a2,a3,a4,a5⟩:=oq.appendG (lim:=lim) (bytes:=56) or.lst ⟨hlim,lx⟩ (by omega) (by omega)
  simp (disch:=omega) [op.lst.stor,oq.lst.stor,or.lst.stor,op.lst.one,oq.lst.one,or.lst.one,op.lst.len,oq.lst.len,or.lst.len,wrap_i64,show ¬(60:Int)<(bothL a b a.length).length+(firstL a b a.length).length+(firstL b a b.length).length by omega,a1,a2.lst.len]
  have bp:=op.below
  have op1:OwnT H.length enC H1 p (bothL a b a.length):=op.keepB fun b o m z e=>a5 b (bp _ _ _ _ e) fun o' z' y' e'=>hap _ _ _ _ _ _ _ _ e e' rfl
  have hx1:=a3 H hx (Nat.le_refl _)
  have hsb2:SortR cfE 0 (bothL a b a.length).length (bothL a b a.length):=filE_sort hva
  generalize hM:firstL a b a.length++firstL b a b.length=M at *
  have hMe:M.length=(firstL a b a.length).length+(firstL b a b.length).length:=by rw [←hM];simp
  have hMl:M.length≤120:=by rw [←hM];simp;omega
  refine wLoop_up M.length (fun i fr L H'=>∃t lt,(fr 34=u∧fr 35=.int .i64 M.length∧fr 36=.int .i64 i∧fr 6=t)∧HX H1 H'∧HX H H'∧OwnT H.length enC H' t lt∧lt.Perm (bothL a b a.length++M.take i)∧SortR cfE 0 lt.length lt) ⟨p,_,by simp [a2.lst.len];omega,HX.refl,hx1,op1,by simp,hsb2⟩ ?_
  rintro i hi fr L H2 ⟨t,lt,⟨f34,f35,f36,f6⟩,hx2,hx02,ot,hp2,hs2⟩
  simp [f34,f35,f36,f6]
  refine cond_dec (fun ht => ?_) fun hfl => ?_
  · have ht:i<M.length:=by omega
    have om:=a2.lst.mono hx2
    have l2:=hx02.len
    have hlt:lt.length≤200:=by rw [hp2.length_eq];simp;omega
    simp (disch:=omega) [f34,f35,f36,f6,om.at ht,en_load om,lastO,lastS,ot.lst.stor]
    refine card_put (e:=M.getD i default) ot.lst (by omega) (by omega) fun H3 t3 l3 x3 o3 hp3 hs3 => ?_
    simp (disch:=omega) [f34,f35,f36,f6,wrap_i64]
    refine ⟨ht,hx2.trans x3,hx02.trans x3,l3,o3.le l2,?_,hs3⟩
    rw [List.take_succ_eq_append_getElem ht,←getD_of ht,←List.append_assoc]
    exact hp3.trans (hp2.append_right _)
  have:i=M.length:=by omega
  subst this
  rw [List.take_length] at hp2
  simp [f6,ot.lst.stor]
  exact hK H2 t lt hx02 ot hp2 hs2
end
end Go.Proofs.YtiilicnmcpjmkaaGreatDoor.Vm
namespace Go.Proofs.YtiilicnmcpjmkaaGreatDoor.Vm
open Go
set_option maxRecDepth 100000
set_option linter.unusedSimpArgs false
set_option linter.unusedVariables false
attribute [-simp] List.getD_eq_getElem?_getD
theorem ba_symm:∀s t:ByteArray,(s==t)=(t==s)
  | ⟨a⟩,⟨b⟩=>by show (a==b)=(b==a);exact BEq.comm
theorem enEq_symm {e f:En}:enEq e f=enEq f e:=by
  unfold enEq
  rw [ba_symm e.t f.t]
  simp only [eq_comm]
theorem filE_split {g:Nat→Bool}{c:List En}:∀{n:Nat},n≤c.length→(filE g c n++filE (fun i => !g i) c n).Perm (c.take n)
  | 0,_=>by simp [filE]
  | n + 1,h=>by
    have ih:=filE_split (g:=g) (c:=c) (n:=n) (by omega)
    rw [List.take_succ_eq_append_getElem (by omega),←getD_of (by omega)]
    simp only [filE]
    by_cases e:g n=true
    · simp only [e,if_true,Bool.not_true,Bool.false_eq_true,if_false,List.append_assoc]
      exact List.perm_middle.trans ((List.Perm.cons _ ih).trans (List.perm_append_singleton _ _).symm)
    · have e:g n=false:=by simpa using e
      simp only [e,Bool.not_false,if_true,Bool.false_eq_true,if_false]
      rw [←List.append_assoc]
      exact ih.append_right _
theorem hasN_iff {b:List En}{x:En}:hasN b x=true↔∃y∈b,y.p=x.p∧y.s=x.s:=by
  constructor
  · intro h
    cases Classical.em (∃y∈b,y.p=x.p∧y.s=x.s) with
    | inl h2=>exact h2
    | inr h2 =>
      have:=hasN_no (b:=b) (x:=x) fun j hj e=>h2 ⟨_,getD_mem hj,e⟩
      rw [this] at h;cases h
  · rintro ⟨y,hy,h1,h2⟩
    obtain ⟨j,hj,rfl⟩:=mem_getD hy
    exact hasN_yes hj h1 h2
theorem firstL_mem {a b:List En}{x:En}(h:x∈firstL b a b.length):x∈b∧hasN a x=false:=by
  obtain ⟨i,hi,rfl⟩:=mem_getD h
  obtain ⟨j,j1,j2,j3⟩:=filE_mem hi
  unfold firstL
  rw [j3]
  exact ⟨getD_mem j1,by simpa using j2⟩
theorem second_more {a b:List En}(ha:valE a=0)(hb:valE b=0){x y:En}(hx:x∈a)(hy:y∈firstL b a b.length)(hp:x.p=y.p):x.s<y.s:=by
  obtain ⟨h1,h2⟩:=firstL_mem hy
  have hv:=(val_mem ha hx).2.1.2
  have hw:=(val_mem hb h1).2.1.1
  by_cases h:y.s≤cntE a y.p a.length
  · obtain ⟨z,hz,e1,e2⟩:=val_has ha (q:=y.p) (Nat.le_refl _) y.s hw h
    have:hasN a y=true:=hasN_iff.2 ⟨z,hz,e1,e2⟩
    rw [h2] at this;cases this
  · rw [hp] at hv;omega
theorem mer_dist {a b:List En}(ha:valE a=0)(hb:valE b=0):Dist (a++firstL b a b.length):=by
  refine List.pairwise_append.2 ⟨val_dist ha,?_,fun x hx y hy e => ?_⟩
  · refine filE_pw fun i j h1 h2 _ _ e => ?_
    have:=val_uniq hb (by omega) h2 e.1 e.2
    omega
  · have:=second_more ha hb hx hy e.1
    omega
theorem mer_perm {a b:List En}:(bothL a b a.length++(firstL a b a.length++firstL b a b.length)).Perm (a++firstL b a b.length):=by
  rw [←List.append_assoc]
  refine List.Perm.append_right _ ?_
  have:=filE_split (g:=fun i=>hasN b (a.getD i default)) (c:=a) (Nat.le_refl _)
  rw [List.take_length] at this
  exact this
def mgL (a b:List En):Nat→List En
  | 0=>[]
  | p+1=>mgL a b p++(ofP a p a.length++ofP (firstL b a b.length) p (firstL b a b.length).length)
theorem mgL_mem {a b:List En}:∀{n:Nat} {x:En},x∈mgL a b n→x.p<n
  | n+1,x,h=>by
    simp only [mgL,List.mem_append] at h
    rcases h with h | h | h
    · have:=mgL_mem h;omega
    · have:=(ofP_mem h).2;omega
    · have:=(ofP_mem h).2;omega
theorem mgL_sort {a b:List En}(ha:valE a=0)(hb:valE b=0):∀{n:Nat},(mgL a b n).Pairwise (leC cfE)
  | 0=>List.Pairwise.nil
  | n + 1=>by
    have hs:(firstL b a b.length).Pairwise (leC cfE):=filE_pw fun i j h1 h2 _ _=>by
      rw [cfE_le]
      have o:=val_ord hb h2 (Nat.le_of_lt h1)
      by_cases e:(b.getD i default).p=(b.getD j default).p
      · have:=val_lt hb h1 h2 e;omega
      · omega
    have hs2:=List.pairwise_iff_getElem.1 hs
    refine List.pairwise_append.2 ⟨mgL_sort ha hb,List.pairwise_append.2 ⟨filE_pw fun i j h1 h2 h3 h4 => ?_,filE_pw fun i j h1 h2 h3 h4 => ?_,fun x hx y hy => ?_⟩,fun x hx y hy => ?_⟩
    · rw [cfE_le]
      simp only [decide_eq_true_eq] at h3 h4
      have:=val_lt ha h1 h2 (by rw [h3,h4])
      omega
    · have:=hs2 i j (by omega) h2 h1
      rwa [←getD_of (by omega),←getD_of h2] at this
    · have m1:=ofP_mem hx
      have m2:=ofP_mem hy
      have:=second_more ha hb m1.1 m2.1 (by rw [m1.2,m2.2])
      rw [cfE_le];omega
    · have h1:=mgL_mem hx
      rw [cfE_le]
      rcases List.mem_append.1 hy with hy | hy
      · have:=(ofP_mem hy).2;omega
      · have:=(ofP_mem hy).2;omega
theorem mgL_perm {a b:List En}(ha:valE a=0)(hb:valE b=0):(mgL a b 3).Perm (a++firstL b a b.length):=by
  have hp:=ofP_perm (c:=a) (fun i hi=>val_pl ha hi) (Nat.le_refl _)
  have hq:=ofP_perm (c:=firstL b a b.length) (fun i hi=>(val_mem hb (firstL_mem (getD_mem hi)).1).1.1) (Nat.le_refl _)
  rw [List.take_length] at hp hq
  refine List.Perm.trans ?_ ((hp.append_right _).trans (List.Perm.append_left _ hq))
  simp only [mgL,List.nil_append]
  have e0:((0:Nat):Int)=0:=rfl
  have e1:((1:Nat):Int)=1:=rfl
  have e2:((2:Nat):Int)=2:=rfl
  rw [e0,e1,e2]
  generalize ofP a 0 a.length=A
  generalize ofP a 1 a.length=B
  generalize ofP a 2 a.length=C
  generalize ofP (firstL b a b.length) 0 _=X
  generalize ofP (firstL b a b.length) 1 _=Y
  generalize ofP (firstL b a b.length) 2 _=Z
  simp only [List.append_assoc]
  refine List.Perm.append_left A ?_
  have s1:(X++(B++(Y++(C++Z)))).Perm (B++(X++(Y++(C++Z)))):=by
    have:((X++B)++(Y++(C++Z))).Perm ((B++X)++(Y++(C++Z))):=List.perm_append_comm.append_right _
    simpa only [List.append_assoc] using this
  have s2:(X++(Y++(C++Z))).Perm (C++(X++(Y++Z))):=by
    have:(((X++Y)++C)++Z).Perm ((C++(X++Y))++Z):=List.perm_append_comm.append_right _
    simpa only [List.append_assoc] using this
  exact s1.trans (List.Perm.append_left B s2)
theorem mer_uniq {a b l:List En}(ha:valE a=0)(hb:valE b=0)(hp:l.Perm (bothL a b a.length++(firstL a b a.length++firstL b a b.length)))(hs:SortR cfE 0 l.length l):l=mgL a b 3:=by
  have hq:=mgL_perm ha hb
  exact sort_uniq ((hp.trans mer_perm).trans hq.symm) ((mer_dist ha hb).perm hq) (pw_sort (mgL_sort ha hb)) hs
end Go.Proofs.YtiilicnmcpjmkaaGreatDoor.Vm
namespace Go.Proofs.YtiilicnmcpjmkaaGreatDoor.Vm
open Go
set_option maxRecDepth 100000
set_option linter.unusedSimpArgs false
set_option linter.unusedVariables false
attribute [-simp] List.getD_eq_getElem?_getD
def pB (a b:List En)(i k:Nat):Bool := !(decide ((a.getD i default).p=(b.getD k default).p)&&decide ((a.getD i default).s=(b.getD k default).s) && !enEq (a.getD i default) (b.getD k default))
section
variable {lim:Nat}{H:Hp}{K:V→Hp→Prop}{v w:V}{a b:List En}{e:En}{x y z:Int}
end
theorem hasQ_N {b:List En} {x:En} (h:hasQ b x=true):hasN b x=true:=by
  cases h2:hasN b x
  · have:allN (eqB b x) b.length=true:=allN_of fun j hj=>by
      cases h3:enEq x (b.getD j default)
      · simp [eqB,h3]
      · have n:=enEq_num h3
        have:=hasN_yes (x:=x) hj n.1.symm n.2.symm
        rw [h2] at this;cases this
    simp [hasQ,this] at h
  · rfl
theorem q_one {a b:List En}(h:cmpE a b=0){i:Nat}(hi:i<a.length):hasQ b (a.getD i default)=hasN b (a.getD i default):=by
  have ho:=(cmp_ok h).2.2 i hi
  cases hN:hasN b (a.getD i default)
  · cases hQ:hasQ b (a.getD i default)
    · rfl
    · rw [hasQ_N hQ] at hN;cases hN
  · simp only [okM,hN,Bool.not_true,Bool.false_or] at ho
    exact ho
theorem q_two {a b:List En}(h:cmpE a b=0){j:Nat}(hj:j<b.length):hasQ a (b.getD j default)=hasN a (b.getD j default):=by
  obtain ⟨ha,hb,hok⟩:=cmp_ok h
  cases hN:hasN a (b.getD j default)
  · cases hQ:hasQ a (b.getD j default)
    · rfl
    · rw [hasQ_N hQ] at hN;cases hN
  · obtain ⟨y,hy,e1,e2⟩:=hasN_iff.1 hN
    obtain ⟨i,hi,rfl⟩:=mem_getD hy
    have q1:=q_one h hi
    rw [hasN_yes (x:=a.getD i default) hj e1.symm e2.symm,hasQ_at hb hj e1.symm e2.symm] at q1
    rw [hasQ_at ha hi e1 e2,enEq_symm];exact q1
def merL (a b:List En):List En:=if merE a b=0 then mgL a b 3 else []
theorem mer_cmp {a b:List En}(h:merE a b=0):cmpE a b=0:=by
  unfold merE at h;split at h
  · rename_i h1;exact absurd h h1
  · rename_i h1;simpa using h1
theorem mgL_length {a b:List En}(h:cmpE a b=0):(mgL a b 3).length=(bothL a b a.length).length+(firstL a b a.length).length+(firstL b a b.length).length:=by
  obtain ⟨ha,hb,_⟩:=cmp_ok h
  rw [((mgL_perm ha hb).trans mer_perm.symm).length_eq];simp;omega
section
variable {lim:Nat}{H:Hp}{K:V→Hp→Prop}{v w:V}{a b:List En}{e:En}{x y z:Int}
theorem card_MergeG (hc:LstV enC H v a)(hw:LstV enC H w b)(hsa:shortC a)(hsb:shortC b)(hlim:lim≤H.length)
    (hK:∀H' u,HX H H'→OwnT H.length enC H' u (merL a b)→K (.tup [u,.int .i64 (merE a b)]) H'):VCall tbl lim 14 [v,w] H K:=by
  refine card_Merge hc hw hsa hsb hlim (fun h H' hx => ?_) fun h H' u l hx o hp hs => ?_
  · have e:merL a b=[]:=if_neg h
    exact hK H' .snil hx (by rw [e];exact .nil)
  · have e:merL a b=mgL a b 3:=if_pos h
    obtain ⟨ha,hb,_⟩:=cmp_ok (mer_cmp h)
    rw [mer_uniq ha hb hp hs] at o
    rw [e,h] at hK
    exact hK H' u hx o
end
section
variable {lim:Nat}{H:Hp}{K:V→Hp→Prop}{v w:V}{a b l:List En}{e:En}{x y z:Int}
end
end Go.Proofs.YtiilicnmcpjmkaaGreatDoor.Vm
namespace Go.Proofs.YtiilicnmcpjmkaaGreatDoor.Vm
open Go
set_option linter.unusedVariables false
set_option linter.unusedSimpArgs false
set_option maxRecDepth 100000
def blk (s:ByteArray):Int:=Lib.indexByte s.data.toList 32
def wordP (s:ByteArray):ByteArray:=if 0≤blk s then s.extract 0 (blk s).toNat else s
def restP (s:ByteArray):ByteArray:=if 0≤blk s then s.extract ((blk s).toNat+1) s.size else ⟨#[]⟩
section
variable {lim:Nat}{H:Hp}{K:V→Hp→Prop}{s:ByteArray}
end
def letB (s:ByteArray)(i:Nat):Bool:=decide (97≤chT s i∧chT s i≤122)
def digB (s:ByteArray)(i:Nat):Bool:=decide (48≤chT s i∧chT s i≤57)
def nmB (s:ByteArray)(i:Nat):Bool:=letB s i||(digB s i&&decide (i≠0))
def nameP (s:ByteArray):Bool:=allN (nmB s) s.size&&decide (1≤s.size∧s.size≤8)
section
variable {lim:Nat}{H:Hp}{K:V→Hp→Prop}{s:ByteArray}
end
def tWash:ByteArray:=⟨#[119,97,115,104]⟩
def tBleach:ByteArray:=⟨#[98,108,101,97,99,104]⟩
def tDye:ByteArray:=⟨#[100,121,101]⟩
def tCut:ByteArray:=⟨#[99,117,116]⟩
def okN (s:ByteArray)(n:Int):Bool:=decide (1≤n∧n≤99)&&decide (bA (Lib.decDigits n.toNat)=s)
def inchP (s:ByteArray):Option Int:=match Lib.atoiAll s.data.toList with
  | .ok n=>if okN s n then some n else none
  | _=>none
section
variable {lim:Nat}{H:Hp}{K:V→Hp→Prop}{s:ByteArray}
end
end Go.Proofs.YtiilicnmcpjmkaaGreatDoor.Vm
namespace Go.Proofs.YtiilicnmcpjmkaaGreatDoor.Vm
open Go
set_option linter.unusedVariables false
set_option linter.unusedSimpArgs false
set_option maxRecDepth 100000
section
variable {lim:Nat}{H:Hp}{K:V→Hp→Prop}
end
end Go.Proofs.YtiilicnmcpjmkaaGreatDoor.Vm
namespace Go.Proofs.YtiilicnmcpjmkaaGreatDoor.Vm
open Go
set_option linter.unusedVariables false
set_option linter.unusedSimpArgs false
set_option maxRecDepth 100000
def cutS (q:ByteArray):Nat→Int
  | 0=>0
  | k+1=>cutS q k+if q=bA (Lib.decDigits (k+1)) then ((k+1:Nat):Int) else 0
def begP (s p:ByteArray):Prop:=p.size≤s.size∧s.extract 0 p.size=p
instance {s p:ByteArray}:Decidable (begP s p):=inferInstanceAs (Decidable (_∧_))
theorem ba_ext {s t:ByteArray}(h:s.data.toList=t.data.toList):s=t:=by
  cases s;cases t
  simpa using h
theorem ba_len (s:ByteArray):s.data.toList.length=s.size:=by
  show s.data.toList.length=s.data.size
  simp
def tCutB:ByteArray:=⟨#[99,117,116,32]⟩
def tDyeB:ByteArray:=⟨#[100,121,101,32]⟩
end Go.Proofs.YtiilicnmcpjmkaaGreatDoor.Vm
namespace Go.Proofs.YtiilicnmcpjmkaaGreatDoor.Vm
open Go
set_option maxRecDepth 100000
set_option linter.unusedSimpArgs false
set_option linter.unusedVariables false
attribute [-simp] List.getD_eq_getElem?_getD
theorem mg_mem {a b:List En}(ha:valE a=0)(hb:valE b=0){x:En}:x∈mgL a b 3↔x∈a∨x∈firstL b a b.length:=by
  rw [(mgL_perm ha hb).mem_iff,List.mem_append]
theorem firstL_of {a b:List En}{x:En}(hx:x∈b)(hn:hasN a x=false):x∈firstL b a b.length:=by
  obtain ⟨j,hj,rfl⟩:=mem_getD hx
  obtain ⟨i,hi,e⟩:=filE_in (g:=fun i => !hasN a (b.getD i default)) (c:=b) hj (by simp [hn])
  have:=getD_mem hi
  rw [e] at this
  exact this
theorem mg_second {a b:List En}(h:cmpE a b=0){x:En}(hx:x∈b):∃y∈mgL a b 3,y.p=x.p∧y.s=x.s∧y.a=x.a∧y.b=x.b∧y.c=x.c:=by
  obtain ⟨ha,hb,_⟩:=cmp_ok h
  cases hN:hasN a x
  · exact ⟨x,(mg_mem ha hb).2 (Or.inr (firstL_of hx hN)),rfl,rfl,rfl,rfl,rfl⟩
  · obtain ⟨j,hj,rfl⟩:=mem_getD hx
    have hQ:=q_two h hj
    rw [hN] at hQ
    obtain ⟨y,hy,e1,e2⟩:=hasN_iff.1 hN
    obtain ⟨i,hi,rfl⟩:=mem_getD hy
    rw [hasQ_at ha hi e1 e2] at hQ
    have hm:=(mg_mem ha hb (x:=a.getD i default)).2 (Or.inl (getD_mem hi))
    simp only [enEq,Bool.and_eq_true,decide_eq_true_eq] at hQ
    exact ⟨_,hm,e1,e2,hQ.2.2.1.symm,hQ.2.2.2.1.symm,hQ.2.2.2.2.1.symm⟩
theorem at_le {c:List En}{x:En}(h:rangB c x=true){q:Int}(hq:0≤q∧q≤2):0≤x.at q.toNat∧x.at q.toNat≤cntE c q c.length:=by
  rw [rang_iff] at h
  rcases (show q=0∨q=1∨q=2 by omega) with rfl | rfl | rfl<;>simp [En.at,tri]<;>omega
theorem val_mg {a b:List En} (h:cmpE a b=0) (hl:(mgL a b 3).length≤60):valE (mgL a b 3)=0:=by
  obtain ⟨ha,hb,_⟩:=cmp_ok h
  have hs:=pw_sort (mgL_sort ha hb (n:=3))
  have hd:=(mer_dist ha hb).perm (mgL_perm ha hb)
  have hfrom:∀x,x∈mgL a b 3→x∈a∨x∈b:=fun x hx=>((mg_mem ha hb).1 hx).imp id fun h=>(firstL_mem h).1
  have h4:∀x∈mgL a b 3,1≤x.s∧∀s',1≤s'→s'<x.s→∃y∈mgL a b 3,y.p=x.p∧y.s=s':=fun x hx=>by
    rcases hfrom x hx with hx | hx
    · have hv:=(val_mem ha hx).2.1
      refine ⟨hv.1,fun s' h1 h2 => ?_⟩
      obtain ⟨y,hy,e1,e2⟩:=val_has ha (q:=x.p) (Nat.le_refl _) s' h1 (by omega)
      exact ⟨y,(mg_mem ha hb).2 (Or.inl hy),e1,e2⟩
    · have hv:=(val_mem hb hx).2.1
      refine ⟨hv.1,fun s' h1 h2 => ?_⟩
      obtain ⟨y,hy,e1,e2⟩:=val_has hb (q:=x.p) (Nat.le_refl _) s' h1 (by omega)
      obtain ⟨z,hz,f1,f2,_⟩:=mg_second h hy
      exact ⟨z,hz,by rw [f1,e1],by rw [f2,e2]⟩
  have top:∀x∈mgL a b 3,x.s≤cntE (mgL a b 3) x.p (mgL a b 3).length:=fun x hx=>by
    obtain ⟨i,hi,rfl⟩:=mem_getD hx
    have h1:=(h4 _ hx).1
    have:=num_of hs hd h4 ((mgL a b 3).getD i default).s.toNat hi (by omega)
    have m:=@cntE_mono (mgL a b 3) ((mgL a b 3).getD i default).p (i+1) (mgL a b 3).length hi
    simp only [cntE,if_true] at m
    omega
  have ca:∀q,cntE a q a.length≤cntE (mgL a b 3) q (mgL a b 3).length:=fun q=>by
    by_cases e:cntE a q a.length=0
    · omega
    · obtain ⟨y,hy,e1,e2⟩:=val_has ha (q:=q) (Nat.le_refl _) (cntE a q a.length) (by omega) (Int.le_refl _)
      have:=top y ((mg_mem ha hb).2 (Or.inl hy))
      rw [e1,e2] at this;omega
  have cb:∀q,cntE b q b.length≤cntE (mgL a b 3) q (mgL a b 3).length:=fun q=>by
    by_cases e:cntE b q b.length=0
    · omega
    · obtain ⟨y,hy,e1,e2⟩:=val_has hb (q:=q) (Nat.le_refl _) (cntE b q b.length) (by omega) (Int.le_refl _)
      obtain ⟨z,hz,f1,f2,_⟩:=mg_second h hy
      have:=top z hz
      rw [f1,f2,e1,e2] at this;omega
  refine val_of hl hs hd (fun x hx => ?_) h4 fun x hx => ?_
  · rcases hfrom x hx with hx | hx
    · exact (val_mem ha hx).1
    · exact (val_mem hb hx).1
  · have a0:=ca 0
    have a1:=ca 1
    have a2:=ca 2
    have b0:=cb 0
    have b1:=cb 1
    have b2:=cb 2
    rcases hfrom x hx with hx | hx
    · obtain ⟨_,_,v3,v4,v5⟩:=val_mem ha hx
      refine ⟨v3,by rw [rang_iff] at v4 ⊢;omega,fun y hy => ?_⟩
      cases hse:seesB x y
      · rfl
      · have hse':=hse
        simp only [seesB,decide_eq_true_eq] at hse'
        have hpy:0≤y.p∧y.p≤2:=by
          rcases hfrom y hy with h | h
          · exact (val_mem ha h).1.1
          · exact (val_mem hb h).1.1
        have hle:=at_le v4 hpy
        obtain ⟨z,hz,e1,e2⟩:=val_has ha (q:=y.p) (Nat.le_refl _) y.s (h4 y hy).1 (by omega)
        have:=hd.eq ((mg_mem ha hb).2 (Or.inl hz)) hy e1 e2
        subst this
        have:=v5 z hz
        rw [hse] at this;exact this
    · obtain ⟨_,_,v3,v4,v5⟩:=val_mem hb hx
      refine ⟨v3,by rw [rang_iff] at v4 ⊢;omega,fun y hy => ?_⟩
      cases hse:seesB x y
      · rfl
      · have hse':=hse
        simp only [seesB,decide_eq_true_eq] at hse'
        have hpy:0≤y.p∧y.p≤2:=by
          rcases hfrom y hy with h | h
          · exact (val_mem ha h).1.1
          · exact (val_mem hb h).1.1
        have hle:=at_le v4 hpy
        obtain ⟨z,hz,e1,e2⟩:=val_has hb (q:=y.p) (Nat.le_refl _) y.s (h4 y hy).1 (by omega)
        obtain ⟨u,hu,f1,f2,f3,f4,f5⟩:=mg_second h hz
        have:=hd.eq hu hy (by rw [f1,e1]) (by rw [f2,e2])
        subst this
        have:=v5 z hz
        have es:seesB x z=seesB x u:=by unfold seesB;rw [f1,f2]
        have el:lessB x z=lessB x u:=by unfold lessB;rw [f3,f4,f5]
        rw [es,el,hse] at this;exact this
theorem ba_eq:∀{s t:ByteArray},(s==t)=true→s=t
  | ⟨a⟩,⟨b⟩,h=>by
    have h:(a==b)=true:=h
    rw [eq_of_beq h]
theorem enEq_eq {e f:En}(h:enEq e f=true):e=f:=by
  simp only [enEq,Bool.and_eq_true,decide_eq_true_eq] at h
  obtain ⟨h1,h2,h3,h4,h5,h6⟩:=h
  cases e;cases f
  simp only at h1 h2 h3 h4 h5 h6
  rw [h1,h2,h3,h4,h5,ba_eq h6]
def Agree (a b:List En):Prop:=∀x∈a,∀y∈b,x.p=y.p→x.s=y.s→x=y
theorem Agree.symm {a b:List En}(h:Agree a b):Agree b a:=fun x hx y hy e1 e2=>(h y hy x hx e1.symm e2.symm).symm
theorem cmp_iff {a b:List En}:cmpE a b=0↔valE a=0∧valE b=0∧Agree a b:=by
  constructor
  · intro h
    obtain ⟨ha,hb,hok⟩:=cmp_ok h
    refine ⟨ha,hb,fun x hx y hy e1 e2 => ?_⟩
    obtain ⟨i,hi,rfl⟩:=mem_getD hx
    obtain ⟨j,hj,rfl⟩:=mem_getD hy
    have q:=q_one h hi
    rw [hasN_yes (x:=a.getD i default) hj e1.symm e2.symm,hasQ_at hb hj e1.symm e2.symm] at q
    exact enEq_eq q
  · rintro ⟨ha,hb,hg⟩
    have:allN (okM a b) a.length=true:=allN_of fun i hi=>by
      unfold okM
      cases h:hasN b (a.getD i default)
      · rfl
      · obtain ⟨y,hy,e1,e2⟩:=hasN_iff.1 h
        obtain ⟨j,hj,rfl⟩:=mem_getD hy
        rw [hasQ_at hb hj e1 e2,←hg _ (getD_mem hi) _ hy e1.symm e2.symm,enEq_refl];rfl
    simp [cmpE,ha,hb,this]
theorem mg_iff {a b:List En} (h:cmpE a b=0) {x:En}:x∈mgL a b 3↔x∈a∨x∈b:=by
  obtain ⟨ha,hb,hg⟩:=cmp_iff.1 h
  rw [mg_mem ha hb]
  constructor
  · exact fun h=>h.imp id fun h=>(firstL_mem h).1
  · rintro (h | h)
    · exact Or.inl h
    · cases hN:hasN a x
      · exact Or.inr (firstL_of h hN)
      · obtain ⟨y,hy,e1,e2⟩:=hasN_iff.1 hN
        rw [←hg y hy x h e1 e2];exact Or.inl hy
theorem mg_dist {a b:List En}(h:cmpE a b=0):Dist (mgL a b 3):=by
  obtain ⟨ha,hb,_⟩:=cmp_iff.1 h
  exact (mer_dist ha hb).perm (mgL_perm ha hb)
theorem Dist.nodup {l:List En}(h:Dist l):l.Nodup:=h.imp fun hne e=>hne ⟨by rw [e],by rw [e]⟩
theorem same_of {l l':List En}(h:Dist l)(h':Dist l')(hs:SortR cfE 0 l.length l)(hs':SortR cfE 0 l'.length l')(hm:∀x,x∈l'↔x∈l):l'=l :=
  sort_uniq ((List.perm_ext_iff_of_nodup h'.nodup h.nodup).2 hm) h hs hs'
theorem mg_sorted {a b:List En}(h:cmpE a b=0):SortR cfE 0 (mgL a b 3).length (mgL a b 3):=by
  obtain ⟨ha,hb,_⟩:=cmp_iff.1 h
  exact pw_sort (mgL_sort ha hb)
theorem val_sorted {c:List En}(h:valE c=0):SortR cfE 0 c.length c:=fun p q _ h2 h3=>by
  rw [cfE_le]
  have o:=val_ord h h3 (Nat.le_of_lt h2)
  by_cases e:(c.getD p default).p=(c.getD q default).p
  · have:=val_lt h h2 h3 e;omega
  · omega
theorem cmp_symm {a b:List En}(h:cmpE a b=0):cmpE b a=0:=by
  rw [cmp_iff] at h ⊢;exact ⟨h.2.1,h.1,h.2.2.symm⟩
theorem mg_symm {a b:List En}(h:cmpE a b=0):mgL b a 3=mgL a b 3 :=
  same_of (mg_dist h) (mg_dist (cmp_symm h)) (mg_sorted h) (mg_sorted (cmp_symm h)) fun x=>by rw [mg_iff h,mg_iff (cmp_symm h)];exact Or.comm
theorem mer_iff {a b:List En}:merE a b=0↔cmpE a b=0∧(mgL a b 3).length≤60:=by
  constructor
  · intro h
    have hc:=mer_cmp h
    refine ⟨hc,?_⟩
    have hl:=mgL_length hc
    unfold merE at h
    rw [if_neg (by rw [hc];simp)] at h
    split at h
    · cases h
    · omega
  · rintro ⟨hc,hl⟩
    have:=mgL_length hc
    unfold merE
    rw [if_neg (by rw [hc];simp),if_neg (by omega)]
open Classical in
theorem len_le {l l':List En}(h:Dist l)(h':Dist l')(hm:∀x,x∈l→x∈l'):l.length≤l'.length:=by
  have hp:(l'.filter fun x=>decide (x∈l)).Perm l:=(List.perm_ext_iff_of_nodup (List.Pairwise.filter _ h'.nodup) h.nodup).2 fun x=>by
    rw [List.mem_filter]
    constructor
    · exact fun h=>by simpa using h.2
    · exact fun h=>⟨hm x h,by simpa using h⟩
  rw [←hp.length_eq]
  exact List.length_filter_le _ _
theorem mer_three {a b c:List En}(h1:merE a b=0)(h2:merE (mgL a b 3) c=0):merE b c=0∧merE a (mgL b c 3)=0∧mgL a (mgL b c 3) 3=mgL (mgL a b 3) c 3∧valE (mgL (mgL a b 3) c 3)=0:=by
  obtain ⟨k1,l1⟩:=mer_iff.1 h1
  obtain ⟨k2,l2⟩:=mer_iff.1 h2
  obtain ⟨ha,hb,g1⟩:=cmp_iff.1 k1
  obtain ⟨hx,hc,g2⟩:=cmp_iff.1 k2
  have gb:Agree b c:=fun x hx y hy=>g2 x ((mg_iff k1).2 (Or.inr hx)) y hy
  have ga:Agree a c:=fun x hx y hy=>g2 x ((mg_iff k1).2 (Or.inl hx)) y hy
  have k3:cmpE b c=0:=cmp_iff.2 ⟨hb,hc,gb⟩
  have hall:∀x,x∈mgL (mgL a b 3) c 3↔(x∈a∨x∈b)∨x∈c:=fun x=>by rw [mg_iff k2,mg_iff k1]
  have l3:(mgL b c 3).length≤60:=Nat.le_trans (len_le (mg_dist k3) (mg_dist k2) fun x hx=>(hall x).2 (by rcases (mg_iff k3).1 hx with h | h;exact Or.inl (Or.inr h);exact Or.inr h)) l2
  have hv:=val_mg k3 l3
  have k4:cmpE a (mgL b c 3)=0:=cmp_iff.2 ⟨ha,hv,fun x hx y hy=>by
    rcases (mg_iff k3).1 hy with h | h
    · exact g1 x hx y h
    · exact ga x hx y h⟩
  have e:mgL a (mgL b c 3) 3=mgL (mgL a b 3) c 3:=same_of (mg_dist k2) (mg_dist k4) (mg_sorted k2) (mg_sorted k4) fun x=>by rw [hall,mg_iff k4,mg_iff k3,or_assoc]
  exact ⟨mer_iff.2 ⟨k3,l3⟩,mer_iff.2 ⟨k4,by rw [e];exact l2⟩,e,val_mg k2 l2⟩
section
variable {lim:Nat}{H:Hp}{K:V→Hp→Prop}{v w u:V}{a b c:List En}
end
end Go.Proofs.YtiilicnmcpjmkaaGreatDoor.Vm
namespace Go.Proofs.YtiilicnmcpjmkaaGreatDoor.Vm
open Go
set_option linter.unusedVariables false
set_option linter.unusedSimpArgs false
set_option maxRecDepth 100000
attribute [-simp] List.getD_eq_getElem?_getD
def sumF (f:En→Int)(l:List En):Int:=(l.map f).sum
def pickO (c:List En)(o:List Int):List En:=o.map fun i=>c.getD i.toNat default
theorem pick_id {c:List En}:∀{n:Nat},n≤c.length→pickO c (idL n)=c.take n
  | 0,_=>by simp [pickO,idL]
  | n+1,h=>by
    have ih:=pick_id (c:=c) (n:=n) (by omega)
    rw [idL_succ,List.take_succ_eq_append_getElem (by omega),←ih]
    simp only [pickO,List.map_append,List.map_cons,List.map_nil,Int.toNat_natCast]
    rw [List.getD_eq_getElem?_getD,List.getElem?_eq_getElem (by omega)];rfl
theorem ordR_perm {c:List En}(h:valE c=0):(ordR c).Perm (idL c.length):=by
  have e:ordR c=ordN c 181:=by simp [ordR,h]
  rw [e]
  have n1:(ordN c 181).Nodup:=(ordN_sort h).imp fun {x y} hxy e=>by subst e;unfold ltO at hxy;omega
  have n2:(idL c.length).Nodup:=by
    rw [idL]
    refine List.pairwise_map.2 (List.Pairwise.imp (fun {a b} hab e => ?_) (List.nodup_range (n:=c.length)))
    exact hab (Int.ofNat.inj e)
  refine (List.perm_ext_iff_of_nodup n1 n2).2 fun x => ?_
  rw [idL_mem,ordN_mem]
  constructor
  · rintro ⟨i,rfl,hi,_⟩;exact ⟨i,rfl,hi⟩
  · rintro ⟨i,rfl,hi⟩
    have r:=age_rng h hi
    have q:=val_pl h hi
    exact ⟨i,rfl,hi,by omega,by omega⟩
theorem en_ext {x y:En}(h1:y.p=x.p)(h2:y.s=x.s)(h3:y.a=x.a)(h4:y.b=x.b)(h5:y.c=x.c)(h6:y.t=x.t):y=x:=by
  cases x;cases y
  simp_all
theorem dist_nodup {l:List En}(h:Dist l):l.Nodup:=List.Pairwise.imp (fun {x y} hxy e=>hxy (by rw [e];exact ⟨rfl,rfl⟩)) h
end Go.Proofs.YtiilicnmcpjmkaaGreatDoor.Vm
namespace Go.Proofs.YtiilicnmcpjmkaaGreatDoor.Vm
open Go
set_option linter.unusedVariables false
set_option linter.unusedSimpArgs false
set_option maxRecDepth 100000
attribute [-simp] List.getD_eq_getElem?_getD
def ddI (n:Int):List UInt8:=Lib.decDigits n.toNat
def lnB (e:En):List UInt8:=ddI e.p++32 :: (ddI e.s++32 :: (ddI e.a++32 :: (ddI e.b++32 :: (ddI e.c++32 :: e.t.data.toList))))
def lnE (e:En):List UInt8:=lnB e++[10]
def wrM (m:List En):List UInt8:=m.flatMap lnE
def srtE (c:List En):List En:=pickO c (ordR c)
def wrE (c:List En):List UInt8:=wrM (srtE c)
theorem wrM_app {m k:List En}:wrM (m++k)=wrM m++wrM k:=by simp [wrM]
theorem wrM_one {e:En}:wrM [e]=lnE e:=by simp [wrM]
structure GoodE (e:En):Prop where
  p:0≤e.p∧e.p≤2
  s:0≤e.s∧e.s≤60
  a:0≤e.a∧e.a≤60
  b:0≤e.b∧e.b≤60
  c:0≤e.c∧e.c≤60
  t:rightB e.t=true
theorem val_good {c:List En}(h:valE c=0){x:En}(hx:x∈c):GoodE x:=by
  obtain ⟨⟨h1,h2⟩,h3,_,h4,_⟩:=val_mem h hx
  have hl:=valE_small h
  rw [rang_iff] at h4
  have k:∀q,(cntE c q c.length:Int)≤60:=fun q=>by have:=@cntE_le c q c.length;omega
  have k0:=k 0;have k1:=k 1;have k2:=k 2;have k3:=k x.p
  exact ⟨h1,by omega,by omega,by omega,by omega,h2⟩
theorem right_no10 {s:ByteArray}(h:rightB s=true):(10:UInt8)∉s.data.toList:=by
  intro hm
  obtain ⟨i,hi,e⟩:=List.getElem_of_mem hm
  simp only [rightB,Bool.and_eq_true] at h
  have hs:i<s.size:=by rw [ba_len] at hi;exact hi
  have:=allN_at h.2 hs
  simp only [byB,decide_eq_true_eq] at this
  have this:=this.1
  unfold chT at this
  have e2:s.data.getD i 0=10:=by
    have:i<s.data.size:=hs
    rw [Array.getD_eq_getD_getElem?,Array.getElem?_eq_getElem this]
    simpa using e
  rw [e2] at this
  exact absurd this (by decide)
theorem dd_no {n:Nat}{b:UInt8}(h:b=10∨b=32):b∉Lib.decDigits n:=dg_not fun hd=>by
  unfold isDg at hd
  rcases h with rfl | rfl
  · exact absurd hd.1 (by decide)
  · exact absurd hd.1 (by decide)
theorem lnB_no10 {e:En}(h:GoodE e):(10:UInt8)∉lnB e:=by
  have hd:∀n:Int,(10:UInt8)∉ddI n:=fun n=>dd_no (Or.inl rfl)
  have h32:¬(10:UInt8)=32:=by decide
  simp only [lnB,List.mem_append,List.mem_cons,hd,h32,false_or]
  exact right_no10 h.t
def EndL (l:List UInt8):Prop:=l=[]∨∃m,l=m++[10]
theorem wrM_end:∀m:List En,EndL (wrM m):=fun m=>by
  rcases List.eq_nil_or_concat m with rfl | ⟨k,e,rfl⟩
  · exact Or.inl rfl
  · right;exact ⟨wrM k++lnB e,by rw [List.concat_eq_append,wrM_app,wrM_one,lnE,List.append_assoc]⟩
theorem last_line {A X l b:List UInt8} (hA:EndL A) (hX:EndL X) (hl:(10:UInt8)∉l) (hb:(10:UInt8)∉b) (h:A++(l++[10])=X++(b++[10])):A=X∧l=b:=by
  have h1:A++l=X++b:=by
    have:=congrArg List.dropLast h
    rw [←List.append_assoc,←List.append_assoc,List.dropLast_concat,List.dropLast_concat] at this
    exact this
  have key:∀{A X l b:List UInt8},EndL A→(10:UInt8)∉b→A++l=X++b→X.length≤A.length→A=X∧l=b:=by
    intro A X l b hA hb h hlen
    obtain ⟨Y,rfl⟩:∃Y,A=X++Y:=by
      have:X <+: A++l:=⟨b,h.symm⟩
      obtain ⟨Y,hY⟩:=List.prefix_of_prefix_length_le this ⟨l,rfl⟩ hlen
      exact ⟨Y,hY.symm⟩
    rw [List.append_assoc] at h
    have h:=List.append_cancel_left h
    rcases List.eq_nil_or_concat Y with rfl | ⟨k,y,rfl⟩
    · exact ⟨by simp,by simpa using h⟩
    · exfalso
      rw [List.concat_eq_append] at h hA
      rcases hA with e | ⟨m,e⟩
      · simp at e
      · rw [←List.append_assoc] at e
        have:=List.append_inj_right' e rfl
        simp only [List.cons.injEq,and_true] at this
        subst this
        exact hb (by rw [←h];simp)
  rcases Nat.le_total X.length A.length with hle | hle
  · exact key hA hb h1 hle
  · obtain ⟨e1,e2⟩:=key hX hl h1.symm hle
    exact ⟨e1.symm,e2.symm⟩
def ltE (x y:En):Prop:=ageE x<ageE y∨(ageE x=ageE y∧x.p<y.p)
theorem srt_perm {c:List En}(h:valE c=0):(srtE c).Perm c:=by
  have:=(ordR_perm h).map fun i:Int=>c.getD i.toNat default
  have e:=pick_id (c:=c) (Nat.le_refl _)
  rw [List.take_length] at e
  unfold pickO at e
  unfold srtE pickO
  rw [e] at this
  exact this
theorem srt_sort {c:List En}(h:valE c=0):(srtE c).Pairwise ltE:=by
  have e:ordR c=ordN c 181:=by simp [ordR,h]
  unfold srtE pickO
  rw [e,List.pairwise_map]
  exact (ordN_sort h).imp fun {x y} hxy=>hxy
theorem ltE_asy {x y:En}(h:ltE x y):¬ltE y x:=by unfold ltE at *;omega
theorem srt_uniq {c m:List En}(h:valE c=0)(hp:m.Perm c)(hs:m.Pairwise ltE):srtE c=m :=
  ((srt_perm h).trans hp.symm).eq_of_pairwise (le:=ltE) (fun a b _ _ h1 h2=>absurd h2 (ltE_asy h1)) (srt_sort h) hs
theorem wr_nil:wrE []=[]:=by
  have:srtE []=[]:=by
    have h:valE []=0:=by decide
    exact List.Perm.eq_nil (srt_perm h)
  rw [wrE,this];rfl
def OkL (c:List En)(l:List UInt8)(d:List En):Prop:=(∃e,d.Perm (c++[e])∧lnB e=l)∧valE d=0∧wrE d=wrE c++(l++[10])
theorem OkL.uniq {c d d':List En}{l:List UInt8}(inj:∀e e':En,GoodE e→GoodE e'→lnB e=lnB e'→e=e')(h:OkL c l d)(h':OkL c l d'):d=d':=by
  obtain ⟨⟨e,hp,hl⟩,hv,_⟩:=h
  obtain ⟨⟨e',hp',hl'⟩,hv',_⟩:=h'
  have g:=val_good hv (hp.mem_iff.2 (by simp:e∈c++[e]))
  have g':=val_good hv' (hp'.mem_iff.2 (by simp:e'∈c++[e']))
  have:=inj e e' g g' (hl.trans hl'.symm)
  subst this
  exact sort_uniq (hp.trans hp'.symm) (val_dist hv') (val_sorted hv') (val_sorted hv)
theorem last_entry {d X:List En}{l:List UInt8}(hv:valE d=0)(hl:(10:UInt8)∉l)(h:wrE d=wrE X++(l++[10])):∃e∈d,lnB e=l:=by
  rcases List.eq_nil_or_concat (srtE d) with e | ⟨k,x,e⟩
  · rw [wrE,e] at h
    have:=congrArg List.length h
    simp [wrM] at this
  · rw [List.concat_eq_append] at e
    rw [wrE,e,wrM_app,wrM_one,lnE] at h
    have hx:x∈d:=(srt_perm hv).mem_iff.1 (by rw [e];simp)
    obtain ⟨_,h2⟩:=last_line (wrM_end k) (wrM_end _) (lnB_no10 (val_good hv hx)) hl h
    exact ⟨x,hx,h2⟩
theorem ok_read {c d:List En}{e:En}{l:List UInt8}(rd:∀e',GoodE e'→lnB e'=l→e'=e)(hl:(10:UInt8)∉l)(hp:d.Perm (c++[e]))(hv:valE d=0)(hw:wrE d=wrE c++(l++[10])):OkL c l d:=by
  obtain ⟨x,hx,e1⟩:=last_entry hv hl hw
  have:=rd x (val_good hv hx) e1
  subst this
  exact ⟨⟨x,hp,e1⟩,hv,hw⟩
inductive Rd:List En→List UInt8→List En→List UInt8→Prop
  | stop {c:List En} {rest:List UInt8}:(∀l q d,rest=l++10 :: q→(10:UInt8)∉l→¬OkL c l d)→Rd c rest c rest
  | step {c d c':List En} {l q r':List UInt8}:(10:UInt8)∉l→OkL c l d→Rd d q c' r'→Rd c (l++10 :: q) c' r'
theorem ixc_pre {c:UInt8}:∀{l r:List UInt8},c∉l→Lib.indexByte (l++c :: r) c=l.length
  | [],r,_=>by simp [Lib.indexByte]
  | b :: l,r,h=>by
    have h1:¬b=c:=fun e=>h (by simp [e])
    have h2:=ixc_pre (l:=l) (r:=r) fun e=>h (List.mem_cons_of_mem _ e)
    simp only [List.cons_append,Lib.indexByte,h2]
    rw [if_neg (by simpa using h1),if_neg (by simp)]
    simp
theorem line_uniq {l l' q q':List UInt8}(hl:(10:UInt8)∉l)(hl':(10:UInt8)∉l')(h:l++10 :: q=l'++10 :: q'):l=l'∧q=q':=by
  have e1:=ixc_pre hl (r:=q)
  have e2:=ixc_pre hl' (r:=q')
  rw [h,e2] at e1
  have:l'.length=l.length:=by exact_mod_cast e1
  obtain ⟨a,b⟩:=List.append_inj h this.symm
  exact ⟨a,by simpa using b⟩
theorem blank_uniq {l l' q q':List UInt8}(hl:(32:UInt8)∉l)(hl':(32:UInt8)∉l')(h:l++32 :: q=l'++32 :: q'):l=l'∧q=q':=by
  have e1:=ixc_pre hl (r:=q)
  have e2:=ixc_pre hl' (r:=q')
  rw [h,e2] at e1
  have:l'.length=l.length:=by exact_mod_cast e1
  obtain ⟨a,b⟩:=List.append_inj h this.symm
  exact ⟨a,by simpa using b⟩
theorem ddI_inj {a b:Int}(ha:0≤a∧a≤60)(hb:0≤b∧b≤60)(h:ddI a=ddI b):a=b:=by
  have:=dd_inj (by omega) (by omega) h
  omega
theorem lnB_inj {e e':En}(g:GoodE e)(g':GoodE e')(h:lnB e=lnB e'):e=e':=by
  have n:∀x:Int,(32:UInt8)∉ddI x:=fun x=>dd_no (Or.inr rfl)
  unfold lnB at h
  obtain ⟨h1,h⟩:=blank_uniq (n _) (n _) h
  obtain ⟨h2,h⟩:=blank_uniq (n _) (n _) h
  obtain ⟨h3,h⟩:=blank_uniq (n _) (n _) h
  obtain ⟨h4,h⟩:=blank_uniq (n _) (n _) h
  obtain ⟨h5,h⟩:=blank_uniq (n _) (n _) h
  exact en_ext (ddI_inj (by have:=g.p;omega) (by have:=g'.p;omega) h1) (ddI_inj g.s g'.s h2) (ddI_inj g.a g'.a h3) (ddI_inj g.b g'.b h4) (ddI_inj g.c g'.c h5) (ba_ext h)
theorem Rd.det {c c1 c2:List En}{rest r1 r2:List UInt8}(h:Rd c rest c1 r1):Rd c rest c2 r2→c1=c2∧r1=r2:=by
  induction h with
  | stop hs =>
    intro h2
    cases h2 with
    | stop _=>exact ⟨rfl,rfl⟩
    | step h3 h4 h5=>exact absurd h4 (hs _ _ _ rfl h3)
  | step h3 h4 h5 ih =>
    intro h2
    rename_i c d c' l q r'
    generalize he:l++10 :: q=rest' at h2
    cases h2 with
    | stop hs=>exact absurd h4 (hs _ _ _ he.symm h3)
    | step k3 k4 k5 =>
      obtain ⟨rfl,rfl⟩:=line_uniq h3 k3 he
      have:=h4.uniq (fun e e' g g'=>lnB_inj g g') k4
      subst this
      exact ih k5
theorem Rd.sound {c c':List En}{rest r':List UInt8}(h:Rd c rest c' r')(hv:valE c=0):valE c'=0∧wrE c'++r'=wrE c++rest∧c.length≤c'.length:=by
  induction h with
  | stop _=>exact ⟨hv,rfl,Nat.le_refl _⟩
  | step h3 h4 h5 ih =>
    obtain ⟨⟨e,hp,_⟩,hv2,hw⟩:=h4
    obtain ⟨i1,i2,i3⟩:=ih hv2
    refine ⟨i1,?_,?_⟩
    · rw [i2,hw];simp
    · have:=hp.length_eq;simp at this;omega
open Classical in
theorem rd_ex:∀(n:Nat) (c:List En) (rest:List UInt8),rest.length=n→∃c' r',Rd c rest c' r':=by
  intro n
  induction n using Nat.strongRecOn with
  | _ n ih =>
    intro c rest hn
    by_cases h:∃l q d,rest=l++10 :: q∧(10:UInt8)∉l∧OkL c l d
    · obtain ⟨l,q,d,rfl,h1,h2⟩:=h
      obtain ⟨c',r',h3⟩:=ih q.length (by rw [←hn];simp;omega) d q rfl
      exact ⟨c',r',.step h1 h2 h3⟩
    · exact ⟨c,rest,.stop fun l q d e h1 h2=>h ⟨l,q,d,e,h1,h2⟩⟩
theorem stop_no10 {c:List En}{r:List UInt8}(h:(10:UInt8)∉r):Rd c r c r:=.stop fun l q d e _ _=>h (by rw [e];simp)
section
open Classical
variable {c:List En}
theorem mem_take {m:List En}(hs:m.Pairwise ltE){k:Nat}{x y:En}(hx:x∈m.take k)(hy:y∈m)(h:ageE y<ageE x):y∈m.take k:=by
  obtain ⟨i,hi,rfl⟩:=List.getElem_of_mem hx
  obtain ⟨j,hj,rfl⟩:=List.getElem_of_mem hy
  simp only [List.getElem_take] at h ⊢
  have hik:i<k:=by simp at hi;omega
  have him:i<m.length:=by simp at hi;omega
  have hji:j<i:=by
    rcases Nat.lt_trichotomy j i with h1 | h1 | h1
    · exact h1
    · subst h1;omega
    · have:=List.pairwise_iff_getElem.1 hs i j him hj h1
      unfold ltE at this;omega
  exact List.mem_iff_getElem.2 ⟨j,by simp;omega,by simp⟩
noncomputable def begC (c:List En)(k:Nat):List En:=c.filter fun x=>decide (x∈(srtE c).take k)
theorem begC_mem (h:valE c=0){k:Nat}{x:En}:x∈begC c k↔x∈(srtE c).take k:=by
  unfold begC
  rw [List.mem_filter,decide_eq_true_eq]
  exact ⟨fun h=>h.2,fun h2=>⟨(srt_perm h).mem_iff.1 (List.mem_of_mem_take h2),h2⟩⟩
theorem srt_nodup (h:valE c=0):(srtE c).Nodup:=(srt_perm h).symm.nodup (dist_nodup (val_dist h))
theorem begC_nodup (h:valE c=0){k:Nat}:(begC c k).Nodup:=(dist_nodup (val_dist h)).sublist List.filter_sublist
theorem begC_perm (h:valE c=0){k:Nat}:(begC c k).Perm ((srtE c).take k) :=
  (List.perm_ext_iff_of_nodup (begC_nodup h) ((srt_nodup h).sublist (List.take_sublist _ _))).2 fun x=>begC_mem h
theorem sees_ageM (h:valE c=0){x y:En}(hx:x∈c)(hy:y∈c)(hs:seesB x y=true):ageE y<ageE x:=by
  obtain ⟨i,hi,rfl⟩:=mem_getD hx
  obtain ⟨j,hj,rfl⟩:=mem_getD hy
  exact sees_age h hi hj hs
theorem begC_val (h:valE c=0){k:Nat}:valE (begC c k)=0:=by
  have sub:(begC c k).Sublist c:=List.filter_sublist
  have mem:∀{x},x∈begC c k→x∈c:=fun hx=>sub.subset hx
  have down:∀{x y},x∈begC c k→y∈c→seesB x y=true→y∈begC c k:=fun {x y} hx hy hs=>by
    rw [begC_mem h] at hx ⊢
    have hxc:=(srt_perm h).mem_iff.1 (List.mem_of_mem_take hx)
    exact mem_take (srt_sort h) hx ((srt_perm h).mem_iff.2 hy) (sees_ageM h hxc hy hs)
  have pw:c.Pairwise (leC cfE):=List.pairwise_iff_getElem.2 fun i j hi hj hij=>by
    have:=val_sorted h i j (Nat.zero_le _) hij hj
    rwa [getD_of hi,getD_of hj] at this
  have hs:SortR cfE 0 (begC c k).length (begC c k):=pw_sort (pw.sublist sub)
  have hd:Dist (begC c k):=List.Pairwise.sublist sub (val_dist h)
  have sees:∀{x y:En},x∈c→y.p=x.p→y.s<x.s→seesB x y=true:=fun {x y} hx hp hlt=>by
    have hv:=(val_mem h hx).2.2.1
    simp only [selfB,decide_eq_true_eq] at hv
    simp only [seesB,decide_eq_true_eq,hp]
    omega
  have h4:∀x∈begC c k,1≤x.s∧∀s',1≤s'→s'<x.s→∃y∈begC c k,y.p=x.p∧y.s=s':=fun x hx=>by
    have hxc:=mem hx
    have hv:=(val_mem h hxc).2.1
    refine ⟨hv.1,fun s' h1 h2 => ?_⟩
    obtain ⟨y,hy,e1,e2⟩:=val_has h (q:=x.p) (Nat.le_refl _) s' h1 (by omega)
    exact ⟨y,down hx hy (sees hxc e1 (by omega)),e1,e2⟩
  have top:∀x∈begC c k,x.s≤cntE (begC c k) x.p (begC c k).length:=fun x hx=>by
    obtain ⟨i,hi,rfl⟩:=mem_getD hx
    have h1:=(h4 _ hx).1
    have:=num_of hs hd h4 ((begC c k).getD i default).s.toNat hi (by omega)
    have m:=@cntE_mono (begC c k) ((begC c k).getD i default).p (i+1) (begC c k).length hi
    simp only [cntE,if_true] at m
    omega
  have cq:∀x∈begC c k,∀q:Int,0≤q∧q≤2→x.at q.toNat≤cntE c q c.length→x.at q.toNat≤cntE (begC c k) q (begC c k).length:=fun x hx q hq hle=>by
    by_cases e:x.at q.toNat≤0
    · have:=@cntE_mono (begC c k) q 0 (begC c k).length (Nat.zero_le _)
      simp only [cntE] at this
      omega
    · obtain ⟨y,hy,e1,e2⟩:=val_has h (q:=q) (Nat.le_refl _) (x.at q.toNat) (by omega) hle
      have hyb:=down hx hy (by simp only [seesB,decide_eq_true_eq,e1];omega)
      have:=top y hyb
      rw [e1,e2] at this
      exact this
  refine val_of (Nat.le_trans sub.length_le (valE_small h)) hs hd (fun x hx=>(val_mem h (mem hx)).1) h4 fun x hx => ?_
  obtain ⟨_,_,v3,v4,v5⟩:=val_mem h (mem hx)
  refine ⟨v3,?_,fun y hy=>v5 y (mem hy)⟩
  rw [rang_iff] at v4 ⊢
  have c0:=cq x hx 0 (by omega)
  have c1:=cq x hx 1 (by omega)
  have c2:=cq x hx 2 (by omega)
  have a0:x.at (0:Int).toNat=x.a:=rfl
  have a1:x.at (1:Int).toNat=x.b:=rfl
  have a2:x.at (2:Int).toNat=x.c:=rfl
  rw [a0] at c0;rw [a1] at c1;rw [a2] at c2
  exact ⟨⟨v4.1.1,c0 v4.1.2⟩,⟨v4.2.1.1,c1 v4.2.1.2⟩,⟨v4.2.2.1,c2 v4.2.2.2⟩⟩
theorem begC_srt (h:valE c=0){k:Nat}:srtE (begC c k)=(srtE c).take k :=
  srt_uniq (begC_val h) (begC_perm h).symm ((srt_sort h).sublist (List.take_sublist _ _))
theorem begC_ok (h:valE c=0){k:Nat}(hk:k<(srtE c).length):OkL (begC c k) (lnB (srtE c)[k]) (begC c (k+1)):=by
  have e:=List.take_succ_eq_append_getElem hk
  refine ⟨⟨_,?_,rfl⟩,begC_val h,?_⟩
  · refine (begC_perm h).trans ?_
    rw [e]
    exact (begC_perm h).symm.append_right _
  · rw [wrE,wrE,begC_srt h,begC_srt h,e,wrM_app,wrM_one,lnE]
theorem begC_zero:begC c 0=[]:=by unfold begC;simp
theorem rd_from (h:valE c=0){k:Nat}{r:List UInt8}{c':List En}{r':List UInt8}(hend:Rd (begC c k) r c' r')(hk:k≤(srtE c).length):∀(n j:Nat),n=k-j→j≤k→Rd (begC c j) (wrM (((srtE c).take k).drop j)++r) c' r'
  | 0,j,hn,hj=>by
    have:j=k:=by omega
    subst this
    rw [List.drop_of_length_le (by simp;omega)]
    exact hend
  | n + 1,j,hn,hj=>by
    have hjk:j<((srtE c).take k).length:=by simp;omega
    rw [List.drop_eq_getElem_cons hjk]
    have e:wrM (((srtE c).take k)[j] :: ((srtE c).take k).drop (j+1))++r=lnB ((srtE c).take k)[j]++10 :: (wrM (((srtE c).take k).drop (j+1))++r):=by
      simp [wrM,lnE]
    rw [e]
    have hm:((srtE c).take k)[j]=(srtE c)[j]'(by omega):=List.getElem_take
    rw [hm]
    have hx:(srtE c)[j]'(by omega)∈c:=(srt_perm h).mem_iff.1 (List.getElem_mem _)
    exact .step (lnB_no10 (val_good h hx)) (begC_ok h (by omega)) (rd_from h hend hk n (j+1) (by omega) (by omega))
theorem torn {m:List En}(hg:∀x∈m,GoodE x):∀{n:Nat},n≤(wrM m).length→∃k r,k≤m.length∧(wrM m).take n=wrM (m.take k)++r∧(10:UInt8)∉r:=by
  induction m with
  | nil=>intro n _;exact ⟨0,[],by simp,by simp [wrM],by simp⟩
  | cons x m ih =>
    intro n hn
    have e:wrM (x :: m)=lnE x++wrM m:=by simp [wrM]
    rw [e] at hn ⊢
    have h0:=lnB_no10 (hg x (by simp))
    have hle:(lnE x).length=(lnB x).length+1:=by simp [lnE]
    by_cases hx:n<(lnE x).length
    · refine ⟨0,(lnE x++wrM m).take n,by simp,by simp [wrM],?_⟩
      rw [List.take_append_of_le_length (by omega),lnE,List.take_append_of_le_length (by omega)]
      exact fun hm=>h0 (List.mem_of_mem_take hm)
    · obtain ⟨k,r,h1,h2,h3⟩:=ih (fun y hy=>hg y (by simp [hy])) (n:=n-(lnE x).length) (by simp at hn;omega)
      refine ⟨k+1,r,by simp;omega,?_,h3⟩
      rw [List.take_append,List.take_of_length_le (by omega),h2,List.take_succ_cons]
      simp [wrM]
theorem rd_torn (h:valE c=0){n:Nat}(hn:n≤(wrE c).length):∃k r,k≤(srtE c).length∧(wrE c).take n=wrM ((srtE c).take k)++r∧Rd [] ((wrE c).take n) (begC c k) r ∧
    ∀behind y left,Rd [] ((wrE c).take n++behind) y left→(begC c k).length≤y.length:=by
  obtain ⟨k,r,h1,h2,h3⟩:=torn (m:=srtE c) (fun x hx=>val_good h ((srt_perm h).mem_iff.1 hx)) (n:=n) hn
  have go:=fun {r c' r'} (he:Rd (begC c k) r c' r')=>rd_from h he h1 _ 0 rfl (Nat.zero_le _)
  rw [List.drop_zero,begC_zero] at go
  unfold wrE
  refine ⟨k,r,h1,h2,by rw [h2];exact go (stop_no10 h3),fun behind y left hy => ?_⟩
  rw [h2,List.append_assoc] at hy
  obtain ⟨y',l',hz⟩:∃y' l',Rd (begC c k) (r++behind) y' l':=rd_ex _ (begC c k) (r++behind) rfl
  obtain ⟨rfl,rfl⟩:=(go hz).det hy
  exact (hz.sound (begC_val h)).2.2
theorem beg_merge (h:valE c=0){k:Nat}:merE (begC c k) c=0∧mgL (begC c k) c 3=c∧merE c (begC c k)=0∧mgL c (begC c k) 3=c:=by
  have hv:=begC_val h (k:=k)
  have hsub:∀x∈begC c k,x∈c:=fun x hx=>(List.filter_sublist (l:=c)).subset hx
  have hc:cmpE (begC c k) c=0:=cmp_iff.2 ⟨hv,h,fun x hx y hy e1 e2=>(val_dist h).eq (hsub x hx) hy e1 e2⟩
  have hc2:=cmp_symm hc
  have e:mgL (begC c k) c 3=c:=same_of (val_dist h) (mg_dist hc) (val_sorted h) (mg_sorted hc) fun x=>by
    rw [mg_iff hc];exact ⟨fun h=>h.elim (hsub x) id,Or.inr⟩
  have e2:mgL c (begC c k) 3=c:=(mg_symm hc).trans e
  have hl:=valE_small h
  exact ⟨mer_iff.2 ⟨hc,by rw [e];exact hl⟩,e,mer_iff.2 ⟨hc2,by rw [e2];exact hl⟩,e2⟩
end
end Go.Proofs.YtiilicnmcpjmkaaGreatDoor.Vm
namespace Go.Proofs.YtiilicnmcpjmkaaGreatDoor.Vm
open Go
set_option linter.unusedVariables false
set_option linter.unusedSimpArgs false
set_option maxRecDepth 100000
attribute [-simp] List.getD_eq_getElem?_getD
def spl (k:Nat)(s:List UInt8):List (List UInt8):=Lib.splitK [32] 0 k s
theorem spl_zero {s:List UInt8}:spl 0 s=[s]:=rfl
theorem spl_hit {k:Nat}{p q:List UInt8}(h:(32:UInt8)∉p):spl (k+1) (p++32 :: q)=p :: spl k q:=by
  have hi:Lib.index (p++32 :: q) [32]=p.length:=by rw [Lib.index_one];exact ixc_pre h
  unfold spl
  rw [Lib.splitK,hi]
  have e:(((p.length:Nat):Int) == -1)=false:=by simp
  rw [e]
  simp
def wd6 (l:List UInt8):List (List UInt8):=spl (min 6 (l.length+1)-1) l
theorem wd6_ln (e:En):wd6 (lnB e)=[ddI e.p,ddI e.s,ddI e.a,ddI e.b,ddI e.c,e.t.data.toList]:=by
  have n:∀x:Int,(32:UInt8)∉ddI x:=fun x=>dd_no (Or.inr rfl)
  have hl:5≤(lnB e).length:=by simp [lnB];omega
  have hk:min 6 ((lnB e).length+1)-1=5:=by omega
  unfold wd6
  rw [hk,lnB,spl_hit (n _),spl_hit (n _),spl_hit (n _),spl_hit (n _),spl_hit (n _),spl_zero]
theorem atoi_ddI {x:Int}(h:0≤x∧x≤60):Lib.atoiAll (ddI x)=.ok x:=by
  unfold ddI
  rw [atoi_dd (by omega)]
  congr 1;omega
def NumW (w:List UInt8)(x:Int):Prop:=∀n,Lib.atoiAll w=.ok n→x=n
theorem read6 {l:List UInt8}{x0 x1 x2 x3 x4:Int}{t:ByteArray}{w0 w1 w2 w3 w4 w5:List UInt8}(hw:wd6 l=[w0,w1,w2,w3,w4,w5])(h0:NumW w0 x0)(h1:NumW w1 x1)(h2:NumW w2 x2)(h3:NumW w3 x3)(h4:NumW w4 x4)(ht:t.data.toList=w5)
    (e':En) (g:GoodE e') (hl:lnB e'=l):e'=⟨x0,x1,x2,x3,x4,t⟩:=by
  have:=wd6_ln e'
  rw [hl,hw] at this
  simp only [List.cons.injEq,and_true] at this
  obtain ⟨e0,e1,e2,e3,e4,e5⟩:=this
  exact en_ext (h0 _ (by rw [e0];exact atoi_ddI (by have:=g.p;omega))).symm (h1 _ (by rw [e1];exact atoi_ddI g.s)).symm (h2 _ (by rw [e2];exact atoi_ddI g.a)).symm (h3 _ (by rw [e3];exact atoi_ddI g.b)).symm (h4 _ (by rw [e4];exact atoi_ddI g.c)).symm (ba_ext (by rw [ht,e5])).symm
theorem short6 {l:List UInt8}(h:(wd6 l).length<6)(e':En):lnB e'≠l:=fun hl=>by
  rw [←hl,wd6_ln] at h;simp at h
theorem spl_len:∀{k:Nat} {s:List UInt8},(spl k s).length≤k+1
  | 0,s=>by simp [spl_zero]
  | k + 1,s=>by
    unfold spl
    rw [Lib.splitK]
    split
    · simp
    · have:=@spl_len k (s.drop ((Lib.index s [32]).toNat+[(32:UInt8)].length))
      unfold spl at this
      simp at this ⊢;omega
theorem spl_parts:∀{k:Nat} {s:List UInt8},∀w∈spl k s,w.length≤s.length
  | 0,s=>by simp [spl_zero]
  | k + 1,s=>by
    intro w hw
    unfold spl at hw
    rw [Lib.splitK] at hw
    split at hw
    · simp at hw;rw [hw];exact Nat.le_refl _
    · simp only [List.mem_cons] at hw
      rcases hw with rfl | hw
      · simp;omega
      · have:=@spl_parts k _ w hw
        simp at this;omega
def smP (l:List UInt8):Option (Nat×List UInt8):=match l with
  | []=>none
  | _=>let i:=Lib.indexByte l 32
    if 1≤i∧i≤3∧(l.take i.toNat).all dgB=true then some (valD (l.take i.toNat),l.drop (i.toNat+1)) else none
end Go.Proofs.YtiilicnmcpjmkaaGreatDoor.Vm
namespace Go.Proofs.YtiilicnmcpjmkaaGreatDoor.Vm
open Go
set_option linter.unusedVariables false
set_option linter.unusedSimpArgs false
set_option maxRecDepth 100000
attribute [-simp] List.getD_eq_getElem?_getD
theorem iz5:ints (zs 5)=[.int .i64 0,.int .i64 0,.int .i64 0,.int .i64 0,.int .i64 0]:=Eq.trans rfl rfl
def nE (e:En):List Int:=[e.p,e.s,e.a,e.b,e.c]
def preE (e:En)(j:Nat):List UInt8:=((nE e).take j).flatMap fun x=>ddI x++[32]
theorem preE_succ {e:En}{j:Nat}(h:j<5):preE e (j+1)=preE e j++(ddI ((nE e).getD j 0)++[32]):=by
  have hl:j<(nE e).length:=by simp [nE];omega
  unfold preE
  rw [List.take_succ_eq_append_getElem hl,List.flatMap_append,List.getD_eq_getElem?_getD,List.getElem?_eq_getElem hl]
  simp
theorem preE_all {e:En}:preE e 5++(e.t.data.toList++[10])=lnE e:=by
  simp [preE,nE,lnE,lnB]
theorem nE_at {e:En}(g:GoodE e){j:Nat}(h:j<5):0≤(nE e).getD j 0∧(nE e).getD j 0≤60:=by
  have:=g.p;have:=g.s;have:=g.a;have:=g.b;have:=g.c
  rcases (show j=0∨j=1∨j=2∨j=3∨j=4 by omega) with rfl | rfl | rfl | rfl | rfl<;>simp [nE,List.getD_eq_getElem?_getD]<;>omega
theorem ddI_len {x:Int}(h:0≤x∧x≤60):(ddI x).length≤2:=dd_len 1 x.toNat (by omega)
theorem preE_len {e:En}(g:GoodE e):∀{j:Nat},j≤5→(preE e j).length≤3*j
  | 0,_=>by simp [preE]
  | j+1,h=>by
    rw [preE_succ (by omega)]
    have:=preE_len g (j:=j) (by omega)
    have:=ddI_len (nE_at g (j:=j) (by omega))
    simp;omega
theorem right_size {s:ByteArray}(h:rightB s=true):s.size≤60:=by
  simp only [rightB,Bool.and_eq_true,decide_eq_true_eq] at h;exact h.1.1.1.2
theorem lnE_len {e:En}(g:GoodE e):(lnE e).length≤76:=by
  rw [←preE_all]
  have:=preE_len g (j:=5) (by omega)
  have:=right_size g.t
  simp only [List.length_append,ba_len,List.length_cons,List.length_nil];omega
theorem wrM_len:∀{m:List En},(∀e∈m,GoodE e)→(wrM m).length≤76*m.length
  | [],_=>by simp [wrM]
  | e :: m,h=>by
    have:=wrM_len (m:=m) fun x hx=>h x (by simp [hx])
    have:=lnE_len (h e (by simp))
    simp [wrM] at *;omega
theorem srt_good {c:List En}(h:valE c=0):∀e∈srtE c,GoodE e:=fun e he=>val_good h ((srt_perm h).mem_iff.1 he)
theorem ord_cell {c:List En}(hv:valE c=0){i:Nat}(hi:i<(ordR c).length):∃m:Nat,(ordR c).getD i 0=m∧m<c.length∧(srtE c)[i]? = some (c.getD m default):=by
  have hm:(ordR c).getD i 0∈ordR c:=by
    rw [List.getD_eq_getElem?_getD,List.getElem?_eq_getElem hi]
    exact List.getElem_mem hi
  have e:ordR c=ordN c 181:=by simp [ordR,hv]
  have h2:(srtE c)[i]? = some (c.getD ((ordR c).getD i 0).toNat default):=by
    unfold srtE pickO
    rw [List.getElem?_map,List.getD_eq_getElem?_getD (l:=ordR c),List.getElem?_eq_getElem hi];rfl
  generalize (ordR c).getD i 0=x at *
  rw [e] at hm
  obtain ⟨m,h1,h3,_⟩:=ordN_mem.1 hm
  refine ⟨m,h1,h3,?_⟩
  rw [h2,h1,Int.toNat_natCast]
theorem wr_succ {c:List En}{i:Nat}{x:En}(h:(srtE c)[i]? = some x):wrM ((srtE c).take (i+1))=wrM ((srtE c).take i)++lnE x:=by
  obtain ⟨hi,e⟩:=List.getElem?_eq_some_iff.1 h
  rw [List.take_succ_eq_append_getElem hi,wrM_app,wrM_one,e]
theorem wr_inv {c:List En}(h:valE c≠0):wrE c=[]:=by
  have e:ordR c=[]:=by simp [ordR,h]
  simp [wrE,srtE,pickO,e,wrM]
theorem srt_len {c:List En}:(srtE c).length=(ordR c).length:=by simp [srtE,pickO]
section
variable {lim:Nat}{H:Hp}{K:V→Hp→Prop}{v:V}{c:List En}
set_option maxHeartbeats 1000000
theorem card_Write (hg:HX glHp H) (hc:LstV enC H v c) (hsh:shortC c) (hlim:lim≤H.length)
    (hK:∀H',HX H H'→K (.tup [.str (bA (wrE c)),.int .i64 (valE c)]) H'):VCall tbl lim 9 [v] H K:=by
  refine VCall_fn tbl_at9 rfl ?_
  simp [vf9,hc.stor]
  refine card_Order hc hsh (by omega) fun H1 w x1 ho => ?_
  by_cases hv:valE c=0
  case neg =>
    rw [wr_inv hv] at hK
    simp [hv]
    exact hK _ x1
  have hos:=ho.sl
  have hol:=hos.len
  have hst:=hos.stor
  have hcell:∀i,i<(ordR c).length→_:=fun i hi=>ord_cell hv hi
  have hll:(ordR c).length≤60:=by
    have:=(ordR_perm hv).length_eq
    rw [idL_len] at this
    have:=valE_small hv
    omega
  have hsl:=srt_len (c:=c)
  have hgd:=srt_good hv
  have hwl:∀i,(wrM ((srtE c).take i)).length≤76*i:=fun i=>by
    have:=wrM_len (m:=(srtE c).take i) fun e he=>hgd e (List.mem_of_mem_take he)
    have h2:((srtE c).take i).length≤i:=by simp;omega
    have:=Nat.mul_le_mul_left 76 h2
    omega
  have e0:(⟨#[]⟩:ByteArray)=bA (wrM ((srtE c).take 0)):=by simp [wrM,bA]
  simp [hv,hst,hol]
  refine wLoop_up (ordR c).length (fun i fr L H'=>(fr 0=v∧fr 19=w∧fr 20=.int .i64 (ordR c).length∧fr 21=.int .i64 i∧fr 6=.str (bA (wrM ((srtE c).take i))))∧HX H1 H') ⟨by simp [wrM,bA],HX.refl⟩ ?_
  rintro i hi fr L H' ⟨⟨f0,f19,f20,f21,f6⟩,x2⟩
  simp [f0,f19,f20,f21,f6]
  refine cond_dec (fun ht => ?_) fun hfl => ?_
  · have ht:i<(ordR c).length:=by omega
    obtain ⟨m,hm,hmc,hsr⟩:=hcell i ht
    have hc2:=hc.mono (x1.trans x2)
    have hos2:=hos.mono x2
    have a1:=hos2.addr (i:=(i:Int)) (by omega)
    have a2:=hos2.load ht (L:=L)
    rw [hm] at a2
    simp only [Int.toNat_natCast] at a1
    have gE:GoodE (c.getD m default):=hgd _ (List.mem_of_getElem? hsr)
    have hnx:=wr_succ hsr
    have hw0:=hwl i
    generalize hB:wrM ((srtE c).take i)=B at *
    generalize hE:c.getD m default=E at *
    simp (disch:=omega) [f0,f19,f20,f21,f6,a1,a2,hc2.at hmc,hc2.faddr hmc,hc2.faddr2 hmc,en_get hc2 hmc,iz5,splice,hE]
    refine wLoop_up 5 (fun j fr L H2=>(fr 0=v∧fr 8=.int .i64 m∧fr 19=w∧fr 20=.int .i64 (ordR c).length∧fr 21=.int .i64 i∧fr 53=.agg [.int .i64 E.p,.int .i64 E.s,.int .i64 E.a,.int .i64 E.b,.int .i64 E.c]∧fr 54=.int .i64 j∧fr 6=.str (bA (B++preE E j)))∧HX H1 H2) ⟨by simp [f0,f19,f20,f21,f6,preE],x2⟩ ?_
    clear f0 f19 f20 f21 f6 a1 a2 hos2 hc2 x2
    rintro j hj fr L H2 ⟨⟨f0,f8,f19,f20,f21,f53,f54,f6⟩,x2⟩
    have hc2:=hc.mono (x1.trans x2)
    simp [f0,f8,f19,f20,f21,f53,f54,f6]
    refine cond_dec (fun ht5 => ?_) fun hfl5 => ?_
    · have ht5:j<5:=by omega
      have ix:vidxA 5 1 none (.agg [.int .i64 E.p,.int .i64 E.s,.int .i64 E.a,.int .i64 E.b,.int .i64 E.c]) (.int .i64 (j:Int))=some (.int .i64 ((nE E).getD j 0)):=by
        rcases (show j=0∨j=1∨j=2∨j=3∨j=4 by omega) with rfl | rfl | rfl | rfl | rfl<;>rfl
      have hb:=nE_at gE ht5
      have hs:=preE_succ (e:=E) ht5
      have hpl:=preE_len gE (j:=j) (by omega)
      have hdl:=ddI_len hb
      obtain ⟨n,hn⟩:∃n:Nat,(nE E).getD j 0=n:=⟨((nE E).getD j 0).toNat,by omega⟩
      rw [hn] at ix hs hdl hb
      have ed:ddI (n:Int)=Lib.decDigits n:=by simp [ddI]
      rw [ed] at hs hdl
      have v1:vbin .add (.str (bA (Lib.decDigits n))) (.str (bA [32]))=_:=vadd_bA (by simp;omega)
      have v2:vbin .add (.str (bA (B++preE E j))) (.str (bA (Lib.decDigits n++[32])))=_:=vadd_bA (by simp;omega)
      rw [List.append_assoc,←hs] at v2
      simp (disch:=omega) [f0,f8,f19,f20,f21,f53,f54,f6,ix,-vidxA_in]
      refine itoa_t (hg.trans (x1.trans x2)) (by have:=(x1.trans x2).len;omega) (by omega) fun H3 x3 => ?_
      simp (disch:=omega) [f0,f8,f19,f20,f21,f53,f54,f6,bA1,v1,v2,wrap_i64]
      exact ⟨ht5,x2.trans x3⟩
    · have:j=5:=by omega
      subst this
      have hp5:=preE_len gE (j:=5) (by omega)
      have htz:=right_size gE.t
      have v1:vbin .add (.str E.t) (.str (bA [10]))=some (.str (bA (E.t.data.toList++[10]))):=by
        conv=>lhs;rw [←bA_list (s:=E.t)]
        exact vadd_bA (by rw [ba_len];simp;omega)
      have v2:vbin .add (.str (bA (B++preE E 5))) (.str (bA (E.t.data.toList++[10])))=_:=vadd_bA (by simp only [List.length_append,ba_len,List.length_cons,List.length_nil];omega)
      rw [List.append_assoc,preE_all,←hnx] at v2
      simp (disch:=omega) [f0,f8,f19,f20,f21,f53,f54,f6,hc2.at hmc,hc2.faddr hmc,en_get hc2 hmc,hE,bA1,v1,v2,wrap_i64]
      exact ⟨ht,x2⟩
  · have:i=(ordR c).length:=by omega
    subst this
    simp [f6]
    have e1:(srtE c).take (ordR c).length=srtE c:=List.take_of_length_le (by omega)
    rw [e1,hv.symm]
    exact hK _ (x1.trans x2)
end
end Go.Proofs.YtiilicnmcpjmkaaGreatDoor.Vm
namespace Go.Proofs.YtiilicnmcpjmkaaGreatDoor.Vm
open Go
set_option linter.unusedVariables false
set_option linter.unusedSimpArgs false
set_option maxRecDepth 100000
attribute [-simp] List.getD_eq_getElem?_getD
def qE (e:En)(j:Nat):List UInt8:=preE e j++ddI ((nE e).getD j 0)
section
variable {lim:Nat}{H:Hp}{K:V→Hp→Prop}{v:V}{c:List En}{e:En}
end
end Go.Proofs.YtiilicnmcpjmkaaGreatDoor.Vm
namespace Go.Proofs.YtiilicnmcpjmkaaGreatDoor.Vm
open Go
set_option linter.unusedVariables false
set_option linter.unusedSimpArgs false
set_option maxRecDepth 100000
attribute [-simp] List.getD_eq_getElem?_getD
def Stop (c:List En)(r:List UInt8):Prop:=∀l q d,r=l++10 :: q→(10:UInt8)∉l→¬OkL c l d
theorem rl_stop {c l':List En}{l q r:List UInt8}{e:En}(hr:r=l++10 :: q)(hl:(10:UInt8)∉l)(rd:∀e',GoodE e'→lnB e'=l→e'=e)(hu:∀d,valE d=0→d.Perm (c++[e])→d=l')(hno:¬(valE l'=0∧wrE l'=wrE c++(l++[10]))):Stop c r:=by
  intro l2 q2 d h2 hn ⟨⟨e',hp',hl'⟩,hv,hw⟩
  obtain ⟨rfl,rfl⟩:=line_uniq hl hn (hr.symm.trans h2)
  have g:=val_good hv (hp'.mem_iff.2 (by simp:e'∈c++[e']))
  have:=rd e' g hl'
  subst this
  have:=hu d hv hp'
  subst this
  exact hno ⟨hv,hw⟩
theorem rl_short {c:List En}{l q r:List UInt8}(hr:r=l++10 :: q)(hl:(10:UInt8)∉l)(h:∀e,GoodE e→lnB e≠l):Stop c r:=by
  intro l2 q2 d h2 hn ⟨⟨e',hp',hl'⟩,hv,hw⟩
  obtain ⟨rfl,rfl⟩:=line_uniq hl hn (hr.symm.trans h2)
  exact h e' (val_good hv (hp'.mem_iff.2 (by simp:e'∈c++[e']))) hl'
theorem rl_none {c:List En}{r:List UInt8}(h:(10:UInt8)∉r):Stop c r:=fun l q d e _ _=>h (by rw [e];simp)
def entG:Nat→List Nat→List UInt8→Option En
  | 0,ns,r=>some ⟨(ns.getD 0 0:Nat),(ns.getD 1 0:Nat),(ns.getD 2 0:Nat),(ns.getD 3 0:Nat),(ns.getD 4 0:Nat),bA r⟩
  | k+1,ns,r=>match smP r with
    | none=>none
    | some (n,r')=>entG k (ns++[n]) r'
def entP (l:List UInt8):Option En:=entG 5 [] l
def inL (c:List En)(e:En):Nat→List En
  | 0=>[]
  | p+1=>inL c e p++(ofP c p c.length++if (p:Int)=e.p then [e] else [])
end Go.Proofs.YtiilicnmcpjmkaaGreatDoor.Vm
namespace Go.Proofs.YtiilicnmcpjmkaaGreatDoor.Vm
open Go
set_option linter.unusedVariables false
set_option linter.unusedSimpArgs false
set_option maxRecDepth 100000
attribute [-simp] List.getD_eq_getElem?_getD
theorem rd5_0 {a b c d e:V}:rd none [a,b,c,d,e] 0=some a:=Eq.trans rfl rfl
theorem rd5_1 {a b c d e:V}:rd none [a,b,c,d,e] 1=some b:=Eq.trans rfl rfl
theorem rd5_2 {a b c d e:V}:rd none [a,b,c,d,e] 2=some c:=Eq.trans rfl rfl
theorem rd5_3 {a b c d e:V}:rd none [a,b,c,d,e] 3=some d:=Eq.trans rfl rfl
theorem rd5_4 {a b c d e:V}:rd none [a,b,c,d,e] 4=some e:=Eq.trans rfl rfl
theorem rdw_0 {a b c d e f:V}{R:List V}:rd none (a :: b :: c :: d :: e :: f :: R) 0=some a:=Eq.trans rfl rfl
theorem rdw_1 {a b c d e f:V}{R:List V}:rd none (a :: b :: c :: d :: e :: f :: R) 1=some b:=Eq.trans rfl rfl
theorem rdw_2 {a b c d e f:V}{R:List V}:rd none (a :: b :: c :: d :: e :: f :: R) 2=some c:=Eq.trans rfl rfl
theorem rdw_3 {a b c d e f:V}{R:List V}:rd none (a :: b :: c :: d :: e :: f :: R) 3=some d:=Eq.trans rfl rfl
theorem rdw_4 {a b c d e f:V}{R:List V}:rd none (a :: b :: c :: d :: e :: f :: R) 4=some e:=Eq.trans rfl rfl
theorem rdw_5 {a b c d e f:V}{R:List V}:rd none (a :: b :: c :: d :: e :: f :: R) 5=some f:=Eq.trans rfl rfl
attribute [simp] rd5_0 rd5_1 rd5_2 rd5_3 rd5_4 rdw_0 rdw_1 rdw_2 rdw_3 rdw_4 rdw_5
section
variable {lim:Nat}{H:Hp}{K:V→Hp→Prop}{v y:V}{s:ByteArray}{l q r:List UInt8}
theorem as_none (hK:K (.bool false) H):VCall tbl lim 26 [.inil,y] H K:=by
  refine VCall_fn tbl_at26 rfl ?_
  simp [vf26]
  exact hK
theorem as_q (hg:HX glHp H){b:Nat}:asQ [.iface 61 (.agg [.str s]),.iface 63 (.ptr b 0)] H=true:=by
  simp only [asQ,decide_eq_true_eq]
  refine ⟨?_,_,_,_,rfl⟩
  obtain ⟨X,rfl⟩:=hg
  exact ⟨_,rfl⟩
theorem rd_one {x:V}:rd none [x] 0=some x:=rfl
theorem storeH_one {b:Nat}{x c:V}(hl:lim≤b)(hb:H[b]? = some (.row [c] true)):vstoreH lim H b 0 [x]=some (H.set b (.row [x] true)):=by
  simp [vstoreH,hl,hb,splice]
theorem as_some (hg:HX glHp H){b:Nat}{x:ByteArray}(hb:H[b]? = some (.row [.str x] true))(hlim:lim≤b)(hK:K (.bool true) (H.set b (.row [.str s] true))) :
    VCall tbl lim 26 [.iface 61 (.agg [.str s]),.iface 63 (.ptr b 0)] H K:=by
  refine VCall_fn tbl_at26 rfl ?_
  have st:=storeH_one (x:=.str s) hlim hb
  simp [vf26,evX_ask,as_q hg,rd_one,st]
  exact hK
theorem index_c {c:UInt8}(hK:K (.int .i64 (Lib.indexByte s.data.toList c)) H):VCall tbl lim 87 [.str s,.str ⟨#[c]⟩] H K:=by
  refine VCall_prim (g:=pIndex) (bs:=[]) tbl_at87 rfl rfl (v:=.int .i64 (Lib.indexByte s.data.toList c)) rfl (by simpa using hK)
theorem cut_yes (hl:(10:UInt8)∉l)(hsz:l.length+q.length≤10000)(hK:K (.tup [.str (bA l),.str (bA q),.bool true]) H):VCall tbl lim 48 [.str (bA (l++10 :: q)),.str ⟨#[10]⟩] H K:=by
  refine VCall_fn tbl_at48 rfl ?_
  simp [vf48]
  refine VCall_fn tbl_at65 rfl ?_
  simp [vf65]
  refine index_c ?_
  have hi:=ixc_pre hl (r:=q)
  rw [list_bA,hi]
  have hsz1:((⟨#[10]⟩:ByteArray).size:Int)=1:=rfl
  have v1:vslT (.str (bA (l++10 :: q))) none (some (.int .i64 (l.length:Int)))=some (.str (bA l)):=by
    simp only [vslT,vbounds_hi (show l.length≤(bA (l++10 :: q)).size by rw [bA_size];simp)]
    rw [ext_bA,list_bA]
    simp
  have v2:vslT (.str (bA (l++10 :: q))) (some (.int .i64 ((l.length:Int)+1))) none=some (.str (bA q)):=by
    have e:(l.length:Int)+1=((l.length+1:Nat):Int):=by omega
    have hz:(bA (l++10 :: q)).size=l.length+1+q.length:=by rw [bA_size];simp;omega
    rw [e]
    simp only [vslT,vbounds_lo (show l.length+1≤(bA (l++10 :: q)).size by omega)]
    rw [ext_bA,list_bA]
    have e2:(l++10 :: q).take (bA (l++10 :: q)).size=l++10 :: q:=List.take_of_length_le (by rw [bA_size];exact Nat.le_refl _)
    rw [e2,←List.drop_drop,List.drop_left];rfl
  have hz:(0:Int)≤(l.length:Int):=by omega
  simp (disch:=omega) [hz,hsz1,v1,v2,wrap_i64]
  exact hK
theorem cut_no (hr:(10:UInt8)∉r)(hK:K (.tup [.str (bA r),.str ⟨#[]⟩,.bool false]) H):VCall tbl lim 48 [.str (bA r),.str ⟨#[10]⟩] H K:=by
  refine VCall_fn tbl_at48 rfl ?_
  simp [vf48]
  refine VCall_fn tbl_at65 rfl ?_
  simp [vf65]
  refine index_c ?_
  have hi:Lib.indexByte r 10 = -1:=by
    rcases at_byte (c:=10) r with h | ⟨p,q,h,_⟩
    · exact h.1
    · exact absurd (by rw [h];simp) hr
  rw [list_bA,hi]
  simp
  exact hK
theorem wordsN_wd6 (s:ByteArray):(wordsN s 32 6).map (fun a:ByteArray=>a.data.toList)=wd6 s.data.toList:=by
  have h1:=Lib.splitB_data ⟨#[32]⟩ 0 (min 6 (s.size+1)-1) s
  unfold wd6 spl
  rw [ba_len]
  exact h1
theorem splitN_t (hs:s.size≤10000)(hK:∀ws R:List ByteArray,ws.map (fun a:ByteArray=>a.data.toList)=wd6 s.data.toList→K (.sl H.length 0 ws.length 1) (H++[.row ((ws++R).map V.str) true])):VCall tbl lim 49 [.str s,.str ⟨#[32]⟩,.int .i64 6] H K:=by
  refine VCall_prim (g:=pSplitN) (bs:=[.row ((wordsN s 32 6++List.replicate (min 6 (s.size+1)-(wordsN s 32 6).length) ByteArray.empty).map V.str) true]) tbl_at49 rfl rfl (v:=.sl H.length 0 (wordsN s 32 6).length 1) ?_ (hK _ _ (wordsN_wd6 s))
  have h6:((wordsN s 32 6++List.replicate (min 6 (s.size+1)-(wordsN s 32 6).length) ByteArray.empty).map V.str).all flatV=true:=by
    rw [List.all_eq_true]
    intro x hx
    obtain ⟨a,-,rfl⟩:=List.mem_map.1 hx
    rfl
  have hg:gSplitN [.str s,.str ⟨#[32]⟩,.int .i64 6]=some ((wordsN s 32 6++List.replicate (min 6 (s.size+1)-(wordsN s 32 6).length) ByteArray.empty).map V.str,(wordsN s 32 6).length):=by
    show (if s.size<4294967281∧(1:Int)≤6∧(6:Int)≤1000 then _ else none)=_
    rw [if_pos ⟨by omega,by omega,by omega⟩];rfl
  have hf:([V.str s,V.str ⟨#[32]⟩,.int .i64 6]:List V).all flatV=true:=rfl
  simp only [pSplitN,rowPN,hf,hg,h6,Bool.true_and,if_true]
  rw [if_pos (by rw [decide_eq_true_eq];simp)]
theorem atoi_w (hg:HX glHp H)(hs:s.size≤10000)(hK:∀H' x u,HX H H'→NumW s.data.toList x→K (.tup [.int .i64 x,u]) H'):VCall tbl lim 50 [.str s] H K:=by
  refine atoi_t hg (by omega) (fun n hn => ?_) fun hno x => ?_
  · exact hK _ _ _ HX.refl fun m hm=>by rw [hn] at hm;cases hm;rfl
  · exact hK _ _ _ HX.push fun m hm=>absurd hm (hno m)
theorem six_ofB {ws:List ByteArray}(h:ws.length≤6)(h2:¬ws.length<6):∃w0 w1 w2 w3 w4 w5,ws=[w0,w1,w2,w3,w4,w5]:=by
  rcases ws with _ | ⟨w0,_ | ⟨w1,_ | ⟨w2,_ | ⟨w3,_ | ⟨w4,_ | ⟨w5,_ | ⟨w6,ws⟩⟩⟩⟩⟩⟩⟩
  all_goals first | exact ⟨_,_,_,_,_,_,rfl⟩ | (exfalso;simp at h h2;done) | (exfalso;simp at h h2;omega)
theorem vneqL {a b:List UInt8}:vbin .neq (.str (bA a)) (.str (bA b))=some (.bool (!(decide (a=b)))):=by
  rw [vneq_bA,list_bA]
end
end Go.Proofs.YtiilicnmcpjmkaaGreatDoor.Vm
namespace Go.Proofs.YtiilicnmcpjmkaaGreatDoor.Vm
open Go
set_option linter.unusedVariables false
set_option linter.unusedSimpArgs false
set_option maxRecDepth 100000
attribute [-simp] List.getD_eq_getElem?_getD
section
variable {lim:Nat}{H:Hp}{K:V→Hp→Prop}
end
end Go.Proofs.YtiilicnmcpjmkaaGreatDoor.Vm
namespace Go.Proofs.YtiilicnmcpjmkaaGreatDoor.Vm
open Go
set_option linter.unusedVariables false
set_option linter.unusedSimpArgs false
set_option maxRecDepth 100000
attribute [-simp] List.getD_eq_getElem?_getD
theorem put_short {c l':List En}{e:En}(hv:valE c=0)(he:e.t.size≤6000)(hp:l'.Perm (c++[e])):shortC l':=by
  refine ⟨by have h1:=hp.length_eq;have:=valE_small hv;simp only [List.length_append,List.length_cons,List.length_nil] at h1;omega,fun i hi => ?_⟩
  have hm:=hp.mem_iff.1 (getD_mem hi)
  rcases List.mem_append.1 hm with h | h
  · have:=right_size (val_good hv h).t;omega
  · rw [List.mem_singleton.1 h];exact he
section
variable {lim:Nat}{H:Hp}{K:V→Hp→Prop}{v:V}{c:List En}
set_option maxHeartbeats 2000000
theorem card_readLine {t r:List UInt8} (hg:HX glHp H) (hc:LstV enC H v c) (hv:valE c=0) (ht:t=wrE c++r) (htl:t.length≤6000) (hlim:lim≤H.length)
    (hno:∀H' s,HX H H'→Stop c r→K (.tup [.snil,.str ⟨#[]⟩,.iface 61 (.agg [.str s])]) H')
    (hyes:∀H' w l q d,HX H H'→r=l++10 :: q→(10:UInt8)∉l→OkL c l d→LstV enC H' w d→K (.tup [w,.str (bA q),.inil]) H') :
    VCall tbl lim 25 [v,.str (bA t),.str (bA r)] H K:=by
  have hrl:r.length≤6000:=by rw [ht] at htl;simp at htl;omega
  refine VCall_fn tbl_at25 rfl ?_
  simp [vf25,hc.stor]
  rcases at_byte (c:=10) r with ⟨_,h10⟩ | ⟨l,q,hr,hl,_⟩
  · refine cut_no h10 ?_
    simp
    refine splitN_t (by rw [bA_size];omega) fun ws R hws => ?_
    simp
    exact hno _ _ HX.push (rl_none h10)
  have hrs:l.length+1+q.length≤6000:=by rw [hr] at hrl;simp at hrl;omega
  rw [hr]
  refine cut_yes hl (by omega) ?_
  simp
  refine splitN_t (by rw [bA_size];omega) fun ws R hws => ?_
  rw [list_bA] at hws
  have x1:HX H (H++[.row ((ws++R).map V.str) true]):=HX.push
  have hrow:(H++[Blk.row ((ws++R).map V.str) true])[H.length]? = some (.row ((ws++R).map V.str) true):=List.getElem?_concat_length
  have wl6:ws.length≤6:=by
    have h1:(wd6 l).length≤6:=by
      have:=@spl_len (min 6 (l.length+1)-1) l
      unfold wd6;omega
    rw [←hws] at h1;simpa using h1
  have wsz:∀w∈ws,w.size≤6000:=fun w hw=>by
    have h1:w.data.toList∈wd6 l:=by rw [←hws];exact List.mem_map_of_mem hw
    have:=spl_parts _ h1
    rw [ba_len] at this;omega
  by_cases h6:ws.length<6
  · simp [h6,show (ws.length:Int)<6 by omega]
    refine hno _ _ HX.push (rl_short hr hl fun e _=>short6 ?_ e)
    rw [←hws];simpa using h6
  obtain ⟨s0,s1,s2,s3,s4,s5,rfl⟩:=six_ofB wl6 h6
  have z0:=wsz s0 (by simp)
  have z1:=wsz s1 (by simp)
  have z2:=wsz s2 (by simp)
  have z3:=wsz s3 (by simp)
  have z4:=wsz s4 (by simp)
  have z5:=wsz s5 (by simp)
  clear wsz wl6 h6
  generalize hHB:H++[Blk.row (([s0,s1,s2,s3,s4,s5]++R).map V.str) true]=H1 at *
  simp at hrow hws
  have l1:=x1.len
  simp
  refine wLoop_up 5 (fun j fr L H'=>(fr 0=v∧fr 1=.str (bA t)∧fr 9=.str (bA l)∧fr 10=.str (bA q)∧fr 12=.sl H.length 0 6 1∧fr 13=.lp 0 0∧fr 36=.int .i64 j) ∧
    (∃x0 x1 x2 x3 x4 X,L=[.int .i64 x0,.int .i64 x1,.int .i64 x2,.int .i64 x3,.int .i64 x4] :: X∧(0<j→NumW s0.data.toList x0)∧(1<j→NumW s1.data.toList x1)∧(2<j→NumW s2.data.toList x2)∧(3<j→NumW s3.data.toList x3)∧(4<j→NumW s4.data.toList x4))∧HX H1 H') ⟨by simp,⟨0,0,0,0,0,[],rfl,by omega,by omega,by omega,by omega,by omega⟩,HX.refl⟩ ?_
  rintro j hj fr L H2 ⟨⟨f0,f1,f9,f10,f12,f13,f36⟩,⟨x0,y1,y2,y3,y4,X,rfl,n0,n1,n2,n3,n4⟩,x2⟩
  have hrow2:=x2.get hrow
  have l2:=x2.len
  have hg2:=hg.trans (x1.trans x2)
  simp [f0,f1,f9,f10,f12,f13,f36]
  refine cond_dec (fun ht5 => ?_) fun hfl5 => ?_
  · have ht5:j<5:=by omega
    rcases (show j=0∨j=1∨j=2∨j=3∨j=4 by omega) with rfl | rfl | rfl | rfl | rfl
    all_goals
      simp (disch:=omega) [f0,f1,f9,f10,f12,f13,f36,hrow2]
      refine atoi_w hg2 (by omega) fun H3 x u x3 hx => ?_
      simp (disch:=omega) [f0,f1,f9,f10,f12,f13,f36,splice,wrap_i64]
      first
        | exact ⟨hx,x2.trans x3⟩
        | exact ⟨⟨_,_,⟨rfl,rfl⟩,n0 (by omega),hx⟩,x2.trans x3⟩
        | exact ⟨⟨_,_,_,⟨rfl,rfl,rfl⟩,n0 (by omega),n1 (by omega),hx⟩,x2.trans x3⟩
        | exact ⟨⟨_,_,_,_,⟨rfl,rfl,rfl,rfl⟩,n0 (by omega),n1 (by omega),n2 (by omega),hx⟩,x2.trans x3⟩
        | exact ⟨⟨_,_,_,_,_,⟨rfl,rfl,rfl,rfl,rfl⟩,n0 (by omega),n1 (by omega),n2 (by omega),n3 (by omega),hx⟩,x2.trans x3⟩
  · have:j=5:=by omega
    subst this
    have n0:=n0 (by omega)
    have n1:=n1 (by omega)
    have n2:=n2 (by omega)
    have n3:=n3 (by omega)
    have n4:=n4 (by omega)
    have hrd:=read6 hws.symm n0 n1 n2 n3 n4 (t:=s5) rfl
    have hc2:=hc.mono (x1.trans x2)
    simp (disch:=omega) [f0,f1,f9,f10,f12,f13,f36,hrow2,splice,hc2.stor,iz3]
    refine card_put (e:=⟨x0,y1,y2,y3,y4,s5⟩) hc2 (by omega) (by have:=valE_small hv;omega) fun H3 w l' x3 o3 hp3 hs3 => ?_
    replace x3:HX H2 H3:=x3
    have l3:=x3.len
    have hsh:=put_short hv z5 hp3
    have hu:∀d,valE d=0→d.Perm (c++[⟨x0,y1,y2,y3,y4,s5⟩])→d=l':=fun d hd hpd=>(sort_uniq (hp3.trans hpd.symm) (val_dist hd) (val_sorted hd) hs3).symm
    simp [f0,f1,f9,f10,o3.lst.stor]
    refine card_Write (hg2.trans x3) o3.lst hsh (by omega) fun H4 x4 => ?_
    have x5:=x1.trans (x2.trans (x3.trans x4))
    have htl2:t.length=(wrE c).length+(l.length+1+q.length):=by rw [ht,hr];simp;omega
    have vS:vslT (.str (bA t)) none (some (.int .i64 ((t.length:Int)-(q.length:Int))))=some (.str (bA (wrE c++(l++[10])))):=by
      have e1:(t.length:Int)-(q.length:Int)=(((wrE c++(l++[10])).length:Nat):Int):=by simp;omega
      rw [e1]
      simp only [vslT,vbounds_hi (show (wrE c++(l++[10])).length≤(bA t).size by rw [bA_size];simp;omega)]
      rw [ext_bA,list_bA]
      congr 3
      have e2:t=(wrE c++(l++[10]))++q:=by rw [ht,hr];simp
      rw [e2,List.take_left];rfl
    by_cases hval:valE l'=0
    · by_cases hacc:wrE l'=wrE c++(l++[10])
      · simp (disch:=omega) [f0,f1,f9,f10,hval,bA_size,wrap_i64,vS,vneqL,hacc,o3.lst.stor]
        exact hyes H4 w l q l' x5 hr hl (ok_read hrd hl hp3 hval hacc) (o3.lst.mono x4)
      · simp (disch:=omega) [f0,f1,f9,f10,hval,bA_size,wrap_i64,vS,vneqL,hacc,o3.lst.stor]
        exact hno _ _ x5 (rl_stop hr hl hrd hu fun h=>hacc h.2)
    · simp (disch:=omega) [f0,f1,f9,f10,hval,o3.lst.stor]
      exact hno _ _ x5 (rl_stop hr hl hrd hu fun h=>hval h.1)
theorem card_Read {t:List UInt8}(hg:HX glHp H)(htl:t.length≤6000)(hlim:lim≤H.length)
    (hK:∀H' w d r,HX H H'→Rd [] t d r→LstV enC H' w d→K (.tup [w,.str (bA r)]) H'):VCall tbl lim 11 [.str (bA t)] H K:=by
  refine VCall_fn tbl_at11 rfl ?_
  simp [vf11]
  refine wLoop_m (n:=t.length) (fun n fr L H'=>∃w c r,(fr 0=.str (bA t)∧fr 2=w∧fr 3=.str (bA r))∧r.length=n∧LstV enC H' w c∧valE c=0∧t=wrE c++r∧HX H H'∧∀d r',Rd c r d r'→Rd [] t d r') ⟨.snil,[],t,by simp,rfl,.nil,by decide,by rw [wr_nil];rfl,HX.refl,fun _ _ h=>h⟩ ?_
  rintro n fr L H1 ⟨w,c,r,⟨f0,f2,f3⟩,hn,hc,hv,ht,x1,hrd⟩
  have hg1:=hg.trans x1
  have l1:=x1.len
  simp [f0,f2,f3,hc.stor]
  refine card_readLine hg1 hc hv ht htl (by omega) (fun H2 s x2 hst => ?_) fun H2 w2 l q d x2 hr hl hok hd => ?_
  · replace x2:HX H1 H2:=x2
    have l2:=x2.len
    simp [f0,f2,f3]
    refine as_some (hg1.trans (x2.trans HX.push)) (b:=H2.length) (x:=⟨#[]⟩) List.getElem?_concat_length (by omega) ?_
    have x3:HX H2 (H2++[Blk.row [V.str s] true]):=HX.push
    have hc3:=hc.mono (x2.trans x3)
    simp [f0,f2,f3,hc3.stor]
    exact hK _ w c r (x1.trans (x2.trans x3)) (hrd _ _ (.stop hst)) hc3
  · replace x2:HX H1 H2:=x2
    have l2:=x2.len
    simp [f0,f2,f3,hd.stor]
    refine as_none ?_
    simp [f0,f2,f3,hd.stor]
    have hlen:q.length<n:=by rw [←hn,hr];simp;omega
    have hw:t=wrE d++q:=by rw [ht,hok.2.2,hr];simp
    have hrd2:∀(d':List En) (r':List UInt8),Rd d q d' r'→Rd [] t d' r':=fun d' r' h=>hrd d' r' (by rw [hr];exact .step hl hok h)
    exact ⟨q.length,hlen,w2,d,q,⟨rfl,rfl⟩,rfl,hd.mono HX.push,hok.2.1,hw,x1.trans (x2.trans HX.push),hrd2⟩
end
end Go.Proofs.YtiilicnmcpjmkaaGreatDoor.Vm
namespace Go.Proofs.YtiilicnmcpjmkaaGreatDoor.Vm
open Go
set_option linter.unusedVariables false
set_option linter.unusedSimpArgs false
set_option maxRecDepth 100000
attribute [-simp] List.getD_eq_getElem?_getD
section
variable {lim:Nat}{H:Hp}{K:V→Hp→Prop}
set_option maxHeartbeats 2000000
end
end Go.Proofs.YtiilicnmcpjmkaaGreatDoor.Vm
namespace Go.Proofs.YtiilicnmcpjmkaaGreatDoor.Vm
open Go
set_option linter.unusedVariables false
set_option linter.unusedSimpArgs false
set_option maxRecDepth 100000
attribute [-simp] List.getD_eq_getElem?_getD
theorem veqS {s:ByteArray}:vbin .eql (.str s) (.str s)=some (.bool true):=by simp [vbin]
theorem nil_val:valE []=0:=by decide
theorem wrE_len {c:List En}(h:valE c=0):(wrE c).length≤4560:=by
  have h1:=wrM_len (m:=srtE c) (srt_good h)
  have h2:=(srt_perm h).length_eq
  have h3:=valE_small h
  unfold wrE
  omega
theorem val_short {c:List En}(h:valE c=0):shortC c:=by
  refine ⟨by have:=valE_small h;omega,fun i hi => ?_⟩
  have:=right_size (val_mem h (getD_mem hi)).1.2
  omega
theorem wrap_u64' {x:Int}:IntKind.wrap .u64 x=x % 18446744073709551616:=by simp [IntKind.wrap,IntKind.bits,IntKind.signed]
section
variable {lim:Nat}{H:Hp}{K:V→Hp→Prop}{v:V}{c:List En}
end
end Go.Proofs.YtiilicnmcpjmkaaGreatDoor.Vm
namespace Go.Proofs.YtiilicnmcpjmkaaGreatDoor.Vm
open Go
set_option linter.unusedVariables false
set_option linter.unusedSimpArgs false
set_option maxRecDepth 100000
attribute [-simp] List.getD_eq_getElem?_getD
structure Cp3 (C:Nat→List En):Prop where
  val:∀i,i<3→valE (C i)=0
  own:∀(i j:Nat) (x:En),i<3→j<3→x∈C i→x.p=(j:Int)→x∈C j
def updC {α:Type}(C:Nat→α)(t:Nat)(n:α)(i:Nat):α:=if i=t then n else C i
theorem Cp3.start:Cp3 fun _=>[]:=⟨fun _ _=>nil_val,fun _ _ x _ _ h _=>by cases h⟩
theorem Cp3.cmp {C:Nat→List En}(h:Cp3 C){i j:Nat}(hi:i<3)(hj:j<3):cmpE (C i) (C j)=0:=by
  refine cmp_iff.2 ⟨h.val i hi,h.val j hj,fun x hx y hy e1 e2 => ?_⟩
  have hp:=(val_mem (h.val i hi) hx).1.1
  obtain ⟨k,hk⟩:∃k:Nat,x.p=k:=⟨x.p.toNat,by omega⟩
  have hk3:k<3:=by omega
  exact (val_dist (h.val k hk3)).eq (h.own i k x hi hk3 hx hk) (h.own j k y hj hk3 hy (by rw [←e1];exact hk)) e1 e2
theorem Cp3.grow {C:Nat→List En} (h:Cp3 C) {t:Nat} {n:List En} (ht:t<3) (hv:valE n=0) (hsub:∀x∈C t,x∈n) (hnew:∀x∈n,x∈C t∨x.p=(t:Int)∨∃f,f<3∧x∈C f):Cp3 (updC C t n):=by
  refine ⟨fun i hi => ?_,fun i j x hi hj hx hp => ?_⟩
  · unfold updC;split
    · exact hv
    · exact h.val i hi
  · unfold updC at hx ⊢
    by_cases hjt:j=t
    · rw [if_pos hjt]
      split at hx
      · exact hx
      · exact hsub x (h.own i t x hi ht hx (by rw [hp,hjt]))
    · rw [if_neg hjt]
      split at hx
      · rcases hnew x hx with h1 | h1 | ⟨f,hf,h1⟩
        · exact h.own t j x ht hj h1 hp
        · omega
        · exact h.own f j x hf hj h1 hp
      · exact h.own i j x hi hj hx hp
theorem Cp3.add {C:Nat→List En}(h:Cp3 C){t:Nat}{s:ByteArray}(ht:t<3)(he:addE (C t) t s=0):valE (addL (C t) t s)=0∧(∀x∈C t,x∈addL (C t) t s)∧Cp3 (updC C t (addL (C t) t s)):=by
  have hv:=add_val he
  obtain ⟨h1,h2,_,_⟩:=add_ok he
  have hm:∀x,x∈addL (C t) t s↔x∈C t∨x=nextE (C t) t s:=fun x=>by
    unfold addL
    rw [if_pos he,(adL_perm h1 h2).mem_iff];simp
  exact ⟨hv,fun x hx=>(hm x).2 (Or.inl hx),h.grow ht hv (fun x hx=>(hm x).2 (Or.inl hx)) fun x hx=>by
    rcases (hm x).1 hx with h3 | h3
    · exact Or.inl h3
    · right;left;rw [h3];rfl⟩
theorem Cp3.mer {C:Nat→List En}(h:Cp3 C){t f:Nat}(ht:t<3)(hf:f<3)(he:merE (C t) (C f)=0):valE (mgL (C t) (C f) 3)=0∧(∀x∈C t,x∈mgL (C t) (C f) 3)∧Cp3 (updC C t (mgL (C t) (C f) 3)):=by
  obtain ⟨hc,hl⟩:=mer_iff.1 he
  have hv:=val_mg hc hl
  exact ⟨hv,fun x hx=>(mg_iff hc).2 (Or.inl hx),h.grow ht hv (fun x hx=>(mg_iff hc).2 (Or.inl hx)) fun x hx=>by
    rcases (mg_iff hc).1 hx with h3 | h3
    · exact Or.inl h3
    · exact Or.inr (Or.inr ⟨f,hf,h3⟩)⟩
theorem grow_rel {n o:List En}(hn:valE n=0)(ho:valE o=0)(hsub:∀x∈o,x∈n):cmpE n o=0∧(relP n o=0∨relP n o=1):=by
  have hc:cmpE n o=0:=cmp_iff.2 ⟨hn,ho,fun x hx y hy e1 e2=>(val_dist hn).eq hx (hsub y hy) e1 e2⟩
  refine ⟨hc,?_⟩
  have h0:¬0<(firstL o n o.length).length:=fun hlt=>by
    obtain ⟨h1,h2⟩:=firstL_mem (List.getElem_mem hlt)
    have:hasN n (firstL o n o.length)[0]=true:=hasN_iff.2 ⟨_,hsub _ h1,rfl,rfl⟩
    rw [this] at h2
    cases h2
  unfold relP
  rw [if_neg (by rw [hc];simp),if_neg (fun h=>h0 h.2)]
  split
  · exact Or.inr rfl
  · left;rfl
theorem mer_cases {a b:List En}(h:cmpE a b=0):merE a b=0∨merE a b=4:=by
  unfold merE
  rw [if_neg (by rw [h];simp)]
  split
  · exact Or.inr rfl
  · exact Or.inl rfl
theorem add_cases {c:List En}{q:Int}{s:ByteArray}(h:valE c=0):addE c q s=0∨addE c q s=1∨addE c q s=4:=by
  unfold addE
  rw [if_neg (by rw [h];simp)]
  split
  · exact Or.inr (Or.inl rfl)
  · split
    · exact Or.inr (Or.inr rfl)
    · exact Or.inl rfl
theorem mer_back {a b c:List En}(h1:merE a b=0)(h2:merE (mgL a b 3) c=0):merE c b=0∧merE (mgL c b 3) a=0∧mgL (mgL c b 3) a 3=mgL (mgL a b 3) c 3∧valE (mgL (mgL a b 3) c 3)=0:=by
  obtain ⟨m1,m2,m3,m4⟩:=mer_three h1 h2
  obtain ⟨c1,l1⟩:=mer_iff.1 m1
  have e1:mgL c b 3=mgL b c 3:=mg_symm c1
  obtain ⟨c2,l2⟩:=mer_iff.1 m2
  have e2:mgL (mgL b c 3) a 3=mgL a (mgL b c 3) 3:=mg_symm c2
  exact ⟨mer_iff.2 ⟨cmp_symm c1,by rw [e1];exact l1⟩,by rw [e1];exact mer_iff.2 ⟨cmp_symm c2,by rw [e2];exact l2⟩,by rw [e1,e2,m3],m4⟩
end Go.Proofs.YtiilicnmcpjmkaaGreatDoor.Vm
namespace Go.Proofs.YtiilicnmcpjmkaaGreatDoor.Vm
open Go
set_option linter.unusedVariables false
set_option linter.unusedSimpArgs false
set_option maxRecDepth 100000
attribute [-simp] List.getD_eq_getElem?_getD
structure De where
  f:Int
  t:Int
  s:ByteArray
instance:Inhabited De:=⟨⟨0,0,⟨#[]⟩⟩⟩
def deC:Cod De 3:=⟨fun d=>[.int .i64 d.f,.int .i64 d.t,.str d.s],fun _=>rfl⟩
theorem deeds_of {H:Hp}{v:V}{d:CD}(h:RepT H (.sl [cInt,cInt,.str]) v d):∃l:List De,LstV deC H v l∧l.length≤maxLen:=by
  obtain ⟨l1,h1,hm,hp⟩:=lst_of (c:=deC) rfl (fun _=>True) (fun vs ds h=>by
    obtain ⟨v0,u0,_,_,rfl,_,p0,q0⟩:=reps_cons h
    obtain ⟨v1,u1,_,_,rfl,_,p1,q1⟩:=reps_cons q0
    obtain ⟨v2,u2,_,_,rfl,_,p2,q2⟩:=reps_cons q1
    have e:=reps_nil q2
    subst e
    obtain ⟨n0,rfl,c0⟩:=int_of p0
    obtain ⟨n1,rfl,c1⟩:=int_of p1
    obtain ⟨n2,rfl,c2⟩:=str_of p2
    exact ⟨⟨n0,n1,n2⟩,rfl,trivial⟩) h
  exact ⟨l1,h1,hm⟩
def wiM (k:Int)(n:Nat):Nat:=(k % 18446744073709551616).toNat % (n+1)
theorem wiM_le {k:Int}{n:Nat}:wiM k n≤n:=by
  have:(k % 18446744073709551616).toNat % (n+1)<n+1:=Nat.mod_lt _ (by omega)
  unfold wiM;omega
theorem wiM_rem {k:Int}{n:Nat}(hn:n≤1000000):vbin .rem (.int .u64 (IntKind.u64.wrap k)) (.int .u64 (IntKind.u64.wrap ((n:Int)+1)))=some (.int .u64 (wiM k n:Nat)):=by
  rw [wrap_u64',wrap_u64']
  have e1:((n:Int)+1) % 18446744073709551616=((n+1:Nat):Int):=by omega
  rw [e1]
  have h0:0≤k % 18446744073709551616:=by omega
  obtain ⟨a,ha⟩:∃a:Nat,k % 18446744073709551616=a:=⟨_,(Int.toNat_of_nonneg h0).symm⟩
  unfold wiM
  rw [ha]
  have ne:((n+1:Nat):Int)≠0:=by omega
  rw [vbin_rem ne,tmod_nat,Int.toNat_natCast]
theorem rd3u {u:Nat→V}{t:Nat}(h:t<3):rd none [u 0,u 1,u 2] t=some (u t):=by
  rcases (show t=0∨t=1∨t=2 by omega) with rfl | rfl | rfl<;>rfl
theorem spl3u {u:Nat→V}{w:V}{t:Nat}(h:t<3):splice [u 0,u 1,u 2] t [w]=[updC u t w 0,updC u t w 1,updC u t w 2]:=by
  rcases (show t=0∨t=1∨t=2 by omega) with rfl | rfl | rfl<;>simp [splice,updC]
theorem wash1:addE [] 0 ⟨#[119,97,115,104]⟩=0∧(addL [] 0 ⟨#[119,97,115,104]⟩).length=1:=by decide +kernel
theorem veq_empty {s:ByteArray}(h:s≠⟨#[]⟩):vbin .eql (.str s) (.str ⟨#[]⟩)=some (.bool false):=by
  have hne:s.data.toList≠[]:=fun e=>h (ba_ext e)
  simp only [vbin]
  rw [Lib.toList_data,Lib.toList_data]
  have:(s.data.toList==([]:List UInt8))=false:=by simpa using hne
  show some (V.bool (s.data.toList==[]))=_
  rw [this]
section
variable {lim:Nat}{H:Hp}{K:V→Hp→Prop}{v w:V}{a n:List En}
theorem within_t {k:Int}{n:Nat}(hn:n≤1000000)(hK:K (.int .i64 (wiM k n:Nat)) H):VCall tbl lim 16 [.int .i64 k,.int .i64 (n:Nat)] H K:=by
  refine VCall_fn tbl_at16 rfl ?_
  have hr:=wiM_rem (k:=k) hn
  have hle:=@wiM_le k n
  simp (disch:=omega) [vf16,wrap_i64,hr]
  exact hK
theorem top_grown (hc:LstV enC H v a)(hw:LstV enC H w n)(ha:valE a=0)(hn:valE n=0)(hsub:∀x∈a,x∈n)(hlim:lim≤H.length)(hK:∀H',HX H H'→K (.bool true) H'):VCall tbl lim 18 [v,w] H K:=by
  refine VCall_fn tbl_at18 rfl ?_
  simp [vf18,hc.stor,hw.stor]
  refine card_RelationG hw hc (val_short hn) (val_short ha) hlim fun H' hx => ?_
  obtain ⟨h1,h2⟩:=grow_rel hn ha hsub
  rcases h2 with h2 | h2<;>(simp [h1,h2];exact hK _ hx)
theorem law_TopCopies {l:List De} {keep:Int} (hv:LstV deC H v l) (hl:l.length≤maxLen) (hg:HX glHp H) (hlim:lim≤H.length) (hK:∀H',K (.bool true) H'):VCall tbl lim 6 [v,.int .i64 keep] H K:=by
  refine VCall_fn tbl_at6 rfl ?_
  simp [vf6,hv.stor]
  refine card_Add (c:=[]) .nil (val_short nil_val) (by decide) hlim fun H1 w1 x1 o1 => ?_
  replace x1:HX H H1:=x1
  have l1:=x1.len
  obtain ⟨wa,wb⟩:=wash1
  simp [wa,o1.lst.stor,o1.lst.len,wb]
  refine wLoop_up 60 (fun i fr L H'=>∃(u:Nat→V) (C:Nat→List En) (X:Lo),(fr 0=v∧fr 1=.int .i64 keep∧fr 7=.lp 0 0∧fr 8=.int .i64 i)∧L=[u 0,u 1,u 2] :: X∧Cp3 C∧(∀j,j<3→LstV enC H' (u j) (C j))∧HX H1 H')
    ⟨fun _=>.snil,fun _=>[],[],by simp,rfl,Cp3.start,fun _ _=>.nil,HX.refl⟩ ?_
  rintro i hi fr L H2 ⟨u,C,X,⟨f0,f1,f7,f8⟩,rfl,hC,hu,x2⟩
  have l2:=x2.len
  have hv2:=hv.mono (x1.trans x2)
  have hg2:=hg.trans (x1.trans x2)
  simp [f0,f1,f7,f8,hv2.len]
  by_cases hb:i<l.length∧i<60
  · obtain ⟨hil,hi60⟩:=hb
    have ld:vload (some 3) ([u 0,u 1,u 2] :: X) H2 (ept 3 v i)=some (.agg [.int .i64 (l.getD i default).f,.int .i64 (l.getD i default).t,.str (l.getD i default).s]):=hv2.load hil
    generalize l.getD i default=d at ld
    simp (disch:=omega) [f0,f1,f7,f8,hil,hi60,show (i:Int)<60 by omega,hv2.at hil,ld,splice33,lastO,lastS]
    have htl:=@wiM_le d.t 2
    refine within_t (n:=2) (by omega) ?_
    generalize wiM d.t 2=t at htl
    have ht3:t<3:=by omega
    by_cases hsz:200<d.s.size
    · simp (disch:=omega) [f0,f1,f7,f8,hsz,show (200:Int)<d.s.size by omega,lastO,lastS,wrap_i64]
      exact ⟨u,⟨rfl,rfl,rfl⟩,C,hC,hu,x2⟩
    have hvt:=hC.val t ht3
    simp (disch:=omega) [f0,f1,f7,f8,hsz,show ¬(200:Int)<d.s.size by omega,lastO,lastS,wrap_i64,rd3u ht3,(hu t ht3).stor]
    refine card_Add (hu t ht3) (val_short hvt) (by omega) (by omega) fun H3 w2 x3 o3 => ?_
    replace x3:HX H2 H3:=x3
    have l3:=x3.len
    by_cases hse:d.s=⟨#[]⟩
    · have hse2:vbin .eql (.str d.s) (.str ⟨#[]⟩)=some (.bool true):=by rw [hse];exact veqS
      simp (disch:=omega) [f0,f1,f7,f8,lastO,lastS,o3.lst.stor,hse2,rd3u ht3,(hu t ht3).stor]
      have hfl:=@wiM_le d.f 2
      refine within_t (n:=2) (by omega) ?_
      generalize wiM d.f 2=g at hfl
      have hg3:g<3:=by omega
      have hut:=(hu t ht3).mono x3
      have huf:=(hu g hg3).mono x3
      have hcm:=hC.cmp ht3 hg3
      simp (disch:=omega) [f0,f1,f7,f8,lastO,lastS,rd3u ht3,rd3u hg3,hut.stor,huf.stor]
      refine card_MergeG hut huf (val_short hvt) (val_short (hC.val g hg3)) (by omega) fun H4 w4 x4 o4 => ?_
      replace x4:HX H3 H4:=x4
      have l4:=x4.len
      have x5:HX H2 H4:=x3.trans x4
      have herr:merE (C t) (C g)=0∨merE (C t) (C g)=1∨merE (C t) (C g)=4:=by rcases mer_cases hcm with h | h<;>omega
      have hok:merE (C t) (C g)=0→valE (merL (C t) (C g))=0∧(∀x∈C t,x∈merL (C t) (C g))∧Cp3 (updC C t (merL (C t) (C g))):=fun h=>by
        have e:merL (C t) (C g)=mgL (C t) (C g) 3:=if_pos h
        rw [e];exact hC.mer ht3 hg3 h
      have ow:=o4.lst
      generalize merE (C t) (C g)=er at herr hok
      generalize merL (C t) (C g)=n at ow hok
      clear o4 hut huf hcm hse2 o3
      have ne12:¬er=12:=by omega
      have ne11:¬er=11:=by omega
      by_cases e0:er=0
      · subst e0
        simp (disch:=omega) [f0,f1,f7,f8,lastO,lastS,ow.stor]
        obtain ⟨hvn,hsub,hC2⟩:=hok rfl
        refine card_Validate ow (val_short hvn) fun H5 x6 => ?_
        have l5:=x6.len
        have ow5:=ow.mono x6
        have hut5:=(hu t ht3).mono (x5.trans x6)
        simp (disch:=omega) [hvn,f0,f1,f7,f8,lastO,lastS,rd3u ht3,hut5.stor,ow5.stor]
        refine top_grown hut5 ow5 hvt hvn hsub (by omega) fun H6 x7 => ?_
        have x8:=x5.trans (x6.trans x7)
        have hu8:∀j,j<3→LstV enC H6 (updC u t w4 j) (updC C t n j):=fun j hj=>by
          unfold updC
          split
          · exact ow5.mono x7
          · exact (hu j hj).mono x8
        simp (disch:=omega) [f0,f1,f7,f8,lastO,lastS,rd3u ht3,spl3u ht3,htl,ow5.stor,ow5.one,wrap_i64]
        exact ⟨updC u t w4,⟨rfl,rfl,rfl⟩,updC C t n,hC2,hu8,x2.trans x8⟩
      · simp (disch:=omega) [f0,f1,f7,f8,lastO,lastS,ow.stor,ne12,ne11,e0,wrap_i64]
        exact ⟨u,⟨rfl,rfl,rfl⟩,C,hC,fun j hj=>(hu j hj).mono x5,x2.trans x5⟩
    · have hse2:vbin .eql (.str d.s) (.str ⟨#[]⟩)=some (.bool false):=veq_empty hse
      simp (disch:=omega) [f0,f1,f7,f8,lastO,lastS,o3.lst.stor,hse2,rd3u ht3,(hu t ht3).stor]
      have x5:=x3
      have l4:=l3
      have herr:=add_cases (q:=t) (s:=d.s) hvt
      have hok:=fun h=>hC.add (s:=d.s) ht3 h
      have ow:=o3.lst
      generalize addE (C t) t d.s=er at herr hok
      generalize addL (C t) t d.s=n at ow hok
      clear hse2 o3
      have ne12:¬er=12:=by omega
      have ne11:¬er=11:=by omega
      by_cases e0:er=0
      · subst e0
        simp (disch:=omega) [f0,f1,f7,f8,lastO,lastS,ow.stor]
        obtain ⟨hvn,hsub,hC2⟩:=hok rfl
        refine card_Validate ow (val_short hvn) fun H5 x6 => ?_
        have l5:=x6.len
        have ow5:=ow.mono x6
        have hut5:=(hu t ht3).mono (x5.trans x6)
        simp (disch:=omega) [hvn,f0,f1,f7,f8,lastO,lastS,rd3u ht3,hut5.stor,ow5.stor]
        refine top_grown hut5 ow5 hvt hvn hsub (by omega) fun H6 x7 => ?_
        have x8:=x5.trans (x6.trans x7)
        have hu8:∀j,j<3→LstV enC H6 (updC u t w2 j) (updC C t n j):=fun j hj=>by
          unfold updC
          split
          · exact ow5.mono x7
          · exact (hu j hj).mono x8
        simp (disch:=omega) [f0,f1,f7,f8,lastO,lastS,rd3u ht3,spl3u ht3,htl,ow5.stor,ow5.one,wrap_i64]
        exact ⟨updC u t w2,⟨rfl,rfl,rfl⟩,updC C t n,hC2,hu8,x2.trans x8⟩
      · simp (disch:=omega) [f0,f1,f7,f8,lastO,lastS,ow.stor,ne12,ne11,e0,wrap_i64]
        exact ⟨u,⟨rfl,rfl,rfl⟩,C,hC,fun j hj=>(hu j hj).mono x5,x2.trans x5⟩
  · have hbb:(decide (i<l.length)&&decide ((i:Int)<60))=false:=by
      by_cases hil:i<l.length
      · have:¬(i:Int)<60:=by omega
        simp [this]
      · simp [hil]
    have u0:=hu 0 (by omega)
    have u1:=hu 1 (by omega)
    have u2:=hu 2 (by omega)
    have v0:=hC.val 0 (by omega)
    have v1:=hC.val 1 (by omega)
    have v2:=hC.val 2 (by omega)
    have c01:=hC.cmp (i:=0) (j:=1) (by omega) (by omega)
    simp [f0,f1,f7,f8,hbb,u0.stor,u1.stor]
    refine card_MergeG u0 u1 (val_short v0) (val_short v1) (by omega) fun H3 w3 x3 o3 => ?_
    replace x3:HX H2 H3:=x3
    have l3:=x3.len
    rcases mer_cases c01 with m1 | m1
    case inr =>
      simp [m1]
      exact hK _
    obtain ⟨va,_,hC1⟩:=hC.mer (t:=0) (f:=1) (by omega) (by omega) m1
    have c12:cmpE (mgL (C 0) (C 1) 3) (C 2)=0:=hC1.cmp (i:=0) (j:=2) (by omega) (by omega)
    have e1:merL (C 0) (C 1)=mgL (C 0) (C 1) 3:=if_pos m1
    rw [e1] at o3
    simp [m1,o3.lst.stor,f7,u2.stor]
    refine card_MergeG o3.lst (u2.mono x3) (val_short va) (val_short v2) (by omega) fun H4 w4 x4 o4 => ?_
    replace x4:HX H3 H4:=x4
    have l4:=x4.len
    rcases mer_cases c12 with m2 | m2
    case inr =>
      simp [m2]
      exact hK _
    have e2:merL (mgL (C 0) (C 1) 3) (C 2)=mgL (mgL (C 0) (C 1) 3) (C 2) 3:=if_pos m2
    rw [e2] at o4
    obtain ⟨b1,b2,b3,hall⟩:=mer_back m1 m2
    have vb:=val_mg (mer_iff.1 b1).1 (mer_iff.1 b1).2
    have e3:merL (C 2) (C 1)=mgL (C 2) (C 1) 3:=if_pos b1
    have e4:merL (mgL (C 2) (C 1) 3) (C 0)=mgL (mgL (C 2) (C 1) 3) (C 0) 3:=if_pos b2
    generalize mgL (mgL (C 0) (C 1) 3) (C 2) 3=A at *
    simp [m2,f7,u2.stor,u1.stor]
    refine card_MergeG (u2.mono (x3.trans x4)) (u1.mono (x3.trans x4)) (val_short v2) (val_short v1) (by omega) fun H5 w5 x5 o5 => ?_
    replace x5:HX H4 H5:=x5
    have l5:=x5.len
    rw [e3] at o5
    have x25:=x3.trans (x4.trans x5)
    simp [b1,f7,o5.lst.stor,u0.stor]
    refine card_MergeG o5.lst (u0.mono x25) (val_short vb) (val_short v0) (by omega) fun H6 w6 x6 o6 => ?_
    replace x6:HX H5 H6:=x6
    have l6:=x6.len
    rw [e4,b3] at o6
    have oA:=o4.lst.mono (x5.trans x6)
    have hg6:=hg2.trans (x25.trans x6)
    simp [b2,f7,o4.lst.stor]
    refine card_Write hg6 oA (val_short hall) (by omega) fun H7 x7 => ?_
    replace x7:HX H6 H7:=x7
    have l7:=x7.len
    have oA7:=oA.mono x7
    have oB7:=o6.lst.mono x7
    have hal:=valE_small hall
    have hwl:=wrE_len hall
    simp [hall,b1,b2,oA7.stor,oB7.stor]
    refine ref_Same oA7 oB7 (by omega) ?_
    simp [bA_size,f1]
    refine within_t (n:=(wrE A).length) (by omega) ?_
    have hm:=@wiM_le keep (wrE A).length
    have hmm:wiM keep (wrE A).length=wiM keep (wrE A).length:=rfl
    generalize hmd:wiM keep (wrE A).length=m at hm hmm
    have vS:vslT (.str (bA (wrE A))) none (some (.int .i64 (m:Int)))=some (.str (bA ((wrE A).take m))):=by
      simp only [vslT,vbounds_hi (show m≤(bA (wrE A)).size by rw [bA_size];exact hm)]
      rw [ext_bA,list_bA]
      rfl
    obtain ⟨k,r0,hk1,hk2,hrd0,_⟩:=rd_torn hall hm
    have htk:((wrE A).take m).length≤4560:=by simp;omega
    simp [vS]
    refine card_Read (hg6.trans x7) (by omega) (by omega) fun H8 w8 d r x8 hrd hd => ?_
    replace x8:HX H7 H8:=x8
    have l8:=x8.len
    obtain ⟨q1,q2⟩:=hrd.det hrd0
    subst q1 q2
    have hsd:=hrd.sound nil_val
    obtain ⟨_,_,g1,g2⟩:=beg_merge hall (k:=k)
    have oA8:=oA7.mono x8
    simp [hd.stor,oA8.stor]
    refine card_MergeG oA8 hd (val_short hall) (val_short hsd.1) (by omega) fun H9 w9 x9 o9 => ?_
    replace x9:HX H8 H9:=x9
    have l9:=x9.len
    have e9:merL A (begC A k)=A:=by unfold merL;rw [if_pos g1,g2]
    rw [e9] at o9
    simp [g1,hd.stor,o9.lst.stor]
    refine card_Write (hg6.trans (x7.trans (x8.trans x9))) (hd.mono x9) (val_short hsd.1) (by omega) fun Ha xa => ?_
    replace xa:HX H9 Ha:=xa
    have la:=xa.len
    have oA9:=oA8.mono (x9.trans xa)
    have o9a:=o9.lst.mono xa
    simp [hsd.1,oA9.stor,o9a.stor]
    refine ref_Same o9a oA9 (by omega) ?_
    have hsum:=hsd.2.1
    rw [wr_nil,List.nil_append] at hsum
    have hsl:(wrE (begC A k)).length+r.length=((wrE A).take m).length:=by rw [←hsum];simp
    have va1:vbin .add (.str (bA (wrE (begC A k)))) (.str (bA r))=some (.str (bA ((wrE A).take m))):=by rw [←hsum];exact vadd_bA (by omega)
    simp [bA_size,f1,va1]
    refine within_t (n:=(wrE A).length) (by omega) ?_
    rw [hmd]
    simp [vS,veqS]
    exact hK _
end
end Go.Proofs.YtiilicnmcpjmkaaGreatDoor.Vm
namespace Go.Proofs.YtiilicnmcpjmkaaGreatDoor.Vm
open Go Go.RowKit Go.ChangeShapes
set_option linter.unusedVariables false
set_option linter.unusedSimpArgs false
set_option maxRecDepth 100000
attribute [-simp] List.getD_eq_getElem?_getD
theorem Good.obj {ρ:Loc}{w:World}{k:Nat}(G:Good ρ (glHp.take k) w)(hU:GUp ρ k)(hk:k<glMap.length)(he:glMap[k]=(none,[])){r o:Nat}{C:Array Value}{el:TypeId}{fz:Nat×Nat}(h1:w.heap[r]? = some (.cells C el fz))(h2:o≤C.size) :
    ∃ρ',Good ρ' (glHp.take (k+1)) w∧GUp ρ' (k+1)∧(∀b y,ρ b=some y→ρ' b=some y)∧ρ' k=some (r,o,0):=by
  obtain ⟨ρ',_,a2,a3,a4⟩:=G.row (cap:=0) (cs:=[]) (o:=o) h1 (by omega) (Nat.le_refl _) (fun i hi=>by simp at hi)
  have hl:(glHp.take k).length=k:=by rw [List.length_take,glHp_len];omega
  have ht:=glHp_take hk
  rw [he] at ht
  rw [←ht] at a2
  rw [hl] at a4
  refine ⟨ρ',a2,fun j g cs hj e => ?_,a3,a4⟩
  by_cases hjk:j=k
  · subst hjk
    rw [List.getElem?_eq_getElem hk,he] at e
    cases e
  · exact a3 _ _ (hU j g cs (by omega) e)
theorem var_heap {P:Program}{W:World}{name:String}{g:Nat}{cs:Array Value}(hg:P.globalNamed name=some g)(hv:W.var? P name=some cs):∃el fz,W.heap[g]? = some (.cells cs el fz):=by
  simp only [World.var?,hg,Option.bind_some] at hv
  split at hv<;>simp_all
theorem cell_heap {W:World}{a:Addr}{v:Value}(h:W.cell? a=some v):a=⟨a.block,a.off,none⟩∧∃C el fz,W.heap[a.block]? = some (.cells C el fz)∧a.off≤C.size:=by
  unfold World.cell? at h
  split at h
  case h_2=>cases h
  rename_i C el fz hb
  split at h
  · cases h
  rename_i hs
  refine ⟨?_,C,el,fz,hb,Nat.le_of_lt (Array.getElem?_eq_some_iff.1 h).1⟩
  obtain ⟨b,o,s⟩:=a
  cases s with
  | none=>rfl
  | some x=>simp at hs
theorem row1_at {ρ:Loc}{t:TypeId}{b:Nat}{x:Value}(h:VR ρ (.ptr b 0) x):RowAt ρ [.iface t (.ptr b 0)] #[.iface t x] 0:=by
  intro i hi
  have:i=0:=by simp at hi;omega
  subst this
  exact ⟨.iface h,rfl⟩
def laidT:List (String×DataW Unit):=[("math/bits.deBruijn32tab",Rows.laid_math_bits_deBruijn32tab),("math/bits.deBruijn64tab",Rows.laid_math_bits_deBruijn64tab),("internal/strconv.uint64pow10",Rows.laid_internal_strconv_uint64pow10),("unicode/utf8.acceptRanges",Rows.laid_unicode_utf8_acceptRanges),("errors.errorType",Rows.laid_errors_errorType),("strconv.ErrRange",Rows.laid_strconv_ErrRange),("strconv.ErrSyntax",Rows.laid_strconv_ErrSyntax),("unicode/utf8.first",Rows.laid_unicode_utf8_first)]
def laidD:List (String×DataW Unit):=[("math/bits.deBruijn32tab",Rows.laid_math_bits_deBruijn32tab),("math/bits.deBruijn64tab",Rows.laid_math_bits_deBruijn64tab),("internal/strconv.uint64pow10",Rows.laid_internal_strconv_uint64pow10),("unicode/utf8.acceptRanges",Rows.laid_unicode_utf8_acceptRanges),("strconv.ErrRange",Rows.laid_strconv_ErrRange),("strconv.ErrSyntax",Rows.laid_strconv_ErrSyntax),("unicode/utf8.first",Rows.laid_unicode_utf8_first)]
theorem fil_D:(laidT.filter fun x=>x.2.handleName?.isNone)=laidD:=rfl
theorem fil_H:(laidT.filter fun x=>x.2.handleName?.isSome)=[("errors.errorType",Rows.laid_errors_errorType)]:=rfl
theorem opq_at {ρ:Loc}{t:TypeId}{x:Value}:RowAt ρ [.opq (.iface t x)] #[.iface t x] 0:=by
  intro i hi
  have:i=0:=by simp at hi;omega
  subst this
  exact ⟨.opq,rfl⟩
theorem starE : "*" ++ "errors.errorString" = "*errors.errorString" := by decide
theorem rowE (u:TypeId)(h:Tryz.prog.typeName? 3 u=some "*errors.errorString"):u=177 :=
  typeName_ptr_named (nm := "errors.errorString") (by rw [starE];kernel_rfl) (by kernel_rfl) (by decide) u (by rw [starE];exact h)
def pow10R:List V:=(List.range 20).map fun i=>.int .u64 (10 ^ i:Nat)
theorem glMap_eq:glMap=[(some 1,pow10R),(none,[]),(none,[]),(some 3,[.iface 177 (.ptr 1 0)]),(some 4,[.iface 177 (.ptr 2 0)]),(some 0,[.opq (.iface 111 (.agg #[.pointer (some ⟨9,57,none⟩)]))])]:=by kernel_rfl
theorem etN:Tryz.prog.globalNamed "errors.errorType" = some 0:=by kernel_rfl
theorem rtN:(Tryz.prog.cutTypes.find? (·.1 == "internal/reflectlite.rtype")).map (·.2)=some 111:=by kernel_rfl
theorem szN:Tryz.prog.types.size=214:=by kernel_rfl
theorem oneN:((List.range 214).filter fun t=>Tryz.prog.rowNamed t [101,114,114,111,114])=[57]:=by kernel_rfl
theorem hdN:typeHandle Tryz.prog 57=.pointer (some ⟨9,57,none⟩):=by kernel_rfl
theorem hand_of {W:World}(h:handlesMet Tryz.prog [("errors.errorType",Rows.laid_errors_errorType)] W):W.var? Tryz.prog "errors.errorType" = some #[.iface 111 (.agg #[.pointer (some ⟨9,57,none⟩)])]:=by
  obtain ⟨name,u,ty,e1,e2,e3,e4,e5⟩:=h _ (List.mem_singleton.2 rfl)
  have en:name=[101,114,114,111,114]:=(Option.some.inj e1).symm
  subst en
  obtain rfl:=Option.some.inj (rtN.symm.trans e2)
  have hm:ty∈(List.range 214).filter fun t=>Tryz.prog.rowNamed t [101,114,114,111,114]:=List.mem_filter.2 ⟨List.mem_range.2 (by rw [←szN];exact e3),e4⟩
  rw [oneN] at hm
  obtain rfl:=List.mem_singleton.1 hm
  rw [hdN] at e5
  exact e5
theorem tx_start {W:World}(h:laidMetH Tryz.prog laidT W):∃ρ,Good ρ glHp W∧GRel ρ:=by
  unfold laidMetH at h
  rw [fil_H,fil_D] at h
  obtain ⟨h,hhd⟩:=h
  obtain ⟨elE,fzE,bE⟩:=var_heap etN (hand_of hhd)
  have hgp:Tryz.prog.globalNamed "internal/strconv.uint64pow10" = some 1:=by kernel_rfl
  have hgR:Tryz.prog.globalNamed "strconv.ErrRange" = some 4:=by kernel_rfl
  have hgS:Tryz.prog.globalNamed "strconv.ErrSyntax" = some 3:=by kernel_rfl
  have h3:=laidMet.tail (laidMet.tail h)
  have h5:=laidMet.tail (laidMet.tail h3)
  have h6:=laidMet.tail h5
  obtain ⟨ps,⟨g',t',cs,fuel,p,q,hg',ht',hv,htr,_,_⟩,_⟩:=h3
  obtain rfl:=Option.some.inj (hgp.symm.trans hg')
  have eT:(Tryz.prog.globals[1]?).map (·.type)=some 159:=by kernel_rfl
  obtain rfl:=Option.some.inj (eT.symm.trans ht')
  have hlf:leaf Tryz.prog 8 159 Rows.laid_internal_strconv_uint64pow10 0=some ((List.range pow10R.length).zip pow10R):=by kernel_rfl
  obtain ⟨el1,fz1,a1,a2,a3⟩:=flat_var hgp hlf hv htr
  obtain ⟨aR,sR,vR,cR,_,_⟩:=laid_sentinel (tp:=177) (te:=179) (ts:=9) h5 hgR (ti:=57) (by kernel_rfl) Tryz.underlying57 rowE Tryz.underlying177 Tryz.underlying179 rfl rfl Tryz.underlying9 (by kernel_rfl) (by kernel_rfl)
  obtain ⟨aS,sS,vS,cS,_,_⟩:=laid_sentinel (tp:=177) (te:=179) (ts:=9) h6 hgS (ti:=57) (by kernel_rfl) Tryz.underlying57 rowE Tryz.underlying177 Tryz.underlying179 rfl rfl Tryz.underlying9 (by kernel_rfl) (by kernel_rfl)
  obtain ⟨elR,fzR,bR⟩:=var_heap hgR vR
  obtain ⟨elS,fzS,bS⟩:=var_heap hgS vS
  obtain ⟨eR,CR,tR,zR,oR,lR⟩:=cell_heap cR
  obtain ⟨eS,CS,tS,zS,oS,lS⟩:=cell_heap cS
  have hlen:glMap.length=6:=by rw [glMap_eq];rfl
  have e0:glMap[0]'(by omega)=(some 1,pow10R):=by simp only [glMap_eq];rfl
  have e1:glMap[1]'(by omega)=(none,[]):=by simp only [glMap_eq];rfl
  have e2:glMap[2]'(by omega)=(none,[]):=by simp only [glMap_eq];rfl
  have e3:glMap[3]'(by omega)=(some 3,[.iface 177 (.ptr 1 0)]):=by simp only [glMap_eq];rfl
  have e4:glMap[4]'(by omega)=(some 4,[.iface 177 (.ptr 2 0)]):=by simp only [glMap_eq];rfl
  have e5:glMap[5]'(by omega)=(some 0,[.opq (.iface 111 (.agg #[.pointer (some ⟨9,57,none⟩)]))]):=by simp only [glMap_eq];rfl
  have G0:Good (fun _=>none) (glHp.take 0) W:=Good.start
  obtain ⟨ρ1,c1,u1,m1,_⟩:=Good.var G0 (fun k _ _ hk=>absurd hk (by omega)) (k:=0) (by omega) a1 (by rw [e0];exact a2) (by rw [e0];exact a3 _) (fun g' e=>by rw [e0] at e;exact (Option.some.inj e).symm)
  obtain ⟨ρ2,c2,u2,m2,q2⟩:=Good.obj c1 u1 (by omega) e1 oS lS
  obtain ⟨ρ3,c3,u3,m3,q3⟩:=Good.obj c2 u2 (by omega) e2 oR lR
  have vS2:VR ρ3 (.ptr 1 0) (.pointer (some aS)):=by
    rw [eS];exact .ptr (m3 _ _ q2)
  have vR2:VR ρ3 (.ptr 2 0) (.pointer (some aR)):=by
    rw [eR];exact .ptr q3
  obtain ⟨ρ4,c4,u4,m4,_⟩:=Good.var c3 u3 (k:=3) (by omega) bS (by rw [e3];exact Nat.le_refl 1) (by rw [e3];exact row1_at vS2) (fun g' e=>by rw [e3] at e;exact (Option.some.inj e).symm)
  obtain ⟨ρ5,c5,u5,m5,_⟩:=Good.var c4 u4 (k:=4) (by omega) bR (by rw [e4];exact Nat.le_refl 1) (by rw [e4];exact row1_at (vR2.mono m4)) (fun g' e=>by rw [e4] at e;exact (Option.some.inj e).symm)
  obtain ⟨ρ6,c6,u6,m6,_⟩:=Good.var c5 u5 (k:=5) (by omega) bE (by rw [e5];exact Nat.le_refl 1) (by rw [e5];exact opq_at) (fun g' e=>by rw [e5] at e;exact (Option.some.inj e).symm)
  rw [show (5+1)=glMap.length by omega] at c6 u6
  exact Good.vars c6 u6
noncomputable def wit0 (os:Os):World :=
  let w0:=World.holding Tryz.prog os ⟨#[],#[],[]⟩
  { w0 with heap:=w0.heap.modify 0 fun
      | .cells _ t frozen=>.cells #[.iface 111 (.agg #[.pointer (some ⟨9,57,none⟩)])] t frozen
      | o=>o }
noncomputable def witT (os:Os):World:=(wit0 os).layVars Tryz.prog laidD
theorem witT_met (os:Os)(args:Array Value):laidMetH Tryz.prog laidT ((witT os).forCall (fun _ _=>0) ⟨#[],args,[]⟩).memory:=by
  refine laidMetH_of_parts ?_ (by rw [fil_H];kernel_rfl)
  rw [fil_D]
  have e1:(laidD.filter fun x=>(laidD.map (·.1)).contains x.1)=laidD:=List.filter_eq_self.2 fun x hx=>List.contains_iff_mem.2 (List.mem_map.2 ⟨x,hx,rfl⟩)
  have e2:(laidD.filter fun x => !(laidD.map (·.1)).contains x.1)=[]:=List.filter_eq_nil_iff.2 fun x hx=>by rw [List.contains_iff_mem.2 (List.mem_map.2 ⟨x,hx,rfl⟩)];simp
  have h:laidMet Tryz.prog laidD (witT os):=laidMet_layVars (w0:=wit0 os) (laidD.map (·.1)) [] (by rw [e1];rfl) (by rw [e1];kernel_rfl) (by rw [e1];kernel_rfl) (by rw [e2];exact LaidIn.none)
  exact h.of_heap (by simp [World.memory,World.forCall,Input.heap])
theorem witT_shaped (os:Os):(witT os).Shaped Tryz.prog:=World.shaped_of_ZipB (by kernel_rfl) (by kernel_rfl)
end Go.Proofs.YtiilicnmcpjmkaaGreatDoor.Vm
