/- Package card: two cards together, pure. -/
import Derived.Test.YthfimpangfhliaaDoorQCardSumsB
import Derived.Test.YthfimpangfhliaaDoorQCardSumsA
import Derived.Test.YthfimpangfhliaaDoorVmFlat
import Derived.Test.YthfimpangfhliaaDoorVmRec
import Derived.Test.YthfimpangfhliaaDoorRows
import Derived.Test.YthfimpangfhliaaDoorChecked
import Derived.Stop.LaidErr
import Derived.Lay
import Derived.KernelRfl
namespace Go.Proofs.YthfimpangfhliaaDoor.Vm
open Go
set_option maxRecDepth 100000
set_option linter.unusedSimpArgs false
set_option linter.unusedVariables false
attribute [-simp] List.getD_eq_getElem?_getD
theorem ba_symm:∀s t:ByteArray,(s==t)=(t==s)
  | ⟨a⟩,⟨b⟩=>by show (a==b)=(b==a);exact BEq.comm
theorem enEq_symm {e f:En}:enEq e f=enEq f e:=by
  unfold enEq
  rw [ba_symm e.t f.t]
  simp only [eq_comm]
theorem filE_split {g:Nat→Bool}{c:List En}:∀{n:Nat},n≤c.length→(filE g c n++filE (fun i => !g i) c n).Perm (c.take n)
  | 0,_=>by simp [filE]
  | n + 1,h=>by
    have ih:=filE_split (g:=g) (c:=c) (n:=n) (by omega)
    rw [List.take_succ_eq_append_getElem (by omega),←getD_of (by omega)]
    simp only [filE]
    by_cases e:g n=true
    · simp only [e,if_true,Bool.not_true,Bool.false_eq_true,if_false,List.append_assoc]
      exact List.perm_middle.trans ((List.Perm.cons _ ih).trans (List.perm_append_singleton _ _).symm)
    · have e:g n=false:=by simpa using e
      simp only [e,Bool.not_false,if_true,Bool.false_eq_true,if_false]
      rw [←List.append_assoc]
      exact ih.append_right _
theorem hasN_iff {b:List En}{x:En}:hasN b x=true↔∃y∈b,y.p=x.p∧y.s=x.s:=by
  constructor
  · intro h
    cases Classical.em (∃y∈b,y.p=x.p∧y.s=x.s) with
    | inl h2=>exact h2
    | inr h2 =>
      have:=hasN_no (b:=b) (x:=x) fun j hj e=>h2 ⟨_,getD_mem hj,e⟩
      rw [this] at h;cases h
  · rintro ⟨y,hy,h1,h2⟩
    obtain ⟨j,hj,rfl⟩:=mem_getD hy
    exact hasN_yes hj h1 h2
theorem firstL_mem {a b:List En}{x:En}(h:x∈firstL b a b.length):x∈b∧hasN a x=false:=by
  obtain ⟨i,hi,rfl⟩:=mem_getD h
  obtain ⟨j,j1,j2,j3⟩:=filE_mem hi
  unfold firstL
  rw [j3]
  exact ⟨getD_mem j1,by simpa using j2⟩
theorem second_more {a b:List En}(ha:valE a=0)(hb:valE b=0){x y:En}(hx:x∈a)(hy:y∈firstL b a b.length)(hp:x.p=y.p):x.s<y.s:=by
  obtain ⟨h1,h2⟩:=firstL_mem hy
  have hv:=(val_mem ha hx).2.1.2
  have hw:=(val_mem hb h1).2.1.1
  by_cases h:y.s≤cntE a y.p a.length
  · obtain ⟨z,hz,e1,e2⟩:=val_has ha (q:=y.p) (Nat.le_refl _) y.s hw h
    have:hasN a y=true:=hasN_iff.2 ⟨z,hz,e1,e2⟩
    rw [h2] at this;cases this
  · rw [hp] at hv;omega
theorem mer_dist {a b:List En}(ha:valE a=0)(hb:valE b=0):Dist (a++firstL b a b.length):=by
  refine List.pairwise_append.2 ⟨val_dist ha,?_,fun x hx y hy e => ?_⟩
  · refine filE_pw fun i j h1 h2 _ _ e => ?_
    have:=val_uniq hb (by omega) h2 e.1 e.2
    omega
  · have:=second_more ha hb hx hy e.1
    omega
theorem mer_perm {a b:List En}:(bothL a b a.length++(firstL a b a.length++firstL b a b.length)).Perm (a++firstL b a b.length):=by
  rw [←List.append_assoc]
  refine List.Perm.append_right _ ?_
  have:=filE_split (g:=fun i=>hasN b (a.getD i default)) (c:=a) (Nat.le_refl _)
  rw [List.take_length] at this
  exact this
def mgL (a b:List En):Nat→List En
  | 0=>[]
  | p+1=>mgL a b p++(ofP a p a.length++ofP (firstL b a b.length) p (firstL b a b.length).length)
theorem mgL_mem {a b:List En}:∀{n:Nat} {x:En},x∈mgL a b n→x.p<n
  | n+1,x,h=>by
    simp only [mgL,List.mem_append] at h
    rcases h with h | h | h
    · have:=mgL_mem h;omega
    · have:=(ofP_mem h).2;omega
    · have:=(ofP_mem h).2;omega
theorem mgL_sort {a b:List En}(ha:valE a=0)(hb:valE b=0):∀{n:Nat},(mgL a b n).Pairwise (leC cfE)
  | 0=>List.Pairwise.nil
  | n + 1=>by
    have hs:(firstL b a b.length).Pairwise (leC cfE):=filE_pw fun i j h1 h2 _ _=>by
      rw [cfE_le]
      have o:=val_ord hb h2 (Nat.le_of_lt h1)
      by_cases e:(b.getD i default).p=(b.getD j default).p
      · have:=val_lt hb h1 h2 e;omega
      · omega
    have hs2:=List.pairwise_iff_getElem.1 hs
    refine List.pairwise_append.2 ⟨mgL_sort ha hb,List.pairwise_append.2 ⟨filE_pw fun i j h1 h2 h3 h4 => ?_,filE_pw fun i j h1 h2 h3 h4 => ?_,fun x hx y hy => ?_⟩,fun x hx y hy => ?_⟩
    · rw [cfE_le]
      simp only [decide_eq_true_eq] at h3 h4
      have:=val_lt ha h1 h2 (by rw [h3,h4])
      omega
    · have:=hs2 i j (by omega) h2 h1
      rwa [←getD_of (by omega),←getD_of h2] at this
    · have m1:=ofP_mem hx
      have m2:=ofP_mem hy
      have:=second_more ha hb m1.1 m2.1 (by rw [m1.2,m2.2])
      rw [cfE_le];omega
    · have h1:=mgL_mem hx
      rw [cfE_le]
      rcases List.mem_append.1 hy with hy | hy
      · have:=(ofP_mem hy).2;omega
      · have:=(ofP_mem hy).2;omega
theorem mgL_perm {a b:List En}(ha:valE a=0)(hb:valE b=0):(mgL a b 3).Perm (a++firstL b a b.length):=by
  have hp:=ofP_perm (c:=a) (fun i hi=>val_pl ha hi) (Nat.le_refl _)
  have hq:=ofP_perm (c:=firstL b a b.length) (fun i hi=>(val_mem hb (firstL_mem (getD_mem hi)).1).1.1) (Nat.le_refl _)
  rw [List.take_length] at hp hq
  refine List.Perm.trans ?_ ((hp.append_right _).trans (List.Perm.append_left _ hq))
  simp only [mgL,List.nil_append]
  have e0:((0:Nat):Int)=0:=rfl
  have e1:((1:Nat):Int)=1:=rfl
  have e2:((2:Nat):Int)=2:=rfl
  rw [e0,e1,e2]
  generalize ofP a 0 a.length=A
  generalize ofP a 1 a.length=B
  generalize ofP a 2 a.length=C
  generalize ofP (firstL b a b.length) 0 _=X
  generalize ofP (firstL b a b.length) 1 _=Y
  generalize ofP (firstL b a b.length) 2 _=Z
  simp only [List.append_assoc]
  refine List.Perm.append_left A ?_
  have s1:(X++(B++(Y++(C++Z)))).Perm (B++(X++(Y++(C++Z)))):=by
    have:((X++B)++(Y++(C++Z))).Perm ((B++X)++(Y++(C++Z))):=List.perm_append_comm.append_right _
    simpa only [List.append_assoc] using this
  have s2:(X++(Y++(C++Z))).Perm (C++(X++(Y++Z))):=by
    have:(((X++Y)++C)++Z).Perm ((C++(X++Y))++Z):=List.perm_append_comm.append_right _
    simpa only [List.append_assoc] using this
  exact s1.trans (List.Perm.append_left B s2)
theorem mer_uniq {a b l:List En}(ha:valE a=0)(hb:valE b=0)(hp:l.Perm (bothL a b a.length++(firstL a b a.length++firstL b a b.length)))(hs:SortR cfE 0 l.length l):l=mgL a b 3:=by
  have hq:=mgL_perm ha hb
  exact sort_uniq ((hp.trans mer_perm).trans hq.symm) ((mer_dist ha hb).perm hq) (pw_sort (mgL_sort ha hb)) hs
end Go.Proofs.YthfimpangfhliaaDoor.Vm
namespace Go.Proofs.YthfimpangfhliaaDoor.Vm
open Go
set_option maxRecDepth 100000
set_option linter.unusedSimpArgs false
set_option linter.unusedVariables false
attribute [-simp] List.getD_eq_getElem?_getD
def pB (a b:List En)(i k:Nat):Bool := !(decide ((a.getD i default).p=(b.getD k default).p)&&decide ((a.getD i default).s=(b.getD k default).s) && !enEq (a.getD i default) (b.getD k default))
section
variable {lim:Nat}{H:Hp}{K:V→Hp→Prop}{v w:V}{a b:List En}{e:En}{x y z:Int}
end
theorem hasQ_N {b:List En} {x:En} (h:hasQ b x=true):hasN b x=true:=by
  cases h2:hasN b x
  · have:allN (eqB b x) b.length=true:=allN_of fun j hj=>by
      cases h3:enEq x (b.getD j default)
      · simp [eqB,h3]
      · have n:=enEq_num h3
        have:=hasN_yes (x:=x) hj n.1.symm n.2.symm
        rw [h2] at this;cases this
    simp [hasQ,this] at h
  · rfl
theorem q_one {a b:List En}(h:cmpE a b=0){i:Nat}(hi:i<a.length):hasQ b (a.getD i default)=hasN b (a.getD i default):=by
  have ho:=(cmp_ok h).2.2 i hi
  cases hN:hasN b (a.getD i default)
  · cases hQ:hasQ b (a.getD i default)
    · rfl
    · rw [hasQ_N hQ] at hN;cases hN
  · simp only [okM,hN,Bool.not_true,Bool.false_or] at ho
    exact ho
theorem q_two {a b:List En}(h:cmpE a b=0){j:Nat}(hj:j<b.length):hasQ a (b.getD j default)=hasN a (b.getD j default):=by
  obtain ⟨ha,hb,hok⟩:=cmp_ok h
  cases hN:hasN a (b.getD j default)
  · cases hQ:hasQ a (b.getD j default)
    · rfl
    · rw [hasQ_N hQ] at hN;cases hN
  · obtain ⟨y,hy,e1,e2⟩:=hasN_iff.1 hN
    obtain ⟨i,hi,rfl⟩:=mem_getD hy
    have q1:=q_one h hi
    rw [hasN_yes (x:=a.getD i default) hj e1.symm e2.symm,hasQ_at hb hj e1.symm e2.symm] at q1
    rw [hasQ_at ha hi e1 e2,enEq_symm];exact q1
def merL (a b:List En):List En:=if merE a b=0 then mgL a b 3 else []
theorem mer_cmp {a b:List En}(h:merE a b=0):cmpE a b=0:=by
  unfold merE at h;split at h
  · rename_i h1;exact absurd h h1
  · rename_i h1;simpa using h1
theorem mgL_length {a b:List En}(h:cmpE a b=0):(mgL a b 3).length=(bothL a b a.length).length+(firstL a b a.length).length+(firstL b a b.length).length:=by
  obtain ⟨ha,hb,_⟩:=cmp_ok h
  rw [((mgL_perm ha hb).trans mer_perm.symm).length_eq];simp;omega
section
variable {lim:Nat}{H:Hp}{K:V→Hp→Prop}{v w:V}{a b:List En}{e:En}{x y z:Int}
theorem card_MergeG (hc:LstV enC H v a)(hw:LstV enC H w b)(hsa:shortC a)(hsb:shortC b)(hlim:lim≤H.length)
    (hK:∀H' u,HX H H'→OwnT H.length enC H' u (merL a b)→K (.tup [u,.int .i64 (merE a b)]) H'):VCall tbl lim 6 [v,w] H K:=by
  refine card_Merge hc hw hsa hsb hlim (fun h H' hx => ?_) fun h H' u l hx o hp hs => ?_
  · have e:merL a b=[]:=if_neg h
    exact hK H' .snil hx (by rw [e];exact .nil)
  · have e:merL a b=mgL a b 3:=if_pos h
    obtain ⟨ha,hb,_⟩:=cmp_ok (mer_cmp h)
    rw [mer_uniq ha hb hp hs] at o
    rw [e,h] at hK
    exact hK H' u hx o
end
section
variable {lim:Nat}{H:Hp}{K:V→Hp→Prop}{v w:V}{a b l:List En}{e:En}{x y z:Int}
end
end Go.Proofs.YthfimpangfhliaaDoor.Vm
namespace Go.Proofs.YthfimpangfhliaaDoor.Vm
open Go
set_option linter.unusedVariables false
set_option linter.unusedSimpArgs false
set_option maxRecDepth 100000
def blk (s:ByteArray):Int:=Lib.indexByte s.data.toList 32
def wordP (s:ByteArray):ByteArray:=if 0≤blk s then s.extract 0 (blk s).toNat else s
def restP (s:ByteArray):ByteArray:=if 0≤blk s then s.extract ((blk s).toNat+1) s.size else ⟨#[]⟩
theorem ixB_lt:∀(l:List UInt8) (c:UInt8),Lib.indexByte l c<l.length∨Lib.indexByte l c = -1:=by
  intro l c
  have h0:=Lib.indexByte_ge l c
  by_cases h:Lib.indexByte l c = -1
  · exact Or.inr h
  · have h1:Lib.indexByte l c=((Lib.indexByte l c).toNat:Int):=by omega
    obtain ⟨h2,_⟩:=Lib.indexByte_some h1
    have h3:(Lib.indexByte l c).toNat<l.length:=by
      by_cases h4:(Lib.indexByte l c).toNat<l.length
      · exact h4
      · rw [List.getElem?_eq_none (by omega)] at h2;cases h2
    left;omega
theorem blk_lt {s:ByteArray}(h:0≤blk s):(blk s).toNat<s.size:=by
  rcases ixB_lt s.data.toList 32 with h1 | h1
  · have:(s.data.toList.length:Int)=s.size:=by simp
    unfold blk at *;omega
  · unfold blk at h;omega
section
variable {lim:Nat}{H:Hp}{K:V→Hp→Prop}{s:ByteArray}
theorem index_t (hK:K (.int .i64 (blk s)) H):VCall tbl lim 55 [.str s,.str ⟨#[32]⟩] H K:=by
  refine VCall_prim (g:=pIndex) (bs:=[]) tbl_at55 rfl rfl (v:=.int .i64 (blk s)) rfl (by simpa using hK)
theorem cut_t (hs:s.size≤1000)(hK:K (.tup [.str (wordP s),.str (restP s),.bool (decide (0≤blk s))]) H):VCall tbl lim 30 [.str s,.str ⟨#[32]⟩] H K:=by
  refine VCall_fn tbl_at30 rfl ?_
  simp [vf30]
  refine VCall_fn tbl_at39 rfl ?_
  simp [vf39]
  refine index_t ?_
  simp
  have hsz:((⟨#[32]⟩:ByteArray).size:Int)=1:=rfl
  by_cases h:0≤blk s
  · have hl:=blk_lt h
    obtain ⟨n,hn⟩:∃n:Nat,blk s=n:=⟨(blk s).toNat,by omega⟩
    have hn':n<s.size:=by rw [hn] at hl;simpa using hl
    have v1:vslT (.str s) none (some (.int .i64 (n:Int)))=some (.str (wordP s)):=by
      simp only [vslT,vbounds_hi (show n≤s.size by omega),wordP,hn,Int.toNat_natCast]
      rw [if_pos (by omega)]
    have v2:vslT (.str s) (some (.int .i64 ((n:Int)+1))) none=some (.str (restP s)):=by
      have e:(n:Int)+1=((n+1:Nat):Int):=by omega
      rw [e]
      simp only [vslT,vbounds_lo (show n+1≤s.size by omega),restP,hn,Int.toNat_natCast]
      rw [if_pos (by omega)]
    have hz:(0:Int)≤(n:Int):=by omega
    rw [hn] at hK ⊢
    simp (disch:=omega) [hz,hsz,v1,v2,wrap_i64] at hK ⊢
    exact hK
  · have e1:wordP s=s:=by simp only [wordP,if_neg h]
    have e2:restP s=⟨#[]⟩:=by simp only [restP,if_neg h]
    rw [e1,e2] at hK
    simp [h] at hK ⊢
    exact hK
end
def letB (s:ByteArray)(i:Nat):Bool:=decide (97≤chT s i∧chT s i≤122)
def digB (s:ByteArray)(i:Nat):Bool:=decide (48≤chT s i∧chT s i≤57)
def nmB (s:ByteArray)(i:Nat):Bool:=letB s i||(digB s i&&decide (i≠0))
def nameP (s:ByteArray):Bool:=allN (nmB s) s.size&&decide (1≤s.size∧s.size≤8)
section
variable {lim:Nat}{H:Hp}{K:V→Hp→Prop}{s:ByteArray}
theorem isName_t (hs:s.size≤1000) (hK:∀H',HX H H'→K (.bool (nameP s)) H'):VCall tbl lim 31 [.str s] H K:=by
  refine VCall_fn tbl_at31 rfl ?_
  simp [vf31]
  have hb:=bytesV (H:=H) (s:=s)
  have hx:HX H (H++[.row (vbytesL s) true]):=HX.push
  have hbl:=hb.len
  simp only [bytesN_len] at hbl
  generalize V.sl H.length 0 s.size 1=bv at hb hbl
  generalize H++[Blk.row (vbytesL s) true]=H1 at hb hx
  refine wLoop_up s.size (fun i fr L H'=>(fr 0=.str s∧fr 8=bv∧fr 9=.int .i64 s.size∧fr 10=.int .i64 i)∧H'=H1∧allN (nmB s) i=true) ⟨by simp,rfl,rfl⟩ ?_
  rintro i hi fr L H' ⟨⟨f0,f8,f9,f10⟩,e0,hz⟩
  have e0:=e0.symm
  subst e0
  simp [f0,f8,f9,f10]
  refine cond_dec (fun ht => ?_) fun hfl => ?_
  · have ht:i<s.size:=by omega
    have hl:i<(bytesN s).length:=by rw [bytesN_len];exact ht
    have hg:vload none L H1 (ept 1 bv i)=some (.int .u8 (chT s i:Nat)):=by rw [hb.load1 hl];simp only [byC,bytesN_get ht];rfl
    rcases (by omega:chT s i<48∨(48≤chT s i∧chT s i≤57)∨(58≤chT s i∧chT s i≤96)∨(97≤chT s i∧chT s i≤122)∨122<chT s i) with hr | hr | hr | hr | hr
    · have d1:(97≤(chT s i:Int))=False:=eq_false (by omega)
      have d2:((chT s i:Int)≤122)=True:=eq_true (by omega)
      have d3:(48≤(chT s i:Int))=False:=eq_false (by omega)
      have d4:((chT s i:Int)≤57)=True:=eq_true (by omega)
      have e:nmB s i=false:=by simp [nmB,letB,digB];omega
      rw [show nameP s=false by simp [nameP,allN_not ht e]] at hK
      simp (disch:=omega) [f0,f8,f9,f10,hb.at hl,hg,d1,d2,d3,d4]
      exact hK _ hx
    · have d1:(97≤(chT s i:Int))=False:=eq_false (by omega)
      have d2:((chT s i:Int)≤122)=True:=eq_true (by omega)
      have d3:(48≤(chT s i:Int))=True:=eq_true (by omega)
      have d4:((chT s i:Int)≤57)=True:=eq_true (by omega)
      by_cases h0:i=0
      · have h0':(i=0)=True:=eq_true h0
        have e:nmB s i=false:=by simp [nmB,letB,digB];omega
        rw [show nameP s=false by simp [nameP,allN_not ht e]] at hK
        simp (disch:=omega) [f0,f8,f9,f10,hb.at hl,hg,d1,d2,d3,d4,h0']
        exact hK _ hx
      · have e:nmB s i=true:=by simp [nmB,letB,digB];omega
        simp (disch:=omega) [f0,f8,f9,f10,hb.at hl,hg,d1,d2,d3,d4,h0,wrap_i64,allN,e,hz]
        omega
    · have d1:(97≤(chT s i:Int))=False:=eq_false (by omega)
      have d2:((chT s i:Int)≤122)=True:=eq_true (by omega)
      have d3:(48≤(chT s i:Int))=True:=eq_true (by omega)
      have d4:((chT s i:Int)≤57)=False:=eq_false (by omega)
      have e:nmB s i=false:=by simp [nmB,letB,digB];omega
      rw [show nameP s=false by simp [nameP,allN_not ht e]] at hK
      simp (disch:=omega) [f0,f8,f9,f10,hb.at hl,hg,d1,d2,d3,d4]
      exact hK _ hx
    · have d1:(97≤(chT s i:Int))=True:=eq_true (by omega)
      have d2:((chT s i:Int)≤122)=True:=eq_true (by omega)
      have d3:(48≤(chT s i:Int))=True:=eq_true (by omega)
      have d4:((chT s i:Int)≤57)=False:=eq_false (by omega)
      have e:nmB s i=true:=by simp [nmB,letB,digB];omega
      simp (disch:=omega) [f0,f8,f9,f10,hb.at hl,hg,d1,d2,d3,d4,wrap_i64,allN,e,hz]
      omega
    · have d1:(97≤(chT s i:Int))=True:=eq_true (by omega)
      have d2:((chT s i:Int)≤122)=False:=eq_false (by omega)
      have d3:(48≤(chT s i:Int))=True:=eq_true (by omega)
      have d4:((chT s i:Int)≤57)=False:=eq_false (by omega)
      have e:nmB s i=false:=by simp [nmB,letB,digB];omega
      rw [show nameP s=false by simp [nameP,allN_not ht e]] at hK
      simp (disch:=omega) [f0,f8,f9,f10,hb.at hl,hg,d1,d2,d3,d4]
      exact hK _ hx
  have:i=s.size:=by omega
  subst this
  rw [show nameP s=decide (1≤s.size∧s.size≤8) by simp [nameP,hz]] at hK
  simp [f0]
  have e:(decide ((1:Int)≤s.size)&&decide ((s.size:Int)≤8))=decide (1≤s.size∧s.size≤8):=by rw [Bool.eq_iff_iff];simp;omega
  rw [e]
  exact hK _ hx
end
inductive Dd where
  | cut (n:Int) | wash | bleach | dye (t:ByteArray)
def Dd.val:Dd→V
  | .cut n=>.iface dCut (.agg [.int .i64 n])
  | .wash=>.iface dWash (.agg [])
  | .bleach=>.iface dBleach (.agg [])
  | .dye t=>.iface dDye (.agg [.str t])
def resD:Option Dd→V
  | some d=>.tup [d.val,.bool true]
  | none=>.tup [.inil,.bool false]
def tWash:ByteArray:=⟨#[119,97,115,104]⟩
def tBleach:ByteArray:=⟨#[98,108,101,97,99,104]⟩
def tDye:ByteArray:=⟨#[100,121,101]⟩
def tCut:ByteArray:=⟨#[99,117,116]⟩
def okN (s:ByteArray)(n:Int):Bool:=decide (1≤n∧n≤99)&&decide (bA (Lib.decDigits n.toNat)=s)
def inchP (s:ByteArray):Option Int:=match Lib.atoiAll s.data.toList with
  | .ok n=>if okN s n then some n else none
  | _=>none
def deedP (s:ByteArray):Option Dd :=
  if s=tWash then some .wash else if s=tBleach then some .bleach
  else if wordP s=tDye∧nameP (restP s)=true then some (.dye (restP s))
  else if wordP s=tCut then (inchP (restP s)).map .cut else none
theorem rest_len {s:ByteArray}:(restP s).size≤s.size:=by
  unfold restP
  split
  · simp
  · exact Nat.zero_le _
theorem veqS_t {a b:ByteArray}(h:a=b):vbin .eql (.str a) (.str b)=some (.bool true):=by subst h;simp [vbin]
theorem veqS_f {a b:ByteArray}(h:¬a=b):vbin .eql (.str a) (.str b)=some (.bool false):=by
  have h':¬a.toList=b.toList:=fun e=>h (by
    rw [Lib.toList_data,Lib.toList_data] at e
    cases a;cases b
    simpa using e)
  simp [vbin,h']
section
variable {lim:Nat}{H:Hp}{K:V→Hp→Prop}{s:ByteArray}
theorem deedOf_t (hg:HX glHp H)(hlim:lim≤H.length)(hs:s.size≤1000)(hK:∀H',HX H H'→K (resD (deedP s)) H'):VCall tbl lim 14 [.str s] H K:=by
  refine VCall_fn tbl_at14 rfl ?_
  simp [vf14]
  refine cut_t hs ?_
  have hr:=rest_len (s:=s)
  by_cases h1:s=tWash
  · have e:deedP s=some .wash:=by simp [deedP,h1]
    rw [e] at hK
    have k1:=veqS_t (show s=⟨#[119,97,115,104]⟩ from h1)
    simp [k1]
    exact hK _ (.refl)
  have k1:=veqS_f (show ¬s=⟨#[119,97,115,104]⟩ from h1)
  by_cases h2:s=tBleach
  · have e:deedP s=some .bleach:=by simp [deedP,h1,h2,tWash,tBleach]
    rw [e] at hK
    have k2:=veqS_t (show s=⟨#[98,108,101,97,99,104]⟩ from h2)
    simp [k1,k2]
    exact hK _ (.refl)
  have k2:=veqS_f (show ¬s=⟨#[98,108,101,97,99,104]⟩ from h2)
  have hd:deedP s=if wordP s=tDye∧nameP (restP s)=true then some (.dye (restP s)) else if wordP s=tCut then (inchP (restP s)).map .cut else none:=by simp [deedP,h1,h2]
  rw [hd] at hK
  clear hd
  generalize wordP s=w at *
  generalize restP s=q at *
  by_cases h3:w=tDye
  · have k3:=veqS_t (show w=⟨#[100,121,101]⟩ from h3)
    simp [k1,k2,k3]
    refine isName_t (by omega) fun H1 x1 => ?_
    by_cases h4:nameP q=true
    · rw [if_pos ⟨h3,h4⟩] at hK
      simp [h4]
      exact hK _ x1
    · rw [if_neg (fun h=>h4 h.2),if_neg (by rw [h3];decide)] at hK
      have k4:=veqS_f (show ¬w=⟨#[99,117,116]⟩ by rw [h3];decide)
      simp [show nameP q=false by simpa using h4,k4]
      exact hK _ x1
  have k3:=veqS_f (show ¬w=⟨#[100,121,101]⟩ from h3)
  rw [if_neg (fun h=>h3 h.1)] at hK
  by_cases h4:w=tCut
  case neg =>
    rw [if_neg h4] at hK
    have k4:=veqS_f (show ¬w=⟨#[99,117,116]⟩ from h4)
    simp [k1,k2,k3,k4]
    exact hK _ .refl
  rw [if_pos h4] at hK
  have k4:=veqS_t (show w=⟨#[99,117,116]⟩ from h4)
  simp [k1,k2,k3,k4]
  refine atoi_t hg (by omega) (fun n hn => ?_) fun hno x => ?_
  · by_cases c1:1≤n
    case neg =>
      have e:inchP q=none:=by simp [inchP,hn,okN,c1]
      rw [e] at hK
      simp [c1]
      exact hK _ .refl
    by_cases c2:n≤99
    case neg =>
      have e:inchP q=none:=by simp [inchP,hn,okN,c2]
      rw [e] at hK
      simp [c1,c2]
      exact hK _ .refl
    simp [c1,c2]
    obtain ⟨m,rfl⟩:∃m:Nat,n=m:=⟨n.toNat,by omega⟩
    refine itoa_t hg (by omega) (by omega) fun H1 x1 => ?_
    by_cases c3:bA (Lib.decDigits m)=q
    · have e:inchP q=some (m:Int):=by simp [inchP,hn,okN,c1,c2,c3]
      rw [e] at hK
      simp [veqS_t c3]
      exact hK _ x1
    · have e:inchP q=none:=by simp [inchP,hn,okN,c3]
      rw [e] at hK
      simp [veqS_f c3]
      exact hK _ x1
  · have e:inchP q=none:=by
      unfold inchP
      split
      · rename_i n hn;exact absurd hn (hno n)
      · rfl
    rw [e] at hK
    simp
    exact hK _ HX.push
end
end Go.Proofs.YthfimpangfhliaaDoor.Vm
namespace Go.Proofs.YthfimpangfhliaaDoor.Vm
open Go
set_option linter.unusedVariables false
set_option linter.unusedSimpArgs false
set_option maxRecDepth 100000
structure Hs where
  a:Int
  b:Int
  c:Int
  s:ByteArray
def Hs.v (h:Hs):List V:=[.int .i64 h.a,.int .i64 h.b,.int .i64 h.c,.str h.s]
theorem Hs.vlen (h:Hs):h.v.length=4:=rfl
theorem Hs.spl (h k:Hs):splice h.v 0 k.v=k.v:=rfl
theorem Hs.rdv (h:Hs):rd (some 4) h.v 0=some (.agg h.v):=rfl
def Hs.zero:Hs:=⟨0,0,0,⟨#[]⟩⟩
def Hs.by (h:Hs):Dd→Hs
  | .cut n=>⟨h.a+n,h.b,h.c,h.s⟩
  | .wash=>⟨h.a,h.b+1,h.c,h.s⟩
  | .bleach=>⟨h.a,0,h.c+1,h.s⟩
  | .dye t=>⟨h.a,0,h.c,t⟩
def Hs.step (h:Hs)(t:ByteArray):Hs:=match deedP t with
  | some d=>h.by d
  | none=>h
def foldN (c:List En)(o:List Int):Nat→Hs
  | 0=>Hs.zero
  | k+1=>(foldN c o k).step (c.getD (o.getD k 0).toNat default).t
def Hs.small (h:Hs)(k:Nat):Prop:=0≤h.a∧h.a≤99*k∧0≤h.b∧h.b≤k∧0≤h.c∧h.c≤k
theorem deed_cut {t:ByteArray}{n:Int}(h:deedP t=some (.cut n)):1≤n∧n≤99:=by
  unfold deedP at h
  repeat' split at h
  all_goals first | (cases h;done) | skip
  simp only [Option.map_eq_some_iff] at h
  obtain ⟨m,hm,e⟩:=h
  cases e
  unfold inchP at hm
  split at hm
  case h_2=>cases hm
  split at hm
  case isFalse=>cases hm
  rename_i hok
  cases hm
  simp [okN] at hok
  exact hok.1
theorem Hs.small_by {h:Hs}{d:Dd}{k:Nat}(hs:h.small k)(hd:∀n,d=.cut n→1≤n∧n≤99):(h.by d).small (k+1):=by
  obtain ⟨h1,h2,h3,h4,h5,h6⟩:=hs
  cases d with
  | cut n=>have:=hd n rfl;refine ⟨?_,?_,?_,?_,?_,?_⟩<;>simp only [Hs.by]<;>omega
  | _=>refine ⟨?_,?_,?_,?_,?_,?_⟩<;>simp only [Hs.by]<;>omega
theorem Hs.small_step {h:Hs}{t:ByteArray}{k:Nat}(hs:h.small k):(h.step t).small (k+1):=by
  unfold Hs.step
  split
  · rename_i d hd
    exact Hs.small_by hs fun n e=>deed_cut (e ▸ hd)
  · obtain ⟨h1,h2,h3,h4,h5,h6⟩:=hs
    exact ⟨h1,by omega,h3,by omega,h5,by omega⟩
theorem foldN_small {c:List En}{o:List Int}:∀k,(foldN c o k).small k
  | 0=>by simp [Hs.small,foldN,Hs.zero]
  | k+1=>Hs.small_step (foldN_small k)
section
variable {lim:Nat}{H:Hp}{K:V→Hp→Prop}
theorem after_t {h:Hs}{d:Dd}{k:Nat}(hs:h.small k)(hk:k≤100000)(hd:∀n,d=.cut n→1≤n∧n≤99)(hK:K (.agg (h.by d).v) H):VCall tbl lim 15 [.agg h.v,d.val] H K:=by
  obtain ⟨h1,h2,h3,h4,h5,h6⟩:=hs
  have hg:gAfter [.agg h.v,d.val]=some (.agg (h.by d).v):=by
    cases d with
    | cut n =>
      have:=hd n rfl
      have w:RowKit.wrap64 (h.a+n)=h.a+n:=by unfold RowKit.wrap64;omega
      simp [gAfter,Hs.v,Dd.val,Hs.by,w]
    | wash =>
      have w:RowKit.wrap64 (h.b+1)=h.b+1:=by unfold RowKit.wrap64;omega
      simp [gAfter,Hs.v,Dd.val,Hs.by,w]
    | bleach =>
      have w:RowKit.wrap64 (h.c+1)=h.c+1:=by unfold RowKit.wrap64;omega
      simp [gAfter,Hs.v,Dd.val,Hs.by,w]
    | dye t=>simp [gAfter,Hs.v,Dd.val,Hs.by]
  exact VCall_prim (g:=pAfter) (bs:=[]) tbl_at15 rfl rfl (v:=.agg (h.by d).v) (by simp only [pAfter,hg]) (by simpa using hK)
theorem card_Fold {v:V}{c:List En}(hg:HX glHp H)(hc:LstV enC H v c)(hsh:shortC c)(hlim:lim≤H.length)
    (hK:∀H',HX H H'→K (.tup [.agg (foldN c (ordR c) (ordR c).length).v,.int .i64 (valE c)]) H'):VCall tbl lim 8 [v] H K:=by
  refine VCall_fn tbl_at8 rfl ?_
  simp [vf8,hc.stor]
  refine card_Order hc hsh (by omega) fun H1 w x1 ho => ?_
  by_cases hv:valE c=0
  case neg =>
    have e:ordR c=[]:=by simp [ordR,hv]
    rw [e] at hK
    have e2:∀c:List En,rd (some 4) (splice [V.int .i64 0,V.int .i64 0,V.int .i64 0,V.str ⟨#[]⟩] 0 [V.int .i64 0,V.int .i64 0,V.int .i64 0,V.str ⟨#[]⟩]) 0=some (.agg (foldN c [] 0).v):=fun _=>rfl
    simp [hv,e2 c]
    exact hK _ x1
  have hos:=ho.sl
  have hol:=hos.len
  have hst:=hos.stor
  have hcell:∀i,i<(ordR c).length→∃m:Nat,(ordR c).getD i 0=m∧m<c.length:=by
    intro i hi
    have hm:(ordR c).getD i 0∈ordR c:=by
      rw [List.getD_eq_getElem?_getD,List.getElem?_eq_getElem hi]
      exact List.getElem_mem hi
    have e:ordR c=ordN c 181:=by simp [ordR,hv]
    generalize (ordR c).getD i 0=x at *
    rw [e] at hm
    obtain ⟨m,h1,h2,_⟩:=ordN_mem.1 hm
    exact ⟨m,h1,h2⟩
  have hll:=ordR_len (c:=c)
  generalize ordR c=o at *
  simp [hv,hst,hol]
  refine wLoop_up o.length (fun i fr L H'=>(fr 0=v∧fr 20=w∧fr 21=.int .i64 o.length∧fr 22=.int .i64 i∧fr 2=.lp 0 0∧fr 6=.lp 1 0)∧(∃X,L=Hs.zero.v :: (foldN c o i).v :: X)∧HX H1 H') ⟨by simp,⟨[],rfl⟩,HX.refl⟩ ?_
  rintro i hi fr L H' ⟨⟨f0,f20,f21,f22,f2,f6⟩,⟨X,rfl⟩,x2⟩
  simp [f0,f20,f21,f22,f2,f6]
  refine cond_dec (fun ht => ?_) fun hfl => ?_
  · have ht:i<o.length:=by omega
    obtain ⟨m,hm,hmc⟩:=hcell i ht
    have hc2:=hc.mono (x1.trans x2)
    have hos2:=hos.mono x2
    have a1:=hos2.addr (i:=(i:Int)) (by omega)
    have a2:=hos2.load ht (L:=Hs.zero.v :: (foldN c o i).v :: X)
    have a3:=hc2.at hmc
    have a4:=hc2.faddr (j:=5) hmc
    have a5:vload none (Hs.zero.v :: (foldN c o i).v :: X) H' (eptf 6 v m 5)=some (.str (c.getD m default).t):=(hc2.rd1 hmc (by omega)).trans rfl
    rw [hm] at a2
    simp only [Int.toNat_natCast] at a1
    have hts:=hsh.2 m hmc
    have hsm:=foldN_small (c:=c) (o:=o) i
    have hstep:foldN c o (i+1)=(foldN c o i).step (c.getD m default).t:=by simp only [foldN,hm,Int.toNat_natCast]
    generalize (c.getD m default).t=t at a5 hts hstep
    simp (disch:=omega) [f0,f20,f21,f22,f2,f6,a1,a2,a3,a4,a5]
    refine deedOf_t (hg.trans (x1.trans x2)) (by have:=(x1.trans x2).len;omega) (by omega) fun H2 x3 => ?_
    cases hd:deedP t with
    | none =>
      have e:foldN c o (i+1)=foldN c o i:=by rw [hstep];simp only [Hs.step,hd]
      simp (disch:=omega) [resD,f0,f20,f21,f22,f2,f6,wrap_i64,e]
      exact ⟨ht,x2.trans x3⟩
    | some d =>
      have e:foldN c o (i+1)=(foldN c o i).by d:=by rw [hstep];simp only [Hs.step,hd]
      have dst:stor d.val=true:=by cases d<;>rfl
      simp (disch:=omega) [resD,f0,f20,f21,f22,f2,f6,Hs.rdv,dst]
      refine after_t hsm (by omega) (fun n e=>deed_cut (t:=t) (by rw [hd,e])) ?_
      simp (disch:=omega) [f0,f20,f21,f22,f2,f6,Hs.rdv,Hs.vlen,Hs.spl,wrap_i64,e]
      exact ⟨ht,x2.trans x3⟩
  have:i=o.length:=by omega
  subst this
  simp [f2,f6,Hs.rdv,Hs.vlen,Hs.spl]
  rw [←hv]
  exact hK _ (x1.trans x2)
end
end Go.Proofs.YthfimpangfhliaaDoor.Vm
namespace Go.Proofs.YthfimpangfhliaaDoor.Vm
open Go
set_option linter.unusedVariables false
set_option linter.unusedSimpArgs false
set_option maxRecDepth 100000
def cutS (q:ByteArray):Nat→Int
  | 0=>0
  | k+1=>cutS q k+if q=bA (Lib.decDigits (k+1)) then ((k+1:Nat):Int) else 0
def begP (s p:ByteArray):Prop:=p.size≤s.size∧s.extract 0 p.size=p
instance {s p:ByteArray}:Decidable (begP s p):=inferInstanceAs (Decidable (_∧_))
def tCutB:ByteArray:=⟨#[99,117,116,32]⟩
def tDyeB:ByteArray:=⟨#[100,121,101,32]⟩
def Hs.cutR (h:Hs)(t:ByteArray):Hs:=if begP t tCutB then ⟨h.a+cutS (t.extract 4 t.size) 99,h.b,h.c,h.s⟩ else h
def Hs.wordR (h:Hs)(t:ByteArray):Hs:=if t=tWash then ⟨h.a,h.b+1,h.c,h.s⟩ else if t=tBleach then ⟨h.a,0,h.c+1,h.s⟩ else h
def Hs.dyeR (h:Hs)(t:ByteArray):Hs:=if begP t tDyeB∧nameP (t.extract 4 t.size)=true then ⟨h.a,0,h.c,t.extract 4 t.size⟩ else h
end Go.Proofs.YthfimpangfhliaaDoor.Vm
namespace Go.Proofs.YthfimpangfhliaaDoor.Vm
open Go
set_option maxRecDepth 100000
set_option linter.unusedSimpArgs false
set_option linter.unusedVariables false
attribute [-simp] List.getD_eq_getElem?_getD
theorem mg_mem {a b:List En}(ha:valE a=0)(hb:valE b=0){x:En}:x∈mgL a b 3↔x∈a∨x∈firstL b a b.length:=by
  rw [(mgL_perm ha hb).mem_iff,List.mem_append]
theorem firstL_of {a b:List En}{x:En}(hx:x∈b)(hn:hasN a x=false):x∈firstL b a b.length:=by
  obtain ⟨j,hj,rfl⟩:=mem_getD hx
  obtain ⟨i,hi,e⟩:=filE_in (g:=fun i => !hasN a (b.getD i default)) (c:=b) hj (by simp [hn])
  have:=getD_mem hi
  rw [e] at this
  exact this
theorem mg_second {a b:List En}(h:cmpE a b=0){x:En}(hx:x∈b):∃y∈mgL a b 3,y.p=x.p∧y.s=x.s∧y.a=x.a∧y.b=x.b∧y.c=x.c:=by
  obtain ⟨ha,hb,_⟩:=cmp_ok h
  cases hN:hasN a x
  · exact ⟨x,(mg_mem ha hb).2 (Or.inr (firstL_of hx hN)),rfl,rfl,rfl,rfl,rfl⟩
  · obtain ⟨j,hj,rfl⟩:=mem_getD hx
    have hQ:=q_two h hj
    rw [hN] at hQ
    obtain ⟨y,hy,e1,e2⟩:=hasN_iff.1 hN
    obtain ⟨i,hi,rfl⟩:=mem_getD hy
    rw [hasQ_at ha hi e1 e2] at hQ
    have hm:=(mg_mem ha hb (x:=a.getD i default)).2 (Or.inl (getD_mem hi))
    simp only [enEq,Bool.and_eq_true,decide_eq_true_eq] at hQ
    exact ⟨_,hm,e1,e2,hQ.2.2.1.symm,hQ.2.2.2.1.symm,hQ.2.2.2.2.1.symm⟩
theorem at_le {c:List En}{x:En}(h:rangB c x=true){q:Int}(hq:0≤q∧q≤2):0≤x.at q.toNat∧x.at q.toNat≤cntE c q c.length:=by
  rw [rang_iff] at h
  rcases (show q=0∨q=1∨q=2 by omega) with rfl | rfl | rfl<;>simp [En.at,tri]<;>omega
theorem val_mg {a b:List En} (h:cmpE a b=0) (hl:(mgL a b 3).length≤60):valE (mgL a b 3)=0:=by
  obtain ⟨ha,hb,_⟩:=cmp_ok h
  have hs:=pw_sort (mgL_sort ha hb (n:=3))
  have hd:=(mer_dist ha hb).perm (mgL_perm ha hb)
  have hfrom:∀x,x∈mgL a b 3→x∈a∨x∈b:=fun x hx=>((mg_mem ha hb).1 hx).imp id fun h=>(firstL_mem h).1
  have h4:∀x∈mgL a b 3,1≤x.s∧∀s',1≤s'→s'<x.s→∃y∈mgL a b 3,y.p=x.p∧y.s=s':=fun x hx=>by
    rcases hfrom x hx with hx | hx
    · have hv:=(val_mem ha hx).2.1
      refine ⟨hv.1,fun s' h1 h2 => ?_⟩
      obtain ⟨y,hy,e1,e2⟩:=val_has ha (q:=x.p) (Nat.le_refl _) s' h1 (by omega)
      exact ⟨y,(mg_mem ha hb).2 (Or.inl hy),e1,e2⟩
    · have hv:=(val_mem hb hx).2.1
      refine ⟨hv.1,fun s' h1 h2 => ?_⟩
      obtain ⟨y,hy,e1,e2⟩:=val_has hb (q:=x.p) (Nat.le_refl _) s' h1 (by omega)
      obtain ⟨z,hz,f1,f2,_⟩:=mg_second h hy
      exact ⟨z,hz,by rw [f1,e1],by rw [f2,e2]⟩
  have top:∀x∈mgL a b 3,x.s≤cntE (mgL a b 3) x.p (mgL a b 3).length:=fun x hx=>by
    obtain ⟨i,hi,rfl⟩:=mem_getD hx
    have h1:=(h4 _ hx).1
    have:=num_of hs hd h4 ((mgL a b 3).getD i default).s.toNat hi (by omega)
    have m:=@cntE_mono (mgL a b 3) ((mgL a b 3).getD i default).p (i+1) (mgL a b 3).length hi
    simp only [cntE,if_true] at m
    omega
  have ca:∀q,cntE a q a.length≤cntE (mgL a b 3) q (mgL a b 3).length:=fun q=>by
    by_cases e:cntE a q a.length=0
    · omega
    · obtain ⟨y,hy,e1,e2⟩:=val_has ha (q:=q) (Nat.le_refl _) (cntE a q a.length) (by omega) (Int.le_refl _)
      have:=top y ((mg_mem ha hb).2 (Or.inl hy))
      rw [e1,e2] at this;omega
  have cb:∀q,cntE b q b.length≤cntE (mgL a b 3) q (mgL a b 3).length:=fun q=>by
    by_cases e:cntE b q b.length=0
    · omega
    · obtain ⟨y,hy,e1,e2⟩:=val_has hb (q:=q) (Nat.le_refl _) (cntE b q b.length) (by omega) (Int.le_refl _)
      obtain ⟨z,hz,f1,f2,_⟩:=mg_second h hy
      have:=top z hz
      rw [f1,f2,e1,e2] at this;omega
  refine val_of hl hs hd (fun x hx => ?_) h4 fun x hx => ?_
  · rcases hfrom x hx with hx | hx
    · exact (val_mem ha hx).1
    · exact (val_mem hb hx).1
  · have a0:=ca 0
    have a1:=ca 1
    have a2:=ca 2
    have b0:=cb 0
    have b1:=cb 1
    have b2:=cb 2
    rcases hfrom x hx with hx | hx
    · obtain ⟨_,_,v3,v4,v5⟩:=val_mem ha hx
      refine ⟨v3,by rw [rang_iff] at v4 ⊢;omega,fun y hy => ?_⟩
      cases hse:seesB x y
      · rfl
      · have hse':=hse
        simp only [seesB,decide_eq_true_eq] at hse'
        have hpy:0≤y.p∧y.p≤2:=by
          rcases hfrom y hy with h | h
          · exact (val_mem ha h).1.1
          · exact (val_mem hb h).1.1
        have hle:=at_le v4 hpy
        obtain ⟨z,hz,e1,e2⟩:=val_has ha (q:=y.p) (Nat.le_refl _) y.s (h4 y hy).1 (by omega)
        have:=hd.eq ((mg_mem ha hb).2 (Or.inl hz)) hy e1 e2
        subst this
        have:=v5 z hz
        rw [hse] at this;exact this
    · obtain ⟨_,_,v3,v4,v5⟩:=val_mem hb hx
      refine ⟨v3,by rw [rang_iff] at v4 ⊢;omega,fun y hy => ?_⟩
      cases hse:seesB x y
      · rfl
      · have hse':=hse
        simp only [seesB,decide_eq_true_eq] at hse'
        have hpy:0≤y.p∧y.p≤2:=by
          rcases hfrom y hy with h | h
          · exact (val_mem ha h).1.1
          · exact (val_mem hb h).1.1
        have hle:=at_le v4 hpy
        obtain ⟨z,hz,e1,e2⟩:=val_has hb (q:=y.p) (Nat.le_refl _) y.s (h4 y hy).1 (by omega)
        obtain ⟨u,hu,f1,f2,f3,f4,f5⟩:=mg_second h hz
        have:=hd.eq hu hy (by rw [f1,e1]) (by rw [f2,e2])
        subst this
        have:=v5 z hz
        have es:seesB x z=seesB x u:=by unfold seesB;rw [f1,f2]
        have el:lessB x z=lessB x u:=by unfold lessB;rw [f3,f4,f5]
        rw [es,el,hse] at this;exact this
def Agree (a b:List En):Prop:=∀x∈a,∀y∈b,x.p=y.p→x.s=y.s→x=y
theorem Agree.symm {a b:List En}(h:Agree a b):Agree b a:=fun x hx y hy e1 e2=>(h y hy x hx e1.symm e2.symm).symm
theorem mer_iff {a b:List En}:merE a b=0↔cmpE a b=0∧(mgL a b 3).length≤60:=by
  constructor
  · intro h
    have hc:=mer_cmp h
    refine ⟨hc,?_⟩
    have hl:=mgL_length hc
    unfold merE at h
    rw [if_neg (by rw [hc];simp)] at h
    split at h
    · cases h
    · omega
  · rintro ⟨hc,hl⟩
    have:=mgL_length hc
    unfold merE
    rw [if_neg (by rw [hc];simp),if_neg (by omega)]
section
variable {lim:Nat}{H:Hp}{K:V→Hp→Prop}{v w u:V}{a b c:List En}
end
end Go.Proofs.YthfimpangfhliaaDoor.Vm
namespace Go.Proofs.YthfimpangfhliaaDoor.Vm
open Go
set_option linter.unusedVariables false
set_option linter.unusedSimpArgs false
set_option maxRecDepth 100000
attribute [-simp] List.getD_eq_getElem?_getD
def cutN (e:En):Int:=match deedP e.t with
  | some (.cut n)=>n
  | _=>0
def blN (e:En):Int:=match deedP e.t with
  | some .bleach=>1
  | _=>0
theorem step_a {h:Hs}{e:En}:(h.step e.t).a=h.a+cutN e:=by
  unfold Hs.step cutN
  cases deedP e.t with
  | none=>simp
  | some d=>cases d<;>simp [Hs.by]
theorem step_c {h:Hs}{e:En}:(h.step e.t).c=h.c+blN e:=by
  unfold Hs.step blN
  cases deedP e.t with
  | none=>simp
  | some d=>cases d<;>simp [Hs.by]
def sumF (f:En→Int)(l:List En):Int:=(l.map f).sum
theorem sum_perm {f:En→Int}{l m:List En}(h:l.Perm m):sumF f l=sumF f m:=by
  induction h with
  | nil=>rfl
  | cons x _ ih=>simp only [sumF,List.map_cons,List.sum_cons] at ih ⊢;omega
  | swap x y l=>simp only [sumF,List.map_cons,List.sum_cons];omega
  | trans _ _ h1 h2=>exact h1.trans h2
theorem sum_app {f:En→Int}{l m:List En}:sumF f (l++m)=sumF f l+sumF f m:=by
  simp only [sumF,List.map_append,List.sum_append]
def pickO (c:List En)(o:List Int):List En:=o.map fun i=>c.getD i.toNat default
theorem fold_sum {c:List En}{o:List Int}:∀{k:Nat},k≤o.length→(foldN c o k).a=sumF cutN ((pickO c o).take k)∧(foldN c o k).c=sumF blN ((pickO c o).take k)
  | 0,_=>⟨rfl,rfl⟩
  | k + 1,hk=>by
    obtain ⟨h1,h2⟩:=fold_sum (c:=c) (o:=o) (k:=k) (by omega)
    have hk':k<(pickO c o).length:=by simp only [pickO,List.length_map];omega
    have e:(pickO c o)[k]=c.getD (o.getD k 0).toNat default:=by
      simp only [pickO,List.getElem_map]
      rw [List.getD_eq_getElem?_getD (l:=o),List.getElem?_eq_getElem (by omega)];rfl
    rw [List.take_succ_eq_append_getElem hk',sum_app,sum_app]
    simp only [foldN,step_a,step_c,h1,h2,e,sumF,List.map_cons,List.map_nil,List.sum_cons,List.sum_nil]
    omega
theorem pick_id {c:List En}:∀{n:Nat},n≤c.length→pickO c (idL n)=c.take n
  | 0,_=>by simp [pickO,idL]
  | n+1,h=>by
    have ih:=pick_id (c:=c) (n:=n) (by omega)
    rw [idL_succ,List.take_succ_eq_append_getElem (by omega),←ih]
    simp only [pickO,List.map_append,List.map_cons,List.map_nil,Int.toNat_natCast]
    rw [List.getD_eq_getElem?_getD,List.getElem?_eq_getElem (by omega)];rfl
theorem ordR_perm {c:List En}(h:valE c=0):(ordR c).Perm (idL c.length):=by
  have e:ordR c=ordN c 181:=by simp [ordR,h]
  rw [e]
  have n1:(ordN c 181).Nodup:=(ordN_sort h).imp fun {x y} hxy e=>by subst e;unfold ltO at hxy;omega
  have n2:(idL c.length).Nodup:=by
    rw [idL]
    refine List.pairwise_map.2 (List.Pairwise.imp (fun {a b} hab e => ?_) (List.nodup_range (n:=c.length)))
    exact hab (Int.ofNat.inj e)
  refine (List.perm_ext_iff_of_nodup n1 n2).2 fun x => ?_
  rw [idL_mem,ordN_mem]
  constructor
  · rintro ⟨i,rfl,hi,_⟩;exact ⟨i,rfl,hi⟩
  · rintro ⟨i,rfl,hi⟩
    have r:=age_rng h hi
    have q:=val_pl h hi
    exact ⟨i,rfl,hi,by omega,by omega⟩
def histE (c:List En):Hs:=foldN c (ordR c) (ordR c).length
theorem hist_sum {c:List En}(h:valE c=0):(histE c).a=sumF cutN c∧(histE c).c=sumF blN c:=by
  have hp:(pickO c (ordR c)).Perm c:=by
    have:=(ordR_perm h).map fun i:Int=>c.getD i.toNat default
    have e:=pick_id (c:=c) (Nat.le_refl _)
    rw [List.take_length] at e
    unfold pickO at e ⊢
    rw [e] at this
    exact this
  obtain ⟨h1,h2⟩:=fold_sum (c:=c) (o:=ordR c) (Nat.le_refl _)
  rw [List.take_of_length_le (by simp [pickO])] at h1 h2
  exact ⟨h1.trans (sum_perm hp),h2.trans (sum_perm hp)⟩
theorem ba_eqv:∀s t:ByteArray,(s==t)=true→s=t
  | ⟨a⟩,⟨b⟩,h=>by
    have:(a==b)=true:=h
    have:a=b:=by simpa using this
    rw [this]
theorem both_mem {a b:List En}{x:En}:x∈bothL a b a.length↔x∈a∧hasN b x=true:=by
  constructor
  · intro hx
    obtain ⟨i,hi,rfl⟩:=mem_getD hx
    obtain ⟨j,hj,hg,e⟩:=filE_mem (g:=fun i=>hasN b (a.getD i default)) hi
    have e:(bothL a b a.length).getD i default=a.getD j default:=e
    rw [e]
    exact ⟨getD_mem hj,hg⟩
  · rintro ⟨hx,hn⟩
    obtain ⟨j,hj,rfl⟩:=mem_getD hx
    obtain ⟨i,hi,e⟩:=filE_in (g:=fun i=>hasN b (a.getD i default)) (c:=a) hj hn
    have:=getD_mem hi
    rw [e] at this
    exact this
theorem both_in {a b:List En}(h:cmpE a b=0){x:En}(hx:x∈bothL a b a.length):∃y∈b,y.p=x.p∧y.s=x.s∧y.a=x.a∧y.b=x.b∧y.c=x.c∧y.t=x.t:=by
  obtain ⟨ha,hb,_⟩:=cmp_ok h
  obtain ⟨hx,hn⟩:=both_mem.1 hx
  obtain ⟨i,hi,rfl⟩:=mem_getD hx
  have hQ:=q_one h hi
  rw [hn] at hQ
  obtain ⟨y,hy,e1,e2⟩:=hasN_iff.1 hn
  obtain ⟨j,hj,rfl⟩:=mem_getD hy
  rw [hasQ_at hb hj e1 e2] at hQ
  simp only [enEq,Bool.and_eq_true,decide_eq_true_eq] at hQ
  refine ⟨_,getD_mem hj,e1,e2,hQ.2.2.1.symm,hQ.2.2.2.1.symm,hQ.2.2.2.2.1.symm,?_⟩
  exact (ba_eqv _ _ hQ.2.2.2.2.2).symm
theorem val_meet {a b:List En}(h:cmpE a b=0):valE (bothL a b a.length)=0:=by
  obtain ⟨ha,hb,_⟩:=cmp_ok h
  have hs:SortR cfE 0 (bothL a b a.length).length (bothL a b a.length):=filE_sort ha
  have hd:Dist (bothL a b a.length):=by
    have hp:=filE_split (g:=fun i=>hasN b (a.getD i default)) (c:=a) (Nat.le_refl _)
    rw [List.take_length] at hp
    have:=(val_dist ha).perm hp
    exact (List.pairwise_append.1 this).1
  have h4:∀x∈bothL a b a.length,1≤x.s∧∀s',1≤s'→s'<x.s→∃y∈bothL a b a.length,y.p=x.p∧y.s=s':=fun x hx=>by
    obtain ⟨hxa,hn⟩:=both_mem.1 hx
    have hv:=(val_mem ha hxa).2.1
    refine ⟨hv.1,fun s' h1 h2 => ?_⟩
    obtain ⟨z,hz,f1,f2⟩:=hasN_iff.1 hn
    have hw:=(val_mem hb hz).2.1
    obtain ⟨y,hy,e1,e2⟩:=val_has ha (q:=x.p) (Nat.le_refl _) s' h1 (by omega)
    obtain ⟨u,hu,g1,g2⟩:=val_has hb (q:=x.p) (Nat.le_refl _) s' h1 (by rw [f1] at hw;omega)
    exact ⟨y,both_mem.2 ⟨hy,hasN_iff.2 ⟨u,hu,by rw [g1,e1],by rw [g2,e2]⟩⟩,e1,e2⟩
  have top:∀x∈bothL a b a.length,x.s≤cntE (bothL a b a.length) x.p (bothL a b a.length).length:=fun x hx=>by
    obtain ⟨i,hi,rfl⟩:=mem_getD hx
    have h1:=(h4 _ hx).1
    have:=num_of hs hd h4 ((bothL a b a.length).getD i default).s.toNat hi (by omega)
    have m:=@cntE_mono (bothL a b a.length) ((bothL a b a.length).getD i default).p (i+1) (bothL a b a.length).length hi
    simp only [cntE,if_true] at m
    omega
  have cq:∀q n:Int,n≤cntE a q a.length→n≤cntE b q b.length→n≤cntE (bothL a b a.length) q (bothL a b a.length).length:=fun q n h1 h2=>by
    by_cases e:n≤0
    · have:=@cntE_mono (bothL a b a.length) q 0 (bothL a b a.length).length (Nat.zero_le _)
      simp only [cntE] at this
      omega
    · obtain ⟨y,hy,e1,e2⟩:=val_has ha (q:=q) (Nat.le_refl _) n (by omega) h1
      obtain ⟨u,hu,g1,g2⟩:=val_has hb (q:=q) (Nat.le_refl _) n (by omega) h2
      have:=top y (both_mem.2 ⟨hy,hasN_iff.2 ⟨u,hu,by rw [g1,e1],by rw [g2,e2]⟩⟩)
      rw [e1,e2] at this
      exact this
  have hl:(bothL a b a.length).length≤60:=by
    have h1:(bothL a b a.length).length≤a.length:=filE_len
    have:=valE_small ha
    omega
  refine val_of hl hs hd (fun x hx=>(val_mem ha (both_mem.1 hx).1).1) h4 fun x hx => ?_
  obtain ⟨hxa,hn⟩:=both_mem.1 hx
  obtain ⟨_,_,v3,v4,v5⟩:=val_mem ha hxa
  refine ⟨v3,?_,fun y hy=>v5 y (both_mem.1 hy).1⟩
  obtain ⟨z,hz,_,_,e3,e4,e5,_⟩:=both_in h hx
  obtain ⟨_,_,_,w4,_⟩:=val_mem hb hz
  rw [rang_iff] at v4 w4 ⊢
  exact ⟨⟨v4.1.1,cq 0 _ v4.1.2 (by rw [←e3];exact w4.1.2)⟩,⟨v4.2.1.1,cq 1 _ v4.2.1.2 (by rw [←e4];exact w4.2.1.2)⟩,⟨v4.2.2.1,cq 2 _ v4.2.2.2 (by rw [←e5];exact w4.2.2.2)⟩⟩
theorem en_ext {x y:En}(h1:y.p=x.p)(h2:y.s=x.s)(h3:y.a=x.a)(h4:y.b=x.b)(h5:y.c=x.c)(h6:y.t=x.t):y=x:=by
  cases x;cases y
  simp_all
theorem dist_nodup {l:List En}(h:Dist l):l.Nodup:=List.Pairwise.imp (fun {x y} hxy e=>hxy (by rw [e];exact ⟨rfl,rfl⟩)) h
theorem both_dist {a b:List En}(ha:valE a=0):Dist (bothL a b a.length):=by
  have hp:=filE_split (g:=fun i=>hasN b (a.getD i default)) (c:=a) (Nat.le_refl _)
  rw [List.take_length] at hp
  have:=(val_dist ha).perm hp
  exact (List.pairwise_append.1 this).1
theorem both_comm {a b:List En}(h:cmpE a b=0):(bothL b a b.length).Perm (bothL a b a.length):=by
  obtain ⟨ha,hb,_⟩:=cmp_ok h
  refine (List.perm_ext_iff_of_nodup (dist_nodup (both_dist hb)) (dist_nodup (both_dist ha))).2 fun x => ?_
  constructor
  · intro hx
    obtain ⟨hxb,hn⟩:=both_mem.1 hx
    obtain ⟨y,hy,e1,e2⟩:=hasN_iff.1 hn
    have hyb:y∈bothL a b a.length:=both_mem.2 ⟨hy,hasN_iff.2 ⟨x,hxb,e1.symm,e2.symm⟩⟩
    obtain ⟨z,hz,f1,f2,f3,f4,f5,f6⟩:=both_in h hyb
    have e:z=x:=(val_dist hb).eq hz hxb (f1.trans e1) (f2.trans e2)
    have e2:z=y:=en_ext f1 f2 f3 f4 f5 f6
    rw [←e,e2];exact hyb
  · intro hx
    obtain ⟨z,hz,f1,f2,f3,f4,f5,f6⟩:=both_in h hx
    have e2:z=x:=en_ext f1 f2 f3 f4 f5 f6
    rw [e2] at hz
    exact both_mem.2 ⟨hz,hasN_iff.2 ⟨x,(both_mem.1 hx).1,rfl,rfl⟩⟩
theorem sums_mg {f:En→Int}{a b:List En}(h:cmpE a b=0):sumF f (mgL a b 3)+sumF f (bothL a b a.length)=sumF f a+sumF f b:=by
  obtain ⟨ha,hb,_⟩:=cmp_ok h
  have h1:=sum_perm (f:=f) (mgL_perm ha hb)
  have hp:=filE_split (g:=fun i=>hasN a (b.getD i default)) (c:=b) (Nat.le_refl _)
  rw [List.take_length] at hp
  have h2:=sum_perm (f:=f) hp
  have h3:=sum_perm (f:=f) (both_comm h)
  rw [sum_app] at h1 h2
  have e1:bothL b a b.length=filE (fun i=>hasN a (b.getD i default)) b b.length:=rfl
  have e2:firstL b a b.length=filE (fun i => !hasN a (b.getD i default)) b b.length:=rfl
  rw [e1] at h3
  rw [e2] at h1
  omega
theorem hist_mg {a b:List En}(h:merE a b=0)(hv:valE (mgL a b 3)=0) :
    (histE (mgL a b 3)).a+(histE (bothL a b a.length)).a=(histE a).a+(histE b).a∧(histE (mgL a b 3)).c+(histE (bothL a b a.length)).c=(histE a).c+(histE b).c:=by
  have hc:=mer_cmp h
  obtain ⟨ha,hb,_⟩:=cmp_ok hc
  obtain ⟨a1,a2⟩:=hist_sum ha
  obtain ⟨b1,b2⟩:=hist_sum hb
  obtain ⟨c1,c2⟩:=hist_sum hv
  obtain ⟨d1,d2⟩:=hist_sum (val_meet hc)
  rw [a1,a2,b1,b2,c1,c2,d1,d2]
  exact ⟨sums_mg hc,sums_mg hc⟩
end Go.Proofs.YthfimpangfhliaaDoor.Vm
namespace Go.Proofs.YthfimpangfhliaaDoor.Vm
open Go
set_option linter.unusedVariables false
set_option linter.unusedSimpArgs false
set_option maxRecDepth 100000
section
variable {lim:Nat}{H:Hp}{K:V→Hp→Prop}{v w:V}{a b:List En}
theorem hist_small {c:List En}:0≤(histE c).a∧(histE c).a≤4000000∧0≤(histE c).c∧(histE c).c≤40000:=by
  obtain ⟨h1,h2,h3,h4,h5,h6⟩:=foldN_small (c:=c) (o:=ordR c) (ordR c).length
  have:=ordR_len (c:=c)
  unfold histE
  omega
theorem card_FoldE {v:V}{c:List En}(hg:HX glHp H)(hc:LstV enC H v c)(hsh:shortC c)(hlim:lim≤H.length)
    (hK:∀H' bb s,HX H H'→K (.tup [.agg [.int .i64 (histE c).a,.int .i64 bb,.int .i64 (histE c).c,.str s],.int .i64 (valE c)]) H'):VCall tbl lim 8 [v] H K :=
  card_Fold hg hc hsh hlim fun H' x=>hK H' (histE c).b (histE c).s x
theorem val_short {c:List En}(h:valE c=0):shortC c:=by
  refine ⟨by have:=valE_small h;omega,fun i hi => ?_⟩
  have hr:=(val_mem h (getD_mem hi)).1.2
  simp only [rightB,Bool.and_eq_true,decide_eq_true_eq] at hr
  omega
theorem sp4 {x y z u a b c s:V}:splice [x,y,z,u] 0 [a,b,c,s]=[a,b,c,s]:=rfl
theorem rd40 {a b c:Int}{s:ByteArray}:rd none [V.int .i64 a,V.int .i64 b,V.int .i64 c,V.str s] 0=some (.int .i64 a):=rfl
theorem rd42 {a b c:Int}{s:ByteArray}:rd none [V.int .i64 a,V.int .i64 b,V.int .i64 c,V.str s] 2=some (.int .i64 c):=rfl
theorem law_CardSums (hv:EnsV H v a∧a.length≤maxLen)(hw:EnsV H w b∧b.length≤maxLen)(hg:HX glHp H)(hlim:lim≤H.length)(hK:∀H',K (.bool true) H'):VCall tbl lim 3 [v,w] H K:=by
  have ea:=hv.1.1
  have eb:=hw.1.1
  refine VCall_fn tbl_at3 rfl ?_
  simp [vf3,ea.stor,eb.stor]
  refine law_Long ea ?_
  cases hl:longC a
  case true =>
    simp
    refine law_known hlim fun H' _ => ?_
    simp
    exact hK _
  simp [ea.stor,eb.stor]
  refine law_Long eb ?_
  cases hl2:longC b
  case true =>
    simp
    refine law_known hlim fun H' _ => ?_
    simp
    exact hK _
  have sa:=long_short hl
  have sb:=long_short hl2
  simp [ea.stor,eb.stor]
  refine card_MergeG ea eb sa sb hlim fun H1 u1 x1 o1 => ?_
  replace x1:HX H H1:=x1
  have l1:=x1.len
  simp [ea.stor,eb.stor,o1.lst.stor,o1.lst.one]
  refine card_Meet (ea.mono x1) (eb.mono x1) sa sb (by omega) fun H2 u2 x2 o2 => ?_
  replace x2:HX H1 H2:=x2
  have l2:=x2.len
  simp [ea.stor,eb.stor,o1.lst.stor,o1.lst.one,o2.lst.stor,o2.lst.one]
  by_cases hm:merE a b=0
  case neg =>
    simp [hm]
    refine law_known (by omega) fun H' _ => ?_
    simp
    exact hK _
  have hc:=mer_cmp hm
  obtain ⟨va,vb,_⟩:=cmp_ok hc
  have hvm:valE (mgL a b 3)=0:=val_mg hc (mer_iff.1 hm).2
  have hve:=val_meet hc
  have s3:=val_short hvm
  have s4:=val_short hve
  have q1:merL a b=mgL a b 3:=by simp [merL,hm]
  have q2:meetL a b=bothL a b a.length:=by simp [meetL,hc]
  rw [q1] at o1
  rw [q2] at o2
  simp [hm,hc,ea.stor]
  refine card_FoldE (hg.trans (x1.trans x2)) (ea.mono (x1.trans x2)) sa (by omega) fun H3 b3 t3 x3 => ?_
  have l3:=x3.len
  simp [eb.stor,va]
  refine card_FoldE (hg.trans (x1.trans (x2.trans x3))) (eb.mono (x1.trans (x2.trans x3))) sb (by omega) fun H4 b4 t4 x4 => ?_
  have l4:=x4.len
  simp [o1.lst.stor,vb]
  refine card_FoldE (hg.trans (x1.trans (x2.trans (x3.trans x4)))) (o1.lst.mono (x2.trans (x3.trans x4))) s3 (by omega) fun H5 b5 t5 x5 => ?_
  have l5:=x5.len
  simp [o2.lst.stor,hvm]
  refine card_FoldE (hg.trans (x1.trans (x2.trans (x3.trans (x4.trans x5))))) (o2.lst.mono (x3.trans (x4.trans x5))) s4 (by omega) fun H6 b6 t6 x6 => ?_
  have l6:=x6.len
  obtain ⟨k1,k2⟩:=hist_mg hm hvm
  have z1:=hist_small (c:=a)
  have z2:=hist_small (c:=b)
  have z3:=hist_small (c:=mgL a b 3)
  have z4:=hist_small (c:=bothL a b a.length)
  generalize (histE a).a=a1 at *
  generalize (histE b).a=a2 at *
  generalize (histE (mgL a b 3)).a=a3 at *
  generalize (histE (bothL a b a.length)).a=a4 at *
  generalize (histE a).c=c1 at *
  generalize (histE b).c=c2 at *
  generalize (histE (mgL a b 3)).c=c3 at *
  generalize (histE (bothL a b a.length)).c=c4 at *
  simp (disch:=omega) [hve,sp4,rd40,rd42,wrap_i64,k1,k2]
  refine law_known (by omega) fun H' _ => ?_
  simp
  exact hK _
end
end Go.Proofs.YthfimpangfhliaaDoor.Vm
namespace Go.Proofs.YthfimpangfhliaaDoor.Vm
open Go Go.RowKit Go.ChangeShapes
set_option linter.unusedVariables false
set_option linter.unusedSimpArgs false
set_option maxRecDepth 100000
attribute [-simp] List.getD_eq_getElem?_getD
theorem Good.obj {ρ:Loc}{w:World}{k:Nat}(G:Good ρ (glHp.take k) w)(hU:GUp ρ k)(hk:k<glMap.length)(he:glMap[k]=(none,[])){r o:Nat}{C:Array Value}{el:TypeId}{fz:Nat×Nat}(h1:w.heap[r]? = some (.cells C el fz))(h2:o≤C.size) :
    ∃ρ',Good ρ' (glHp.take (k+1)) w∧GUp ρ' (k+1)∧(∀b y,ρ b=some y→ρ' b=some y)∧ρ' k=some (r,o,0):=by
  obtain ⟨ρ',_,a2,a3,a4⟩:=G.row (cap:=0) (cs:=[]) (o:=o) h1 (by omega) (Nat.le_refl _) (fun i hi=>by simp at hi)
  have hl:(glHp.take k).length=k:=by rw [List.length_take,glHp_len];omega
  have ht:=glHp_take hk
  rw [he] at ht
  rw [←ht] at a2
  rw [hl] at a4
  refine ⟨ρ',a2,fun j g cs hj e => ?_,a3,a4⟩
  by_cases hjk:j=k
  · subst hjk
    rw [List.getElem?_eq_getElem hk,he] at e
    cases e
  · exact a3 _ _ (hU j g cs (by omega) e)
theorem var_heap {P:Program}{W:World}{name:String}{g:Nat}{cs:Array Value}(hg:P.globalNamed name=some g)(hv:W.var? P name=some cs):∃el fz,W.heap[g]? = some (.cells cs el fz):=by
  simp only [World.var?,hg,Option.bind_some] at hv
  split at hv<;>simp_all
theorem cell_heap {W:World}{a:Addr}{v:Value}(h:W.cell? a=some v):a=⟨a.block,a.off,none⟩∧∃C el fz,W.heap[a.block]? = some (.cells C el fz)∧a.off≤C.size:=by
  unfold World.cell? at h
  split at h
  case h_2=>cases h
  rename_i C el fz hb
  split at h
  · cases h
  rename_i hs
  refine ⟨?_,C,el,fz,hb,Nat.le_of_lt (Array.getElem?_eq_some_iff.1 h).1⟩
  obtain ⟨b,o,s⟩:=a
  cases s with
  | none=>rfl
  | some x=>simp at hs
theorem row1_at {ρ:Loc}{t:TypeId}{b:Nat}{x:Value}(h:VR ρ (.ptr b 0) x):RowAt ρ [.iface t (.ptr b 0)] #[.iface t x] 0:=by
  intro i hi
  have:i=0:=by simp at hi;omega
  subst this
  exact ⟨.iface h,rfl⟩
def laidT:List (String×DataW Unit):=[("math/bits.deBruijn32tab",Rows.laid_math_bits_deBruijn32tab),("math/bits.deBruijn64tab",Rows.laid_math_bits_deBruijn64tab),("internal/strconv.uint64pow10",Rows.laid_internal_strconv_uint64pow10),("strconv.ErrRange",Rows.laid_strconv_ErrRange),("strconv.ErrSyntax",Rows.laid_strconv_ErrSyntax)]
theorem starE : "*" ++ "errors.errorString" = "*errors.errorString" := by decide
theorem rowE (u:TypeId)(h:Tryd.prog.typeName? 3 u=some "*errors.errorString"):u=132 :=
  typeName_ptr_named (nm := "errors.errorString") (by rw [starE];kernel_rfl) (by kernel_rfl) (by decide) u (by rw [starE];exact h)
def pow10R:List V:=(List.range 20).map fun i=>.int .u64 (10 ^ i:Nat)
theorem glMap_eq:glMap=[(some 3,pow10R),(none,[]),(none,[]),(some 1,[.iface 132 (.ptr 1 0)]),(some 2,[.iface 132 (.ptr 2 0)])]:=by kernel_rfl
theorem tx_start {W:World}(h:laidMetH Tryd.prog laidT W):∃ρ,Good ρ glHp W∧GRel ρ:=by
  rw [MakeChecks.laidMetH_plain _ _ _ (by kernel_rfl)] at h
  have hgp:Tryd.prog.globalNamed "internal/strconv.uint64pow10" = some 3:=by kernel_rfl
  have hgR:Tryd.prog.globalNamed "strconv.ErrRange" = some 2:=by kernel_rfl
  have hgS:Tryd.prog.globalNamed "strconv.ErrSyntax" = some 1:=by kernel_rfl
  have h3:=laidMet.tail (laidMet.tail h)
  have h5:=laidMet.tail h3
  have h6:=laidMet.tail h5
  obtain ⟨ps,⟨g',t',cs,fuel,p,q,hg',ht',hv,htr,_,_⟩,_⟩:=h3
  obtain rfl:=Option.some.inj (hgp.symm.trans hg')
  have eT:(Tryd.prog.globals[3]?).map (·.type)=some 136:=by kernel_rfl
  obtain rfl:=Option.some.inj (eT.symm.trans ht')
  have hlf:leaf Tryd.prog 8 136 Rows.laid_internal_strconv_uint64pow10 0=some ((List.range pow10R.length).zip pow10R):=by kernel_rfl
  obtain ⟨el1,fz1,a1,a2,a3⟩:=flat_var hgp hlf hv htr
  obtain ⟨aR,sR,vR,cR,_,_⟩:=laid_sentinel (tp:=132) (te:=134) (ts:=9) h5 hgR (ti:=72) (by kernel_rfl) Tryd.underlying72 rowE Tryd.underlying132 Tryd.underlying134 rfl rfl Tryd.underlying9 (by kernel_rfl) (by kernel_rfl)
  obtain ⟨aS,sS,vS,cS,_,_⟩:=laid_sentinel (tp:=132) (te:=134) (ts:=9) h6 hgS (ti:=72) (by kernel_rfl) Tryd.underlying72 rowE Tryd.underlying132 Tryd.underlying134 rfl rfl Tryd.underlying9 (by kernel_rfl) (by kernel_rfl)
  obtain ⟨elR,fzR,bR⟩:=var_heap hgR vR
  obtain ⟨elS,fzS,bS⟩:=var_heap hgS vS
  obtain ⟨eR,CR,tR,zR,oR,lR⟩:=cell_heap cR
  obtain ⟨eS,CS,tS,zS,oS,lS⟩:=cell_heap cS
  have hlen:glMap.length=5:=by rw [glMap_eq];rfl
  have e0:glMap[0]'(by omega)=(some 3,pow10R):=by simp only [glMap_eq];rfl
  have e1:glMap[1]'(by omega)=(none,[]):=by simp only [glMap_eq];rfl
  have e2:glMap[2]'(by omega)=(none,[]):=by simp only [glMap_eq];rfl
  have e3:glMap[3]'(by omega)=(some 1,[.iface 132 (.ptr 1 0)]):=by simp only [glMap_eq];rfl
  have e4:glMap[4]'(by omega)=(some 2,[.iface 132 (.ptr 2 0)]):=by simp only [glMap_eq];rfl
  have G0:Good (fun _=>none) (glHp.take 0) W:=Good.start
  obtain ⟨ρ1,c1,u1,m1,_⟩:=Good.var G0 (fun k _ _ hk=>absurd hk (by omega)) (k:=0) (by omega) a1 (by rw [e0];exact a2) (by rw [e0];exact a3 _) (fun g' e=>by rw [e0] at e;exact (Option.some.inj e).symm)
  obtain ⟨ρ2,c2,u2,m2,q2⟩:=Good.obj c1 u1 (by omega) e1 oS lS
  obtain ⟨ρ3,c3,u3,m3,q3⟩:=Good.obj c2 u2 (by omega) e2 oR lR
  have vS2:VR ρ3 (.ptr 1 0) (.pointer (some aS)):=by
    rw [eS];exact .ptr (m3 _ _ q2)
  have vR2:VR ρ3 (.ptr 2 0) (.pointer (some aR)):=by
    rw [eR];exact .ptr q3
  obtain ⟨ρ4,c4,u4,m4,_⟩:=Good.var c3 u3 (k:=3) (by omega) bS (by rw [e3];exact Nat.le_refl 1) (by rw [e3];exact row1_at vS2) (fun g' e=>by rw [e3] at e;exact (Option.some.inj e).symm)
  obtain ⟨ρ5,c5,u5,m5,_⟩:=Good.var c4 u4 (k:=4) (by omega) bR (by rw [e4];exact Nat.le_refl 1) (by rw [e4];exact row1_at (vR2.mono m4)) (fun g' e=>by rw [e4] at e;exact (Option.some.inj e).symm)
  rw [show (4+1)=glMap.length by omega] at c5 u5
  exact Good.vars c5 u5
noncomputable def witT (os:Os):World:=World.laidAll Tryd.prog os laidT
theorem witT_met (os:Os)(args:Array Value):laidMetH Tryd.prog laidT ((witT os).forCall (fun _ _=>0) ⟨#[],args,[]⟩).memory:=by
  rw [MakeChecks.laidMetH_plain _ _ _ (by kernel_rfl)]
  exact laidMet_laidAll _ (by kernel_rfl) (by kernel_rfl)
theorem witT_shaped (os:Os):(witT os).Shaped Tryd.prog:=World.shaped_of_ZipB (by kernel_rfl) (by kernel_rfl)
end Go.Proofs.YthfimpangfhliaaDoor.Vm
