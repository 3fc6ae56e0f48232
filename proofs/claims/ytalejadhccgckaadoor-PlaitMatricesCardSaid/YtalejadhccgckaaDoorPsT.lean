/- The parser of styles over the machine: its small functions. -/
import Derived.Test.YtalejadhccgckaaDoorVmTab0
import Derived.Test.YtalejadhccgckaaDoorPsP
import Derived.Test.YtalejadhccgckaaDoorVmPan
namespace Go.Proofs.YtalejadhccgckaaDoor.Vm.T0
open Go Go.Proofs.YtalejadhccgckaaDoor.Vm
set_option maxRecDepth 100000
set_option linter.unusedSimpArgs false
set_option linter.unusedVariables false
attribute [-simp] List.getD_eq_getElem?_getD
def pr (s:ByteArray)(i d:Int):Blk:=.row [.str s,.int .i64 i,.int .i64 d] true
section
variable {H:Hp}{b:Nat}{s:ByteArray}{i d:Int}{L:Lo}{lim:Nat}
theorem ld0 (h:H[b]? = some (pr s i d)):vload none L H (.ptr b 0)=some (.str s):=by simp only [vload,h,pr];rfl
theorem ld1 (h:H[b]? = some (pr s i d)):vload none L H (.ptr b 1)=some (.int .i64 i):=by simp only [vload,h,pr];rfl
theorem ld2 (h:H[b]? = some (pr s i d)):vload none L H (.ptr b 2)=some (.int .i64 d):=by simp only [vload,h,pr];rfl
theorem st1 (h:H[b]? = some (pr s i d))(hl:lim≤b){x:Int}:vstoreH lim H b 1 [.int .i64 x]=some (H.set b (pr s x d)):=by
  simp [vstoreH,h,hl,pr,splice]
theorem st2 (h:H[b]? = some (pr s i d))(hl:lim≤b){x:Int}:vstoreH lim H b 2 [.int .i64 x]=some (H.set b (pr s i x)):=by
  simp [vstoreH,h,hl,pr,splice]
theorem hset (h:H[b]? = some (pr s i d)){i' d':Int}{X:Hp}:(H.set b (pr s i' d')++X)[b]? = some (pr s i' d'):=by
  have hb:=(List.getElem?_eq_some_iff.1 h).1
  rw [List.getElem?_append_left (by simpa using hb)]
  simp [hb]
theorem hset0 (h:H[b]? = some (pr s i d)){i' d':Int}:(H.set b (pr s i' d'))[b]? = some (pr s i' d'):=by
  have hb:=(List.getElem?_eq_some_iff.1 h).1
  simp [hb]
theorem hset2 (h:H[b]? = some (pr s i d)){i' d' i2 d2:Int}{X Y:Hp}:(H.set b (pr s i' d')++X).set b (pr s i2 d2)++Y=H.set b (pr s i2 d2)++(X++Y):=by
  have hb:=(List.getElem?_eq_some_iff.1 h).1
  rw [List.set_append_left _ _ (by simpa using hb),List.set_set,List.append_assoc]
theorem hset3 (h:H[b]? = some (pr s i d)){i' d' i2 d2:Int}{X:Hp}:(H.set b (pr s i' d')++X).set b (pr s i2 d2)=H.set b (pr s i2 d2)++X:=by
  have:=hset2 h (i':=i') (d':=d') (i2:=i2) (d2:=d2) (X:=X) (Y:=[])
  simpa using this
end
theorem chk_set {H X:Hp}{b:Nat}{x:Blk}(h:chkU8 H=true)(hb:2≤b):chkU8 (H.set b x++X)=true:=by
  simp only [chkU8,Bool.and_eq_true] at h ⊢
  have key:∀c t,c<2→rowIs H c t=true→rowIs (H.set b x++X) c t=true:=by
    intro c t hc h
    unfold rowIs at h ⊢
    split at h
    case h_2=>cases h
    rename_i cs own hq
    have e:(H.set b x++X)[c]? = some (.row cs own):=by
      rw [List.getElem?_append_left (by have:=(List.getElem?_eq_some_iff.1 hq).1;simpa using this),List.getElem?_set_ne (by omega)];exact hq
    rw [e];exact h
  exact ⟨key _ _ (by decide) h.1,key _ _ (by decide) h.2⟩
theorem next_ok {H:Hp}{lim b i:Nat}{s:ByteArray}{d:Int}{K:V→Hp→Prop}(h:H[b]? = some (pr s i d))(hl:lim≤b)(hs:s.size≤1000000)(hi:i<s.size)(hK:K (.int .u8 (chT s i:Nat)) (H.set b (pr s ((i+1:Nat):Int) d))):VCall tbl lim 104 [.ptr b 0] H K:=by
  refine VCall_fn tbl_at104 rfl ?_
  have hne:((i:Int)=(s.size:Int))=False:=eq_false (by omega)
  have h1:=hset0 h (i':=(i:Int)+1) (d':=d)
  have hx:=idxT hi
  simp (disch:=omega) [vf104,ld0 h,ld1 h,hne,st1 h hl,ld0 h1,ld1 h1,wrap_i64,hx]
  exact hK
theorem short_t {H:Hp}{lim:Nat}{w:ByteArray}{K:V→Hp→Prop}(hs:w.size≤1000000)(hK:K (.str (cutW w)) H):VCall tbl lim 90 [.str w] H K:=by
  refine VCall_fn tbl_at90 rfl ?_
  have e:vslT (.str w) none (some (.int .i64 (min (w.size:Int) 61)))=some (.str (cutW w)):=by
    by_cases h:w.size≤61
    · have e1:(min (w.size:Int) 61)=w.size:=by omega
      simp only [vslT,vbounds,vint,e1,cutW,h,if_true]
      rw [if_pos (by omega),if_pos (by omega)]
      simp
    · have e1:(min (w.size:Int) 61)=61:=by omega
      simp only [vslT,vbounds,vint,e1,cutW,h,if_false]
      rw [if_pos (by omega),if_pos (by omega)]
      rfl
  simp [vf90,e]
  exact hK
theorem mirrorL_t {H:Hp}{lim:Nat}{s:ByteArray}{K:V→Hp→Prop}(hc:chkU8 H=true)(hb:s.size≤1000000)(hv:ltr s)(hK:K (.str (mp oppF s)) H):VCall tbl lim 65 [.str s] H K:=by
  refine VCall_fn tbl_at65 rfl ?_
  simp [vf65]
  have e:(⟨(Lib.mapD oppF s.data.toList).toArray⟩:ByteArray)=mp oppF s:=by
    rw [mapD_let (fun n h=>⟨(oppF_let h).1,(oppF_let h).2.1⟩) _ (ltr_all hv)];rfl
  refine VCall_prim (g:=pMap) (bs:=[]) tbl_at86 rfl rfl (v:=.str (mp oppF s)) ?_ ?_
  · simp [pMap,flatP,hc,flatV,gMap,flatT,show s.size<35184372088832 by omega,e]
  · simp;exact hK
theorem flipL_t {H:Hp}{lim:Nat}{s:ByteArray}{K:V→Hp→Prop}(hc:chkU8 H=true)(hb:s.size≤1000000)(hv:ltr s)(hK:K (.str (mp neiF s)) H):VCall tbl lim 66 [.str s] H K:=by
  refine VCall_fn tbl_at66 rfl ?_
  simp [vf66]
  have e:(⟨(Lib.mapD neiF s.data.toList).toArray⟩:ByteArray)=mp neiF s:=by
    rw [mapD_let (fun n h=>⟨(neiF_let h).1,(neiF_let h).2.1⟩) _ (ltr_all hv)];rfl
  refine VCall_prim (g:=pMap) (bs:=[]) tbl_at86 rfl rfl (v:=.str (mp neiF s)) ?_ ?_
  · simp [pMap,flatP,hc,flatV,gMap,flatT,show s.size<35184372088832 by omega,e]
  · simp;exact hK
theorem reverse_t {H1:Hp}{lim n:Nat}{f:Nat→Int}{K:V→Hp→Prop}(hlim:lim≤H1.length)(hn:n≤1000000)(hK:K (.tup []) (H1++[.row (rowF n fun j=>f (n-1-j)) true])):VCall tbl lim 79 [.sl H1.length 0 n 1] (H1++[.row (rowF n f) true]) K:=by
  refine VCall_fn tbl_at79 rfl ?_
  have hl:∀(g:Nat→Int) (j:Nat),j<n→vload none [] (H1++[.row (rowF n g) true]) (.ptr H1.length j)=some (.int .u8 (g j)):=by
    intro g j hj
    simp only [vload,lastO,rd,rowF_len,hj,if_true]
    rw [List.getD_eq_getElem?_getD,rowF_get hj];rfl
  have hs:∀(g:Nat→Int) (j:Nat) (x:Int),j<n→vstoreH lim (H1++[.row (rowF n g) true]) H1.length j [.int .u8 x]=some (H1++[.row (rowF n (upf g j x)) true]):=by
    intro g j x hj
    have e:j+1≤n:=hj
    simp [vstoreH,hlim,rowF_len,e,rowF_set hj]
  have ha:∀j:Nat,j<n→viaddrS 1 (.sl H1.length 0 n 1) (.int .i64 (j:Int))=some (.ptr H1.length j):=by
    intro j hj
    simp only [viaddrS,vint,if_true]
    rw [if_pos (by omega)]
    simp
  simp (disch:=omega) [vf79,wrap_i64]
  refine wLoop_up n (fun i fr L H'=>(fr 0=.sl H1.length 0 n 1∧fr 2=.int .i64 i∧fr 3=.int .i64 ((n:Int)-1-i))∧L=[]∧H'=H1++[.row (rowF n (rvF n i f)) true]∧2*i≤n+1) ⟨by simp,rfl,?_,by omega⟩ ?_
  · show H1++[.row (rowF n f) true]=_
    rw [rowF_ext (f:=rvF n 0 f) (g:=f) fun j hj=>by simp only [rvF];rw [if_neg (by omega)]]
  rintro i hi fr L H' ⟨⟨f0,f2,f3⟩,rfl,rfl,hle⟩
  by_cases hp:2*i+1<n
  · obtain ⟨k,hk⟩:∃k:Nat,k=n-1-i:=⟨_,rfl⟩
    have f3':fr 3=.int .i64 (k:Int):=by rw [f3];congr 1;omega
    have hp':((i:Int)<(k:Int))=True:=eq_true (by omega)
    have e1:rowF n (upf (upf (rvF n i f) i (rvF n i f k)) k (rvF n i f i))=rowF n (rvF n (i+1) f):=by
      refine rowF_ext fun j hj => ?_
      simp only [upf,rvF]
      repeat' split
      all_goals first | rfl | omega | (congr 1;omega)
    simp (disch:=omega) [f0,f2,f3',hp',ha,hl,hs,wrap_i64]
    rw [e1]
    and_intros<;>first | omega | rfl
  · have hp':((i:Int)<(n:Int)-1-i)=False:=eq_false (by omega)
    simp [f0,f2,f3,hp']
    have e:rowF n (rvF n i f)=rowF n fun j=>f (n-1-j):=by
      refine rowF_ext fun j hj => ?_
      simp only [rvF]
      split
      · rfl
      · congr 1;omega
    rw [e];exact hK
theorem inverseL_t {H:Hp}{lim:Nat}{s:ByteArray}{K:V→Hp→Prop}(hc:chkU8 H=true)(hlim:lim≤H.length)(hb:s.size≤1000000)(hv:ltr s)(hK:∀X,K (.str (rvB (mp oppF s))) (H++X)):VCall tbl lim 61 [.str s] H K:=by
  refine VCall_fn tbl_at61 rfl ?_
  simp [vf61]
  refine mirrorL_t hc hb hv ?_
  have hm:=mp_size (F:=oppF) (s:=s)
  generalize mp oppF s=m at hK hm
  simp [vbytes_row]
  refine reverse_t hlim (by omega) ?_
  have e:vstrB (H++[.row (rowF m.size fun j=>(chT m (m.size-1-j):Int)) true]) (.sl H.length 0 m.size 1)=some (.str (rvB m)):=by
    simp only [vstrB,vcells,if_true,lastO,rowF_len,Nat.zero_add,Nat.mul_one,Nat.le_refl,List.drop_zero]
    rw [List.take_of_length_le (by rw [rowF_len];omega),bytesOf_row (g:=fun j=>chT m (m.size-1-j)) fun j _=>chT_lt]
    simp only
    rw [text_row rvB_size fun j hj=>(chT_rvB hj).symm]
  simp [e]
  exact hK _
theorem repeat_t {H:Hp}{lim:Nat}{s:ByteArray}{c:Nat}{K:V→Hp→Prop}(hs:s.size≤61)(hn:c≤60)(hK:K (.str (rep s c)) H):VCall tbl lim 62 [.str s,.int .i64 (c:Int)] H K:=by
  refine VCall_prim (g:=pRepeat) (bs:=[]) tbl_at62 rfl rfl (v:=.str (rep s c)) ?_ (by simpa using hK)
  have h3:s.size*c≤3660:=Nat.mul_le_mul hs hn
  have h4:s.size*c≤140737488355328:=by omega
  have h5:c≤9223372036854775807:=by omega
  simp [pRepeat,flatP,flatV,gRepeat,flatT,h4,h5,rep]
end Go.Proofs.YtalejadhccgckaaDoor.Vm.T0
