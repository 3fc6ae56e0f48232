/- Words turned: mirror, flip, inverse, power, of both. -/
import Derived.Test.YtalejadhccgckaaDoorPmA
namespace Go.Proofs.YtalejadhccgckaaDoor.Vm
open Go
set_option maxRecDepth 100000
set_option linter.unusedSimpArgs false
set_option linter.unusedVariables false
attribute [-simp] List.getD_eq_getElem?_getD
theorem vld_all {s:ByteArray}(h:vld s=true):∀b∈s.data.toList,isL b.toNat=true:=by
  intro b hb
  obtain ⟨i,hi,rfl⟩:=List.getElem_of_mem hb
  simp only [vld,Bool.and_eq_true] at h
  have hi':i<s.data.size:=by simpa using hi
  have:=allN_at h.1 (i:=i) hi'
  simpa [letB,chT,Array.getD_eq_getD_getElem?,Array.getElem?_eq_getElem hi'] using this
theorem mirror_t {H:Hp}{lim:Nat}{s:ByteArray}{K:V→Hp→Prop}(hc:chkU8 H=true)(hv:vld s=true)(hK:K (.str (mp oppF s)) H):VCall tbl lim 65 [.str s] H K:=by
  refine VCall_fn tbl_at65 rfl ?_
  simp [vf65]
  have hb:=vld_len hv
  have e:(⟨(Lib.mapD oppF s.data.toList).toArray⟩:ByteArray)=mp oppF s:=by
    rw [mapD_let (fun n h=>⟨(oppF_let h).1,(oppF_let h).2.1⟩) _ (vld_all hv)];rfl
  refine VCall_prim (g:=pMap) (bs:=[]) tbl_at86 rfl rfl (v:=.str (mp oppF s)) ?_ ?_
  · simp [pMap,flatP,hc,flatV,gMap,flatT,show s.size<35184372088832 by omega,e]
  · simp;exact hK
theorem flip_t {H:Hp}{lim:Nat}{s:ByteArray}{K:V→Hp→Prop}(hc:chkU8 H=true)(hv:vld s=true)(hK:K (.str (mp neiF s)) H):VCall tbl lim 66 [.str s] H K:=by
  refine VCall_fn tbl_at66 rfl ?_
  simp [vf66]
  have hb:=vld_len hv
  have e:(⟨(Lib.mapD neiF s.data.toList).toArray⟩:ByteArray)=mp neiF s:=by
    rw [mapD_let (fun n h=>⟨(neiF_let h).1,(neiF_let h).2.1⟩) _ (vld_all hv)];rfl
  refine VCall_prim (g:=pMap) (bs:=[]) tbl_at86 rfl rfl (v:=.str (mp neiF s)) ?_ ?_
  · simp [pMap,flatP,hc,flatV,gMap,flatT,show s.size<35184372088832 by omega,e]
  · simp;exact hK
end Go.Proofs.YtalejadhccgckaaDoor.Vm
namespace Go.Proofs.YtalejadhccgckaaDoor.Vm
open Go
set_option maxRecDepth 100000
set_option linter.unusedSimpArgs false
set_option linter.unusedVariables false
attribute [-simp] List.getD_eq_getElem?_getD
def oneB (n:Int):ByteArray:=⟨#[UInt8.ofNat n.toNat]⟩
theorem oneB_size {n:Int}:(oneB n).size=1:=rfl
theorem chT_oneB {n:Int}(h:0≤n)(h2:n<256):(chT (oneB n) 0:Int)=n:=by
  simp [chT,oneB,Array.getD_eq_getD_getElem?];omega
theorem vstrB_one {H:Hp}{n:Int}:vstrB (H++[.row [.int .u8 n] true]) (.sl H.length 0 1 1)=some (.str (oneB n)):=by
  simp [vstrB,vcells,bytesOf,byteOf,oneB]
theorem opp_r {H:Hp}{lim:Nat}{l:Nat}{K:V→Hp→Prop}(hl:l=97∨l=65∨l=98∨l=66)(hK:K (.int .u8 (oppF l)) H):VCall tbl lim 56 [.int .u8 l] H K:=by
  refine VCall_fn tbl_at56 rfl ?_
  rcases hl with rfl | rfl | rfl | rfl<;>simp [vf56,oppF] at hK ⊢<;>exact hK
theorem mp_of {F:Int→Int}{s t:ByteArray}(h:t.size=s.size)(hc:∀k,k<s.size→(chT t k:Int)=F (chT s k:Nat)):t=mp F s:=by
  refine ba_ext (by rw [mp_size,h]) fun k hk => ?_
  have hk':k<s.size:=by omega
  have e:=hc k hk'
  have hlt:=chT_lt (s:=t) (i:=k)
  rw [chT_mp hk' (by omega)]
  omega
theorem chT_snoc {t:ByteArray}{n:Int}{k:Nat}(h:0≤n∧n<256)(hk:k<t.size+1):(chT (t++oneB n) k:Int)=if k<t.size then (chT t k:Int) else n:=by
  rw [chT_app]
  split
  · rfl
  · have:k-t.size=0:=by omega
    rw [this];exact chT_oneB h.1 h.2
theorem swapped_r {H:Hp}{lim:Nat}{s:ByteArray}{K:V→Hp→Prop}(hv:vld s=true)(hK:∀X,K (.str (mp oppF s)) (H++X)):VCall tbl lim 64 [.str s] H K:=by
  refine VCall_fn tbl_at64 rfl ?_
  have hb:=vld_len hv
  simp [vf64]
  refine wLoop_up s.size (fun i fr L H'=>(fr 0=.str s∧fr 4=.int .i64 i)∧(∃t,fr 3=.str t∧t.size=i∧∀k,k<i→(chT t k:Int)=oppF (chT s k:Nat))∧L=[]∧(∃X,H'=H++X)∧i≤s.size) ⟨by simp,⟨_,by simp;rfl,rfl,fun k hk=>absurd hk (by omega)⟩,rfl,⟨[],by simp⟩,by omega⟩ ?_
  rintro i hi fr L H' ⟨⟨f0,f4⟩,⟨t,f3,ht,hq⟩,rfl,⟨X,rfl⟩,hle⟩
  by_cases hp:i<s.size
  · have hp':((i:Int)<(s.size:Int))=True:=eq_true (by omega)
    have hl:=vld_at hv hp
    have hx:=idxT hp
    have hr:0≤oppF (chT s i:Nat)∧oppF (chT s i:Nat)<256:=by
      rcases hl with e | e | e | e<;>rw [e]<;>decide
    simp [f0,f3,f4,hp',hx]
    refine opp_r hl ?_
    have ha:=vadd_str (a:=t) (b:=oneB (oppF (chT s i:Nat))) (by rw [ht,oneB_size];omega)
    have hs1:=vstrB_one (H:=H++X) (n:=oppF (chT s i:Nat))
    simp only [List.append_assoc,List.length_append] at hs1
    simp (disch:=omega) [f0,f3,f4,splice,hs1,ha,wrap_i64]
    refine ⟨hp,?_,hp⟩
    refine ⟨by rw [ht];rfl,fun k hk => ?_⟩
    rw [chT_snoc hr (by omega)]
    split
    · rename_i h;exact hq k (by omega)
    · rename_i h
      have:k=i:=by omega
      rw [this]
  · have hp':((i:Int)<(s.size:Int))=False:=eq_false (by omega)
    have hi:i=s.size:=by omega
    simp [f0,f3,f4,hp']
    rw [mp_of (F:=oppF) (s:=s) (t:=t) (by omega) (fun k hk=>hq k (by omega))]
    exact hK X
end Go.Proofs.YtalejadhccgckaaDoor.Vm
namespace Go.Proofs.YtalejadhccgckaaDoor.Vm
open Go
set_option maxRecDepth 100000
set_option linter.unusedSimpArgs false
set_option linter.unusedVariables false
attribute [-simp] List.getD_eq_getElem?_getD
theorem flipped_r {H:Hp} {lim:Nat} {s:ByteArray} {K:V→Hp→Prop} (hv:vld s=true) (hK:∀X,K (.str (mp neiF s)) (H++X)):VCall tbl lim 67 [.str s] H K:=by
  refine VCall_fn tbl_at67 rfl ?_
  have hb:=vld_len hv
  have w1:IntKind.wrap .u8 98=98:=rfl
  have w2:IntKind.wrap .u8 66=66:=rfl
  have w3:IntKind.wrap .u8 97=97:=rfl
  have w4:IntKind.wrap .u8 65=65:=rfl
  simp [vf67]
  refine wLoop_up s.size (fun i fr L H'=>(fr 0=.str s∧fr 4=.int .i64 i)∧(∃t,fr 3=.str t∧t.size=i∧∀k,k<i→(chT t k:Int)=neiF (chT s k:Nat))∧L=[]∧(∃X,H'=H++X)∧i≤s.size) ⟨by simp,⟨_,by simp;rfl,rfl,fun k hk=>absurd hk (by omega)⟩,rfl,⟨[],by simp⟩,by omega⟩ ?_
  rintro i hi fr L H' ⟨⟨f0,f4⟩,⟨t,f3,ht,hq⟩,rfl,⟨X,rfl⟩,hle⟩
  by_cases hp:i<s.size
  · have hp':((i:Int)<(s.size:Int))=True:=eq_true (by omega)
    have hl:=vld_at hv hp
    have hx:=idxT hp
    have hr:0≤neiF (chT s i:Nat)∧neiF (chT s i:Nat)<256:=by
      rcases hl with e | e | e | e<;>rw [e]<;>decide
    have ha:=vadd_str (a:=t) (b:=oneB (neiF (chT s i:Nat))) (by rw [ht,oneB_size];omega)
    have hs1:=vstrB_one (H:=H++X) (n:=neiF (chT s i:Nat))
    simp only [List.append_assoc,List.length_append] at hs1
    have fin:∀k,k<i+1→(chT (t++oneB (neiF (chT s i:Nat))) k:Int)=neiF (chT s k:Nat):=by
      intro k hk
      rw [chT_snoc hr (by omega)]
      split
      · rename_i h;exact hq k (by omega)
      · rename_i h
        have:k=i:=by omega
        rw [this]
    have hsz:(t++oneB (neiF (chT s i:Nat))).size=i+1:=by rw [size_app,ht];rfl
    have n1:neiF ((97:Nat):Int)=98:=rfl
    have n2:neiF ((65:Nat):Int)=66:=rfl
    have n3:neiF ((98:Nat):Int)=97:=rfl
    have n4:neiF ((66:Nat):Int)=65:=rfl
    generalize hT:t++oneB (neiF (chT s i:Nat))=t' at ha fin hsz
    rcases hl with e | e | e | e<;>rw [e] at hx ha hs1<;>simp only [n1,n2,n3,n4] at ha hs1 <;>
      simp (disch:=omega) [f0,f3,f4,hp',hx,splice,hs1,ha,wrap_i64,w1,w2,w3,w4]<;>exact ⟨hp,⟨hsz,fin⟩,hp⟩
  · have hp':((i:Int)<(s.size:Int))=False:=eq_false (by omega)
    have hi:i=s.size:=by omega
    simp [f0,f3,f4,hp']
    rw [mp_of (F:=neiF) (s:=s) (t:=t) (by omega) (fun k hk=>hq k (by omega))]
    exact hK X
theorem backward_r {H:Hp} {lim:Nat} {s:ByteArray} {K:V→Hp→Prop} (hb:s.size≤60) (hK:K (.str (rvB s)) H):VCall tbl lim 63 [.str s] H K:=by
  refine VCall_fn tbl_at63 rfl ?_
  simp [vf63]
  refine wLoop_up s.size (fun i fr L H'=>(fr 0=.str s∧fr 4=.int .i64 i)∧(∃t,fr 3=.str t∧t.size=i∧∀k,k<i→chT t k=chT s (i-1-k))∧L=[]∧H'=H∧i≤s.size) ⟨by simp,⟨_,by simp;rfl,rfl,fun k hk=>absurd hk (by omega)⟩,rfl,rfl,by omega⟩ ?_
  rintro i hi fr L H' ⟨⟨f0,f4⟩,⟨t,f3,ht,hq⟩,rfl,rfl,hle⟩
  by_cases hp:i<s.size
  · have hp':((i:Int)<(s.size:Int))=True:=eq_true (by omega)
    obtain ⟨c1,c2⟩:=chT_cut hp
    have hsl:vslT (.str s) (some (.int .i64 (i:Int))) (some (.int .i64 ((i:Int)+1)))=some (.str (s.extract i (i+1))):=by
      simp only [vslT,vbounds,vint]
      rw [if_pos (by omega),if_pos (by omega)]
      have e1:((i:Int)+1).toNat=i+1:=by omega
      simp [e1]
    have ha:=vadd_str (a:=s.extract i (i+1)) (b:=t) (by rw [c1,ht];omega)
    have hsz:(s.extract i (i+1)++t).size=i+1:=by rw [size_app,c1,ht];omega
    have fin:∀k,k<i+1→chT (s.extract i (i+1)++t) k=chT s (i+1-1-k):=by
      intro k hk
      rw [chT_app,c1]
      split
      · have:k=0:=by omega
        subst this
        rw [c2];congr 1
      · rw [hq (k-1) (by omega)];congr 1;omega
    generalize s.extract i (i+1)++t=t' at ha fin hsz
    simp (disch:=omega) [f0,f3,f4,hp',hsl,ha,wrap_i64]
    exact ⟨hp,⟨hsz,by simpa using fin⟩,hp⟩
  · have hp':((i:Int)<(s.size:Int))=False:=eq_false (by omega)
    have hi:i=s.size:=by omega
    simp [f0,f3,f4,hp']
    rw [←rvB_of (s:=s) (t:=t) (by omega) (fun k hk=>by rw [hq k (by omega)];congr 1;omega)] at hK
    exact hK
end Go.Proofs.YtalejadhccgckaaDoor.Vm
namespace Go.Proofs.YtalejadhccgckaaDoor.Vm
open Go
set_option maxRecDepth 100000
set_option linter.unusedSimpArgs false
set_option linter.unusedVariables false
attribute [-simp] List.getD_eq_getElem?_getD
theorem reverse_t {H1:Hp}{lim n:Nat}{f:Nat→Int}{K:V→Hp→Prop}(hlim:lim≤H1.length)(hn:n≤60)(hK:K (.tup []) (H1++[.row (rowF n fun j=>f (n-1-j)) true])):VCall tbl lim 79 [.sl H1.length 0 n 1] (H1++[.row (rowF n f) true]) K:=by
  refine VCall_fn tbl_at79 rfl ?_
  have hl:∀(g:Nat→Int) (j:Nat),j<n→vload none [] (H1++[.row (rowF n g) true]) (.ptr H1.length j)=some (.int .u8 (g j)):=by
    intro g j hj
    simp only [vload,lastO,rd,rowF_len,hj,if_true]
    rw [List.getD_eq_getElem?_getD,rowF_get hj];rfl
  have hs:∀(g:Nat→Int) (j:Nat) (x:Int),j<n→vstoreH lim (H1++[.row (rowF n g) true]) H1.length j [.int .u8 x]=some (H1++[.row (rowF n (upf g j x)) true]):=by
    intro g j x hj
    have e:j+1≤n:=hj
    simp [vstoreH,hlim,rowF_len,e,rowF_set hj]
  have ha:∀j:Nat,j<n→viaddrS 1 (.sl H1.length 0 n 1) (.int .i64 (j:Int))=some (.ptr H1.length j):=by
    intro j hj
    simp only [viaddrS,vint,if_true]
    rw [if_pos (by omega)]
    simp
  simp (disch:=omega) [vf79,wrap_i64]
  refine wLoop_up n (fun i fr L H'=>(fr 0=.sl H1.length 0 n 1∧fr 2=.int .i64 i∧fr 3=.int .i64 ((n:Int)-1-i))∧L=[]∧H'=H1++[.row (rowF n (rvF n i f)) true]∧2*i≤n+1) ⟨by simp,rfl,?_,by omega⟩ ?_
  · show H1++[.row (rowF n f) true]=_
    rw [rowF_ext (f:=rvF n 0 f) (g:=f) fun j hj=>by simp only [rvF];rw [if_neg (by omega)]]
  rintro i hi fr L H' ⟨⟨f0,f2,f3⟩,rfl,rfl,hle⟩
  by_cases hp:2*i+1<n
  · obtain ⟨k,hk⟩:∃k:Nat,k=n-1-i:=⟨_,rfl⟩
    have f3':fr 3=.int .i64 (k:Int):=by rw [f3];congr 1;omega
    have hp':((i:Int)<(k:Int))=True:=eq_true (by omega)
    have e1:rowF n (upf (upf (rvF n i f) i (rvF n i f k)) k (rvF n i f i))=rowF n (rvF n (i+1) f):=by
      refine rowF_ext fun j hj => ?_
      simp only [upf,rvF]
      repeat' split
      all_goals first | rfl | omega | (congr 1;omega)
    simp (disch:=omega) [f0,f2,f3',hp',ha,hl,hs,wrap_i64]
    rw [e1]
    and_intros<;>first | omega | rfl
  · have hp':((i:Int)<(n:Int)-1-i)=False:=eq_false (by omega)
    simp [f0,f2,f3,hp']
    have e:rowF n (rvF n i f)=rowF n fun j=>f (n-1-j):=by
      refine rowF_ext fun j hj => ?_
      simp only [rvF]
      split
      · rfl
      · congr 1;omega
    rw [e];exact hK
theorem inverse_t {H:Hp}{lim:Nat}{s:ByteArray}{K:V→Hp→Prop}(hc:chkU8 H=true)(hlim:lim≤H.length)(hv:vld s=true)(hK:∀X,K (.str (rvB (mp oppF s))) (H++X)):VCall tbl lim 61 [.str s] H K:=by
  refine VCall_fn tbl_at61 rfl ?_
  have hb:=vld_len hv
  simp [vf61]
  refine mirror_t hc hv ?_
  have hm:=mp_size (F:=oppF) (s:=s)
  generalize mp oppF s=m at hK hm
  simp [vbytes_row]
  refine reverse_t hlim (by omega) ?_
  have e:vstrB (H++[.row (rowF m.size fun j=>(chT m (m.size-1-j):Int)) true]) (.sl H.length 0 m.size 1)=some (.str (rvB m)):=by
    simp only [vstrB,vcells,if_true,lastO,rowF_len,Nat.zero_add,Nat.mul_one,Nat.le_refl,List.drop_zero]
    rw [List.take_of_length_le (by rw [rowF_len];omega),bytesOf_row (g:=fun j=>chT m (m.size-1-j)) fun j _=>chT_lt]
    simp only
    rw [text_row rvB_size fun j hj=>(chT_rvB hj).symm]
  simp [e]
  exact hK _
end Go.Proofs.YtalejadhccgckaaDoor.Vm
namespace Go.Proofs.YtalejadhccgckaaDoor.Vm
open Go
set_option maxRecDepth 100000
set_option linter.unusedSimpArgs false
set_option linter.unusedVariables false
attribute [-simp] List.getD_eq_getElem?_getD
theorem vld_of {s t:ByteArray}(hv:vld s=true)(h:t.size=s.size)(hc:∀k,k<s.size→isL (chT t k)=true):vld t=true:=by
  have hb:=vld_len hv
  have key:∀n,n≤t.size→allN (letB t) n=true:=by
    intro n
    induction n with
    | zero=>intro _;rfl
    | succ n ih =>
      intro hn
      simp only [allN,ih (by omega),Bool.true_and,letB]
      exact hc n (by omega)
  rw [vld,key _ (Nat.le_refl _),Bool.true_and]
  exact decide_eq_true (by omega)
theorem letT {s:ByteArray}(hv:vld s=true){k:Nat}(hk:k<s.size):isL (chT s k)=true:=by
  simp only [vld,Bool.and_eq_true] at hv
  exact allN_at hv.1 hk
theorem chT_opp {s:ByteArray}(hv:vld s=true){k:Nat}(hk:k<s.size):chT (mp oppF s) k=(oppF (chT s k:Nat)).toNat∧isL (chT (mp oppF s) k)=true:=by
  have h:=oppF_let (letT hv hk)
  have e:=chT_mp (F:=oppF) hk (by omega)
  exact ⟨e,by rw [e];exact h.2.2⟩
theorem chT_nei {s:ByteArray}(hv:vld s=true){k:Nat}(hk:k<s.size):chT (mp neiF s) k=(neiF (chT s k:Nat)).toNat∧isL (chT (mp neiF s) k)=true:=by
  have h:=neiF_let (letT hv hk)
  have e:=chT_mp (F:=neiF) hk (by omega)
  exact ⟨e,by rw [e];exact h.2.2⟩
theorem vld_opp {s:ByteArray}(hv:vld s=true):vld (mp oppF s)=true:=vld_of hv mp_size fun k hk=>(chT_opp hv hk).2
theorem vld_nei {s:ByteArray}(hv:vld s=true):vld (mp neiF s)=true:=vld_of hv mp_size fun k hk=>(chT_nei hv hk).2
theorem vld_rv {s:ByteArray}(hv:vld s=true):vld (rvB s)=true:=vld_of hv rvB_size fun k hk=>by rw [chT_rvB hk];exact letT hv (by omega)
theorem oppF_oppF {n:Nat}(h:isL n=true):(oppF ((oppF n).toNat:Nat)).toNat=n:=by
  simp only [isL,Bool.or_eq_true,decide_eq_true_eq] at h
  rcases h with ((rfl | rfl) | rfl) | rfl<;>decide
theorem neiF_neiF {n:Nat}(h:isL n=true):(neiF ((neiF n).toNat:Nat)).toNat=n:=by
  simp only [isL,Bool.or_eq_true,decide_eq_true_eq] at h
  rcases h with ((rfl | rfl) | rfl) | rfl<;>decide
theorem opp_opp {s:ByteArray}(hv:vld s=true):mp oppF (mp oppF s)=s:=by
  refine ba_ext (by rw [mp_size,mp_size]) fun k hk => ?_
  rw [mp_size,mp_size] at hk
  rw [(chT_opp (vld_opp hv) (by rw [mp_size];exact hk)).1,(chT_opp hv hk).1]
  exact oppF_oppF (letT hv hk)
theorem nei_nei {s:ByteArray}(hv:vld s=true):mp neiF (mp neiF s)=s:=by
  refine ba_ext (by rw [mp_size,mp_size]) fun k hk => ?_
  rw [mp_size,mp_size] at hk
  rw [(chT_nei (vld_nei hv) (by rw [mp_size];exact hk)).1,(chT_nei hv hk).1]
  exact neiF_neiF (letT hv hk)
theorem inv_inv {s:ByteArray}(hv:vld s=true):rvB (mp oppF (rvB (mp oppF s)))=s:=by
  refine ba_ext (by rw [rvB_size,mp_size,rvB_size,mp_size]) fun k hk => ?_
  rw [rvB_size,mp_size,rvB_size,mp_size] at hk
  have h1:=vld_opp hv
  have h2:=vld_rv h1
  rw [chT_rvB (by rw [mp_size,rvB_size,mp_size];exact hk),mp_size,rvB_size,mp_size,(chT_opp h2 (by rw [rvB_size,mp_size];omega)).1,
    chT_rvB (by rw [mp_size];omega),mp_size,show s.size-1-(s.size-1-k)=k by omega,(chT_opp hv hk).1]
  exact oppF_oppF (letT hv hk)
def wV (s t:ByteArray):V:=if vld s then .tup [.str t,.int .i64 0] else .tup [.str noT,.int .i64 1]
theorem wV_1 {s t:ByteArray}(h:vld s=true):wV s t=.tup [.str t,.int .i64 0]:=by simp [wV,h]
theorem wV_0 {s t:ByteArray}(h:vld s=false):wV s t=.tup [.str noT,.int .i64 1]:=by simp [wV,h]
theorem inverse2_t {H:Hp}{lim:Nat}{s:ByteArray}{K:V→Hp→Prop}(hc:chkU8 H=true)(hlim:lim≤H.length)(hK:∀X,K (wV s (rvB (mp oppF s))) (H++X)):VCall tbl lim 28 [.str s] H K:=by
  refine VCall_fn tbl_at28 rfl ?_
  simp [vf28]
  refine valid_t hlim fun X => ?_
  cases hv:vld s with
  | false=>simp [wV_0 hv] at hK ⊢;exact hK X
  | true =>
    simp [wV_1 hv] at hK ⊢
    refine inverse_t (chk_app hc) (by simp;omega) hv fun Y => ?_
    simp;exact hK _
theorem mirror2_t {H:Hp}{lim:Nat}{s:ByteArray}{K:V→Hp→Prop}(hc:chkU8 H=true)(hlim:lim≤H.length)(hK:∀X,K (wV s (mp oppF s)) (H++X)):VCall tbl lim 30 [.str s] H K:=by
  refine VCall_fn tbl_at30 rfl ?_
  simp [vf30]
  refine valid_t hlim fun X => ?_
  cases hv:vld s with
  | false=>simp [wV_0 hv] at hK ⊢;exact hK X
  | true =>
    simp [wV_1 hv] at hK ⊢
    refine mirror_t (chk_app hc) hv ?_
    simp;exact hK _
theorem flip2_t {H:Hp}{lim:Nat}{s:ByteArray}{K:V→Hp→Prop}(hc:chkU8 H=true)(hlim:lim≤H.length)(hK:∀X,K (wV s (mp neiF s)) (H++X)):VCall tbl lim 32 [.str s] H K:=by
  refine VCall_fn tbl_at32 rfl ?_
  simp [vf32]
  refine valid_t hlim fun X => ?_
  cases hv:vld s with
  | false=>simp [wV_0 hv] at hK ⊢;exact hK X
  | true =>
    simp [wV_1 hv] at hK ⊢
    refine flip_t (chk_app hc) hv ?_
    simp;exact hK _
theorem inverse2_r {H:Hp}{lim:Nat}{s:ByteArray}{K:V→Hp→Prop}(hs:s.size≤1000000)(hK:∀X,K (wV s (rvB (mp oppF s))) (H++X)):VCall tbl lim 29 [.str s] H K:=by
  refine VCall_fn tbl_at29 rfl ?_
  simp [vf29]
  refine valid_r hs ?_
  cases hv:vld s with
  | false=>simp [wV_0 hv] at hK ⊢;have:=hK [];simpa using this
  | true =>
    have hb:=vld_len hv
    simp [wV_1 hv] at hK ⊢
    refine swapped_r hv fun X => ?_
    simp
    refine backward_r (by rw [mp_size];exact hb) ?_
    simp;exact hK _
theorem mirror2_r {H:Hp}{lim:Nat}{s:ByteArray}{K:V→Hp→Prop}(hs:s.size≤1000000)(hK:∀X,K (wV s (mp oppF s)) (H++X)):VCall tbl lim 31 [.str s] H K:=by
  refine VCall_fn tbl_at31 rfl ?_
  simp [vf31]
  refine valid_r hs ?_
  cases hv:vld s with
  | false=>simp [wV_0 hv] at hK ⊢;have:=hK [];simpa using this
  | true =>
    simp [wV_1 hv] at hK ⊢
    refine swapped_r hv fun X => ?_
    simp;exact hK _
theorem flip2_r {H:Hp}{lim:Nat}{s:ByteArray}{K:V→Hp→Prop}(hs:s.size≤1000000)(hK:∀X,K (wV s (mp neiF s)) (H++X)):VCall tbl lim 33 [.str s] H K:=by
  refine VCall_fn tbl_at33 rfl ?_
  simp [vf33]
  refine valid_r hs ?_
  cases hv:vld s with
  | false=>simp [wV_0 hv] at hK ⊢;have:=hK [];simpa using this
  | true =>
    simp [wV_1 hv] at hK ⊢
    refine flipped_r hv fun X => ?_
    simp;exact hK _
theorem vneq_self {a:ByteArray}:vbin .neq (.str a) (.str a)=some (.bool false):=by simp [vbin]
theorem law_PlaitTurns {H:Hp}{lim:Nat}{s:ByteArray}{K:V→Hp→Prop}(hH:HX glHp H)(hlim:lim≤H.length)(h1:s.size≤maxLen)(hK:∀X,K (.bool true) (H++X)):VCall tbl lim 5 [.str s] H K:=by
  have hc:=chk_of hH
  refine VCall_fn tbl_at5 rfl ?_
  simp [vf5]
  refine long_t ?_
  by_cases hu:200<s.size
  · simp [hu]
    exact known_t hc hlim fun X=>by simp;exact hK X
  simp [hu]
  refine inverse2_t hc hlim fun X1 => ?_
  cases hv:vld s with
  | false =>
    simp [wV_0 hv]
    refine inverse2_r (by omega) fun X2 => ?_
    simp [wV_0 hv]
    refine mirror2_t (chk_app hc) (by simp;omega) fun X3 => ?_
    simp [wV_0 hv]
    refine mirror2_r (by omega) fun X4 => ?_
    simp [wV_0 hv]
    refine flip2_t (chk_app hc) (by simp;omega) fun X5 => ?_
    simp [wV_0 hv]
    refine flip2_r (by omega) fun X6 => ?_
    simp [wV_0 hv,vneq_self]
    exact known_t (chk_app hc) (by simp;omega) fun W=>by simp;exact hK _
  | true =>
    have hb:=vld_len hv
    have hvi:=vld_rv (vld_opp hv)
    have hvm:=vld_opp hv
    have hvx:=vld_nei hv
    have ii:=inv_inv hv
    have mm:=opp_opp hv
    have xx:=nei_nei hv
    have sz1:(rvB (mp oppF s)).size=s.size:=by rw [rvB_size,mp_size]
    have sz2:(mp oppF s).size=s.size:=mp_size
    have hcq:∀q,q<s.size→chT (rvB (mp oppF s)) q=chT (mp oppF s) (s.size-1-q):=fun q hq=>by rw [chT_rvB (by rw [mp_size];exact hq),mp_size]
    simp [wV_1 hv]
    refine inverse2_r (by omega) fun X2 => ?_
    simp [wV_1 hv]
    refine mirror2_t (chk_app hc) (by simp;omega) fun X3 => ?_
    simp [wV_1 hv]
    refine mirror2_r (by omega) fun X4 => ?_
    simp [wV_1 hv]
    refine flip2_t (chk_app hc) (by simp;omega) fun X5 => ?_
    simp [wV_1 hv]
    refine flip2_r (by omega) fun X6 => ?_
    simp [wV_1 hv,vneq_self]
    refine inverse2_t (chk_app hc) (by simp;omega) fun X7 => ?_
    simp [wV_1 hvi,ii]
    refine mirror2_t (chk_app hc) (by simp;omega) fun X8 => ?_
    simp [wV_1 hvm,mm]
    refine flip2_t (chk_app hc) (by simp;omega) fun X9 => ?_
    generalize rvB (mp oppF s)=iw at sz1 hcq
    generalize mp oppF s=mw at sz2 hcq
    simp [wV_1 hvx,xx,vneq_self,sz1,sz2]
    generalize hZ:X1++(X2++(X3++(X4++(X5++(X6++(X7++(X8++X9)))))))=Z
    refine wLoop_up s.size (fun i fr L H'=>(fr 3=.str iw∧fr 7=.str mw∧fr 21=.int .i64 i)∧H'=H++Z∧i≤s.size) ⟨by simp,rfl,by omega⟩ ?_
    rintro i hi fr L H' ⟨⟨f3,f7,f21⟩,rfl,hle⟩
    by_cases hp:i<s.size
    · have hp':((i:Int)<(s.size:Int))=True:=eq_true (by omega)
      have x1:=idxT (s:=iw) (i:=i) (by omega)
      have x2:=idxT (s:=mw) (i:=s.size-1-i) (by omega)
      rw [hcq i hp] at x1
      have e1:((s.size-1-i:Nat):Int)=(s.size:Int)-1-i:=by omega
      rw [e1] at x2
      simp (disch:=omega) [f3,f7,f21,sz1,sz2,hp',x1,x2,wrap_i64]
      first | exact ⟨hp,hp⟩ | (and_intros<;>first | omega | rfl)
    · have hp':((i:Int)<(s.size:Int))=False:=eq_false (by omega)
      simp [f3,f7,f21,sz1,sz2,hp']
      exact known_t (chk_app hc) (by simp;omega) fun W=>by simp;exact hK _
end Go.Proofs.YtalejadhccgckaaDoor.Vm
namespace Go.Proofs.YtalejadhccgckaaDoor.Vm
open Go
set_option maxRecDepth 100000
set_option linter.unusedSimpArgs false
set_option linter.unusedVariables false
attribute [-simp] List.getD_eq_getElem?_getD
theorem veq_self {a:ByteArray}:vbin .eql (.str a) (.str a)=some (.bool true):=by simp [vbin]
theorem veq_no {s:ByteArray}(h:¬s.size=0):vbin .eql (.str s) (.str ⟨#[]⟩)=some (.bool false):=by
  have:(s.toList==(⟨#[]⟩:ByteArray).toList)=false:=by
    rw [Lib.toList_data,Lib.toList_data]
    have hne:s.data.toList≠[]:=fun e=>h (by
      have:=congrArg List.length e
      simpa using this)
    simpa using hne
  simp only [vbin,this]
theorem size0 {s:ByteArray}(h:s.size=0):s=⟨#[]⟩:=ba_ext (by rw [h];rfl) fun i hi=>absurd hi (by omega)
def bas (s:ByteArray)(n:Int):ByteArray:=if n<0 then rvB (mp oppF s) else s
def powV (s:ByteArray)(n:Int):V:=if vld s then if s.size=0 then .tup [.str ⟨#[]⟩,.int .i64 0] else if 60<n∨n < -60 then .tup [.str ⟨#[]⟩,.int .i64 4] else ckdV (rep (bas s n) n.natAbs) else .tup [.str ⟨#[]⟩,.int .i64 1]
theorem repeat_t {H:Hp}{lim:Nat}{s:ByteArray}{c:Nat}{K:V→Hp→Prop}(hs:s.size≤60)(hn:c≤60)(hK:K (.str (rep s c)) H):VCall tbl lim 62 [.str s,.int .i64 (c:Int)] H K:=by
  refine VCall_prim (g:=pRepeat) (bs:=[]) tbl_at62 rfl rfl (v:=.str (rep s c)) ?_ (by simpa using hK)
  have h3:s.size*c≤3600:=Nat.mul_le_mul hs hn
  have h4:s.size*c≤140737488355328:=by omega
  have h5:c≤9223372036854775807:=by omega
  simp [pRepeat,flatP,flatV,gRepeat,flatT,h4,h5,rep]
theorem power_t {H:Hp} {lim:Nat} {s:ByteArray} {n:Int} {K:V→Hp→Prop} (hc:chkU8 H=true) (hlim:lim≤H.length) (hn:I64 n) (hK:∀X,K (powV s n) (H++X)):VCall tbl lim 26 [.str s,.int .i64 n] H K:=by
  refine VCall_fn tbl_at26 rfl ?_
  simp [vf26]
  refine valid_t hlim fun X => ?_
  unfold powV at hK
  cases hv:vld s with
  | false=>simp [hv] at hK ⊢;exact hK X
  | true =>
    have hb:=vld_len hv
    by_cases h0:s.size=0
    · have e:=size0 h0
      simp [hv,h0] at hK
      subst e
      simp [veq_self]
      exact hK X
    · by_cases h6:60<n
      · simp [hv,h0,h6] at hK ⊢
        simp [veq_no h0,h6]
        exact hK X
      · by_cases h7:n < -60
        · simp [hv,h0,h6,h7] at hK ⊢
          simp [veq_no h0,h6,h7]
          exact hK X
        · simp [hv,h0,h6,h7] at hK ⊢
          by_cases h8:n<0
          · obtain ⟨c,hcn⟩:∃c:Nat,(c:Int) = -n:=⟨n.natAbs,by omega⟩
            have sz:(rvB (mp oppF s)).size=s.size:=by rw [rvB_size,mp_size]
            have na:n.natAbs=c:=by omega
            have w1:IntKind.wrap .i64 (0-n)=(c:Int):=by rw [wrap_i64 (by omega) (by omega)];omega
            have w2:IntKind.wrap .i64 (-n)=(c:Int):=by rw [wrap_i64 (by omega) (by omega)];omega
            simp [bas,h8,na] at hK
            simp [veq_no h0,h6,h7,h8]
            refine inverse_t (chk_app hc) (by simp;omega) hv fun Y => ?_
            simp [w1,w2]
            refine repeat_t (by omega) (by omega) ?_
            simp
            refine checked_t ?_
            have:=hK (X++Y)
            unfold ckdV at this ⊢
            split<;>rename_i hq
            · rw [if_pos hq] at this;simp;exact this
            · rw [if_neg hq] at this;simp;exact this
          · obtain ⟨c,rfl⟩:∃c:Nat,n=(c:Int):=⟨n.toNat,by omega⟩
            simp [bas,h8] at hK
            simp (disch:=omega) [veq_no h0,h6,h7,h8]
            refine repeat_t (by omega) (by omega) ?_
            simp
            refine checked_t ?_
            have:=hK X
            unfold ckdV at this ⊢
            split<;>rename_i hq
            · rw [if_pos hq] at this;simp;exact this
            · rw [if_neg hq] at this;simp;exact this
end Go.Proofs.YtalejadhccgckaaDoor.Vm
namespace Go.Proofs.YtalejadhccgckaaDoor.Vm
open Go
set_option maxRecDepth 100000
set_option linter.unusedSimpArgs false
set_option linter.unusedVariables false
attribute [-simp] List.getD_eq_getElem?_getD
theorem short_r {H:Hp}{lim:Nat}{s:ByteArray}{K:V→Hp→Prop}(hK:K (ckdV s) H):VCall tbl lim 60 [.str s] H K:=by
  refine VCall_fn tbl_at60 rfl ?_
  unfold ckdV at hK
  by_cases h:s.size≤60
  · rw [if_pos h] at hK
    have e:((60:Int)<(s.size:Int))=False:=eq_false (by omega)
    simp [vf60,e];exact hK
  · rw [if_neg h] at hK
    have e:((60:Int)<(s.size:Int))=True:=eq_true (by omega)
    simp [vf60,e];exact hK
theorem join_r {H:Hp}{lim:Nat}{u v:ByteArray}{K:V→Hp→Prop}(h1:u.size≤1000000)(h2:v.size≤1000000)(hK:K (joinV u v) H):VCall tbl lim 25 [.str u,.str v] H K:=by
  refine VCall_fn tbl_at25 rfl ?_
  simp [vf25]
  refine valid_r h1 ?_
  unfold joinV at hK
  cases hu:vld u with
  | false =>
    simp [hu] at hK ⊢
    exact hK
  | true =>
    simp [hu] at hK ⊢
    refine valid_r h2 ?_
    cases hv:vld v with
    | false =>
      simp [hv] at hK ⊢
      exact hK
    | true =>
      have h1:=vld_len hu
      have h2:=vld_len hv
      simp [hv,vadd_str (a:=u) (b:=v) (by omega)] at hK ⊢
      refine short_r ?_
      unfold ckdV at hK ⊢
      split<;>rename_i hq
      · rw [if_pos hq] at hK;simp;exact hK
      · rw [if_neg hq] at hK;simp;exact hK
theorem ckd0 {s:ByteArray}:ckdV (rep s 0)=.tup [.str ⟨#[]⟩,.int .i64 0]:=by
  rw [rep_zero];rfl
theorem power_r {H:Hp} {lim:Nat} {s:ByteArray} {n:Int} {K:V→Hp→Prop} (hs:s.size≤1000000) (hn:I64 n) (hK:∀X,K (powV s n) (H++X)):VCall tbl lim 27 [.str s,.int .i64 n] H K:=by
  refine VCall_fn tbl_at27 rfl ?_
  simp [vf27]
  refine valid_r hs ?_
  unfold powV at hK
  cases hv:vld s with
  | false=>simp [hv] at hK ⊢;have:=hK [];simpa using this
  | true =>
    have hb:=vld_len hv
    by_cases h0:s.size=0
    · have e:=size0 h0
      simp [hv,h0] at hK
      subst e
      simp [veq_self]
      have:=hK [];simpa using this
    · by_cases hz:n=0
      · subst hz
        simp [hv,h0,bas,ckd0] at hK
        simp [veq_no h0]
        have:=hK [];simpa using this
      by_cases h6:60<n
      · simp [hv,h0,h6] at hK
        simp [veq_no h0,h6,hz]
        have:=hK [];simpa using this
      · by_cases h7:n < -60
        · simp [hv,h0,h6,h7] at hK
          simp [veq_no h0,h6,h7,hz]
          have:=hK [];simpa using this
        · simp [hv,h0,h6,h7] at hK
          have loop:∀(fr:Fr) (b:ByteArray) (c:Nat) (H':Hp),b.size≤60→c≤60→fr 0=.str b→fr 1=.int .i64 (c:Int)→fr 6=.str ⟨#[]⟩→fr 7=.int .i64 0→True:=fun _ _ _ _ _ _ _ _ _ _=>trivial
          by_cases h8:n<0
          · obtain ⟨c,hcn⟩:∃c:Nat,(c:Int) = -n:=⟨n.natAbs,by omega⟩
            have na:n.natAbs=c:=by omega
            have w1:IntKind.wrap .i64 (0-n)=(c:Int):=by rw [wrap_i64 (by omega) (by omega)];omega
            have w2:IntKind.wrap .i64 (-n)=(c:Int):=by rw [wrap_i64 (by omega) (by omega)];omega
            simp [bas,h8,na] at hK
            simp [veq_no h0,h6,h7,h8,hz]
            refine swapped_r hv fun Y => ?_
            simp
            refine backward_r (by rw [mp_size];exact hb) ?_
            have sz:(rvB (mp oppF s)).size=s.size:=by rw [rvB_size,mp_size]
            generalize rvB (mp oppF s)=b at hK sz
            simp [w1,w2]
            refine wLoop_up c (fun i fr L H'=>(fr 0=.str b∧fr 1=.int .i64 (c:Int)∧fr 6=.str (rep b i)∧fr 7=.int .i64 i)∧L=[]∧H'=H++Y∧i≤c) ⟨by simp [rep_zero],rfl,rfl,by omega⟩ ?_
            rintro i hi fr L H' ⟨⟨f0,f1,f6,f7⟩,rfl,rfl,hle⟩
            by_cases hp:i<c
            · have hp':((i:Int)<(c:Int))=True:=eq_true (by omega)
              have hri:(rep b i).size≤3600:=by rw [rep_size];exact Nat.le_trans (Nat.mul_le_mul (show i≤60 by omega) (show b.size≤60 by omega)) (by omega)
              have ha:=vadd_str (a:=rep b i) (b:=b) (by omega)
              rw [rep_succ] at ha
              simp (disch:=omega) [f0,f1,f6,f7,hp',ha,wrap_i64]
              first | exact ⟨hp,hp⟩ | (and_intros<;>first | omega | rfl)
            · have hp':((i:Int)<(c:Int))=False:=eq_false (by omega)
              have:i=c:=by omega
              subst this
              simp [f0,f1,f6,f7,hp']
              refine short_r ?_
              have:=hK Y
              unfold ckdV at this ⊢
              split<;>rename_i hq
              · rw [if_pos hq] at this;simp;exact this
              · rw [if_neg hq] at this;simp;exact this
          · obtain ⟨c,rfl⟩:∃c:Nat,n=(c:Int):=⟨n.toNat,by omega⟩
            have hz':¬c=0:=by omega
            simp [bas,h8] at hK
            simp [veq_no h0,h6,h7,h8,hz']
            refine wLoop_up c (fun i fr L H'=>(fr 0=.str s∧fr 1=.int .i64 (c:Int)∧fr 6=.str (rep s i)∧fr 7=.int .i64 i)∧L=[]∧H'=H∧i≤c) ⟨by simp [rep_zero],rfl,rfl,by omega⟩ ?_
            rintro i hi fr L H' ⟨⟨f0,f1,f6,f7⟩,rfl,rfl,hle⟩
            by_cases hp:i<c
            · have hp':((i:Int)<(c:Int))=True:=eq_true (by omega)
              have hri:(rep s i).size≤3600:=by rw [rep_size];exact Nat.le_trans (Nat.mul_le_mul (show i≤60 by omega) hb) (by omega)
              have ha:=vadd_str (a:=rep s i) (b:=s) (by omega)
              rw [rep_succ] at ha
              simp (disch:=omega) [f0,f1,f6,f7,hp',ha,wrap_i64]
              first | exact ⟨hp,hp⟩ | (and_intros<;>first | omega | rfl)
            · have hp':((i:Int)<(c:Int))=False:=eq_false (by omega)
              have:i=c:=by omega
              subst this
              simp [f0,f1,f6,f7,hp']
              refine short_r ?_
              have:=hK []
              rw [List.append_nil] at this
              unfold ckdV at this ⊢
              split<;>rename_i hq
              · rw [if_pos hq] at this;simp;exact this
              · rw [if_neg hq] at this;simp;exact this
theorem pair_cases {v:V}(h:∃(t:ByteArray) (e:Int),v=.tup [.str t,.int .i64 e]):∃(t:ByteArray) (e:Int),v=.tup [.str t,.int .i64 e]:=h
theorem ckdV_pair {s:ByteArray}:∃(t:ByteArray) (e:Int),ckdV s=.tup [.str t,.int .i64 e]:=by
  unfold ckdV;split<;>exact ⟨_,_,rfl⟩
theorem joinV_pair {u v:ByteArray}:∃(t:ByteArray) (e:Int),joinV u v=.tup [.str t,.int .i64 e]:=by
  unfold joinV;split
  · exact ckdV_pair
  · exact ⟨_,_,rfl⟩
theorem powV_pair {s:ByteArray}{n:Int}:∃(t:ByteArray) (e:Int),powV s n=.tup [.str t,.int .i64 e]:=by
  unfold powV
  repeat' split
  all_goals first | exact ckdV_pair | exact ⟨_,_,rfl⟩
theorem law_PlaitJoins {H:Hp}{lim:Nat}{u v:ByteArray}{n:Int}{K:V→Hp→Prop}(hH:HX glHp H)(hlim:lim≤H.length)(h1:u.size≤maxLen)(h2:v.size≤maxLen)(hn:I64 n)(hK:∀X,K (.bool true) (H++X)):VCall tbl lim 4 [.str u,.str v,.int .i64 n] H K:=by
  have hc:=chk_of hH
  refine VCall_fn tbl_at4 rfl ?_
  simp [vf4]
  refine long_t ?_
  by_cases hu:200<u.size
  · simp [hu]
    exact known_t hc hlim fun X=>by simp;exact hK X
  simp [hu]
  refine long_t ?_
  by_cases hw:200<v.size
  · simp [hw]
    exact known_t hc hlim fun X=>by simp;exact hK X
  simp [hw]
  obtain ⟨t,e,hj⟩:=joinV_pair (u:=u) (v:=v)
  obtain ⟨t',e',hp⟩:=powV_pair (s:=u) (n:=n)
  refine join_t hlim fun X1 => ?_
  simp [hj]
  refine join_r (by omega) (by omega) ?_
  simp [hj]
  refine power_t (chk_app hc) (by simp;omega) hn fun X2 => ?_
  simp [hp]
  refine power_r (by omega) hn fun X3 => ?_
  simp [hp,veq_self]
  exact known_t (chk_app hc) (by simp;omega) fun W=>by simp;exact hK _
end Go.Proofs.YtalejadhccgckaaDoor.Vm
