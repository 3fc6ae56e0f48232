/- PqG to PqK in one: the laws PlaitSames, PlaitUndoes, PlaitTwists, PlaitChanges -/
import Derived.Test.YtalejadhccgckaaDoorPmD
namespace Go.Proofs.YtalejadhccgckaaDoor.Vm
open Go
set_option maxRecDepth 100000
set_option linter.unusedSimpArgs false
set_option linter.unusedVariables false
attribute [-simp] List.getD_eq_getElem?_getD
theorem law_PlaitSames {H:Hp}{lim:Nat}{u v:ByteArray}{K:V→Hp→Prop}(hH:HX glHp H)(hlim:lim≤H.length)(h1:u.size≤maxLen)(h2:v.size≤maxLen)(hK:∀X,K (.bool true) (H++X)):VCall tbl lim 10 [.str u,.str v] H K:=by
  have hc:=chk_of hH
  refine VCall_fn tbl_at10 rfl ?_
  simp [vf10]
  refine long_t ?_
  by_cases hu:200<u.size
  · simp [hu]
    exact known_t hc hlim fun X=>by simp;exact hK X
  simp [hu]
  refine long_t ?_
  by_cases hw:200<v.size
  · simp [hw]
    exact known_t hc hlim fun X=>by simp;exact hK X
  simp [hw]
  cases hvv:(vld u&&vld v) with
  | false =>
    have hs:samV u v=.tup [.bool false,.int .i64 1]:=by simp [samV,hvv]
    refine same_t hc hlim fun X => ?_
    simp [hs]
    refine same_r (by omega) (by omega) ?_
    simp [hs,veqB]
    exact known_t (chk_app hc) (by simp;omega) fun W=>by simp;exact hK _
  | true =>
    simp only [Bool.and_eq_true] at hvv
    obtain ⟨vu,vv⟩:=hvv
    have hs:samV u v=.tup [.bool (eqv u v),.int .i64 0]:=by simp [samV,vu,vv]
    have hn1:norV u=.tup [.int .i64 (nf (chT u) u.size).k,.str (tR (nf (chT u) u.size).R),.int .i64 0]:=by simp [norV,vu]
    have hn2:norV v=.tup [.int .i64 (nf (chT v) v.size).k,.str (tR (nf (chT v) v.size).R),.int .i64 0]:=by simp [norV,vv]
    have hc1:croV u=.tup [.int .i64 (cntL (chT u) u.size),.int .i64 0]:=by simp [croV,vu]
    have hc2:croV v=.tup [.int .i64 (cntL (chT v) v.size),.int .i64 0]:=by simp [croV,vv]
    have e1:=eqv_mc vu vv
    have e2:eqv u v=(decide ((nf (chT u) u.size).k=(nf (chT v) v.size).k)&&decide ((nf (chT u) u.size).R=(nf (chT v) v.size).R)):=rfl
    have q1:=veq_tR (nf_ok (f:=chT u) u.size).1 (nf_ok (f:=chT v) v.size).1
    have r4:∀a b c d:V,rd (some 4) [a,b,c,d] 0=some (.agg [a,b,c,d]):=fun _ _ _ _=>rfl
    refine same_t hc hlim fun X => ?_
    simp [hs]
    refine same_r (by omega) (by omega) ?_
    simp [hs,veqB]
    refine normal2_t (chk_app hc) (by simp;omega) fun X2 => ?_
    simp [hn1]
    refine normal2_t (chk_app hc) (by simp;omega) fun X3 => ?_
    simp [hn2]
    refine matrix_t (by simp;omega) (fun _ X4 => ?_) (fun h=>by rw [vu] at h;cases h)
    simp [splice,M4.V,dz4]
    refine matrix_t (by simp;omega) (fun _ X5 => ?_) (fun h=>by rw [vv] at h;cases h)
    simp [splice,M4.V,dz4]
    refine cross_t (by simp;omega) fun X6 => ?_
    simp [hc1]
    refine cross_t (by simp;omega) fun X7 => ?_
    rw [hc2]
    have q2:=veqM (neg:=false) (a:=mat (chT u) u.size) (b:=mat (chT v) v.size)
    simp only [M4.V,Bool.false_eq_true,if_false] at q2
    generalize eqv u v=B at e1 e2
    generalize nf (chT u) u.size=x at q1 e2
    generalize nf (chT v) v.size=y at q1 e2
    generalize mat (chT u) u.size=a at q2 e1
    generalize mat (chT v) v.size=b at q2 e1
    generalize cntL (chT u) u.size=c at e1
    generalize cntL (chT v) v.size=d at e1
    have w1:(decide (x.k=y.k)&&decide (x.R=y.R))=B:=e2.symm
    have w2:(mEq a b&&decide (c=d))=B:=e1.symm
    have w3:(decide (x.R=y.R)&&decide (x.k=y.k))=B:=by rw [Bool.and_comm];exact w1
    cases hB:B<;>rw [hB] at w1 w2<;>(by_cases k1:x.k=y.k)<;>(by_cases k2:x.R=y.R)<;>simp [k1,k2] at w1<;>(by_cases k3:c=d)<;>cases k4:mEq a b<;>simp [k3,k4] at w2<;>rw [k4] at q2 <;>
      simp [k1,k2,k3,q1,q2,r4,veqB,veq_self] <;>
      exact known_t (chk_app hc) (by simp;omega) fun W=>by simp;exact hK _
end Go.Proofs.YtalejadhccgckaaDoor.Vm
namespace Go.Proofs.YtalejadhccgckaaDoor.Vm
open Go
set_option maxRecDepth 100000
set_option linter.unusedSimpArgs false
set_option linter.unusedVariables false
attribute [-simp] List.getD_eq_getElem?_getD
def lst (s:ByteArray):List Nat:=s.data.toList.map UInt8.toNat
theorem lst_len {s:ByteArray}:(lst s).length=s.size:=by
  show (s.data.toList.map _).length=s.data.size
  simp
theorem lst_app {u v:ByteArray}:lst (u++v)=lst u++lst v:=by
  simp [lst]
theorem lst_at {s:ByteArray}{i:Nat}(h:i<s.size):(lst s)[i]? = some (chT s i):=by
  have h':i<s.data.size:=h
  simp [lst,chT,Array.getD_eq_getD_getElem?,Array.getElem?_eq_getElem h']
theorem lst_take {s:ByteArray}{n:Nat}(h:n<s.size):(lst s).take (n+1)=(lst s).take n++[chT s n]:=by
  rw [List.take_add_one,lst_at h];rfl
theorem lst_inj {u v:ByteArray}(h:lst u=lst v):u=v:=by
  refine ba_ext (by rw [←lst_len,←lst_len,h]) fun i hi => ?_
  have h1:=lst_at hi
  have h2:=lst_at (s:=v) (i:=i) (by rw [←lst_len,←h,lst_len];exact hi)
  rw [h,h2] at h1
  exact (Option.some.inj h1).symm
theorem lst_tx {l:List Nat}(h:∀c∈l,c<256):lst (tx l)=l:=by
  simp only [lst,tx,List.map_map]
  have:l.map (UInt8.toNat∘fun n=>n.toUInt8)=l.map id:=List.map_congr_left fun c hc=>by
    have:=h c hc
    simp;omega
  rw [this,List.map_id]
def matL (m:M4)(l:List Nat):M4:=l.foldl (fun m c=>m.step c) m
def cntS (n:Int)(l:List Nat):Int:=l.foldl (fun n c=>if c=97∨c=98 then n+1 else n-1) n
theorem matL_app {m:M4}{l k:List Nat}:matL m (l++k)=matL (matL m l) k:=List.foldl_append
theorem cntS_app {n:Int}{l k:List Nat}:cntS n (l++k)=cntS (cntS n l) k:=List.foldl_append
theorem mat_lst {s:ByteArray}:∀n,n≤s.size→mat (chT s) n=matL .one ((lst s).take n)
  | 0,_=>rfl
  | n+1,h=>by
    rw [lst_take h,matL_app,←mat_lst n (by omega)];rfl
theorem cnt_lst {s:ByteArray}:∀n,n≤s.size→cntL (chT s) n=cntS 0 ((lst s).take n)
  | 0,_=>rfl
  | n+1,h=>by
    rw [lst_take h,cntS_app,←cnt_lst n (by omega)];rfl
theorem mat_all {s:ByteArray}:mat (chT s) s.size=matL .one (lst s):=by
  rw [mat_lst _ (Nat.le_refl _),←lst_len,List.take_length]
theorem cnt_all {s:ByteArray}:cntL (chT s) s.size=cntS 0 (lst s):=by
  rw [cnt_lst _ (Nat.le_refl _),←lst_len,List.take_length]
theorem eqv_of {u v:ByteArray}(hu:vld u=true)(hv:vld v=true)(h1:matL .one (lst u)=matL .one (lst v))(h2:cntS 0 (lst u)=cntS 0 (lst v)):eqv u v=true:=by
  rw [eqv_mc hu hv,mat_all,mat_all,cnt_all,cnt_all,h1,h2,Bool.and_eq_true,mEq_iff,decide_eq_true_eq]
  exact ⟨rfl,rfl⟩
def isLet (c:Nat):Prop:=c=97∨c=65∨c=98∨c=66
def allL (l:List Nat):Prop:=∀c∈l,isLet c
theorem allL_vld {s:ByteArray}(h:vld s=true):allL (lst s):=by
  intro c hc
  obtain ⟨i,hi,rfl⟩:=List.getElem_of_mem hc
  have h2:i<s.size:=by rw [←lst_len];exact hi
  have:=lst_at h2
  rw [List.getElem?_eq_getElem hi] at this
  rw [Option.some.inj this]
  exact vld_at h h2
def op (c:Nat):Nat:=(oppF (c:Int)).toNat
theorem op97:op 97=65:=rfl
theorem op65:op 65=97:=rfl
theorem op98:op 98=66:=rfl
theorem op66:op 66=98:=rfl
theorem op_let {c:Nat}(h:isLet c):isLet (op c):=by
  rcases h with rfl | rfl | rfl | rfl<;>simp [op97,op65,op98,op66,isLet]
theorem op_op {c:Nat}(h:isLet c):op (op c)=c:=by
  rcases h with rfl | rfl | rfl | rfl<;>rfl
theorem step_op {m:M4}{c:Nat}(h:isLet c):(m.step c).step (op c)=m:=by
  rcases h with rfl | rfl | rfl | rfl
  · apply M4.ext'<;>simp [M4.step,op97]<;>omega
  · apply M4.ext'<;>simp [M4.step,op65]<;>omega
  · apply M4.ext'<;>simp [M4.step,op98]<;>omega
  · apply M4.ext'<;>simp [M4.step,op66]<;>omega
theorem cnt_op {n:Int}{c:Nat}(h:isLet c):cntS n [c,op c]=n:=by
  rcases h with rfl | rfl | rfl | rfl<;>simp [cntS,op97,op65,op98,op66]<;>omega
def inv (l:List Nat):List Nat:=(l.map op).reverse
theorem inv_cons {c:Nat}{l:List Nat}:inv (c :: l)=inv l++[op c]:=by simp [inv]
theorem inv_app {l k:List Nat}:inv (l++k)=inv k++inv l:=by simp [inv]
theorem matL_inv {l:List Nat}:∀{m:M4},allL l→matL m (l++inv l)=m:=by
  induction l with
  | nil=>intro m _;rfl
  | cons c l ih =>
    intro m h
    have e:(c :: l)++inv (c :: l)=[c]++((l++inv l)++[op c]):=by rw [inv_cons];simp
    rw [e,matL_app,matL_app,ih fun d hd=>h d (by simp [hd])]
    exact step_op (h c (by simp))
theorem cntS_add {l:List Nat}:∀{n:Int},cntS n l=n+cntS 0 l:=by
  induction l with
  | nil=>intro n;simp [cntS]
  | cons c l ih =>
    intro n
    show cntS (if c=97∨c=98 then n+1 else n-1) l=n+cntS (if c=97∨c=98 then 0+1 else 0-1) l
    rw [ih,ih (n:=if c=97∨c=98 then 0+1 else 0-1)]
    split<;>omega
theorem cntS_inv {l:List Nat}:∀{n:Int},allL l→cntS n (l++inv l)=n:=by
  induction l with
  | nil=>intro m _;rfl
  | cons c l ih =>
    intro m h
    have e:(c :: l)++inv (c :: l)=[c]++((l++inv l)++[op c]):=by rw [inv_cons];simp
    rw [e,cntS_app,cntS_app,ih fun d hd=>h d (by simp [hd])]
    exact cnt_op (h c (by simp))
theorem lst_opp {s:ByteArray}(h:vld s=true):lst (mp oppF s)=(lst s).map op:=by
  apply List.ext_getElem?
  intro i
  by_cases hi:i<s.size
  · rw [lst_at (by rw [mp_size];exact hi),List.getElem?_map,lst_at hi,(chT_opp h hi).1];rfl
  · rw [List.getElem?_eq_none (by rw [lst_len,mp_size];omega),List.getElem?_eq_none (by rw [List.length_map,lst_len];omega)]
theorem lst_rv {s:ByteArray}:lst (rvB s)=(lst s).reverse:=by
  simp [lst,rvB]
theorem lst_inv {s:ByteArray}(h:vld s=true):lst (rvB (mp oppF s))=inv (lst s):=by
  rw [lst_rv,lst_opp h];rfl
def pwL (l:List Nat):Nat→List Nat
  | 0=>[]
  | n+1=>pwL l n++l
theorem pwL_front {l:List Nat}:∀{n:Nat},pwL l (n+1)=l++pwL l n
  | 0=>by simp [pwL]
  | n+1=>by
    show pwL l (n+1)++l=l++(pwL l n++l)
    rw [pwL_front (n:=n),List.append_assoc]
theorem allL_pw {l:List Nat}(h:allL l):∀{n:Nat},allL (pwL l n)
  | 0=>fun c hc=>absurd hc (by simp [pwL])
  | n+1=>fun c hc=>by
    rcases List.mem_append.1 hc with hc | hc
    · exact allL_pw h c hc
    · exact h c hc
theorem inv_pw {l:List Nat}:∀{n:Nat},pwL (inv l) n=inv (pwL l n)
  | 0=>rfl
  | n+1=>by
    show pwL (inv l) (n+1)=inv (pwL l n++l)
    rw [pwL_front,inv_pw,inv_app]
theorem lst_rep {s:ByteArray}:∀{n:Nat},lst (rep s n)=pwL (lst s) n
  | 0=>by rw [rep_zero];rfl
  | n+1=>by rw [←rep_succ,lst_app,lst_rep];rfl
end Go.Proofs.YtalejadhccgckaaDoor.Vm
namespace Go.Proofs.YtalejadhccgckaaDoor.Vm
open Go
set_option maxRecDepth 100000
set_option linter.unusedSimpArgs false
set_option linter.unusedVariables false
attribute [-simp] List.getD_eq_getElem?_getD
theorem and7 {n:Int}:vbin .and (.int .i64 n) (.int .i64 7)=some (.int .i64 ((n % 8).toNat:Nat)):=by
  have e:(BitVec.ofInt 64 n &&& BitVec.ofInt 64 7).toNat=(n % 8).toNat:=by
    rw [BitVec.toNat_and,BitVec.toNat_ofInt]
    have:(BitVec.ofInt 64 7).toNat=2 ^ 3-1:=by decide
    rw [this,Nat.and_two_pow_sub_one_eq_mod]
    omega
  show some (V.int .i64 (IntKind.wrap .i64 ((BitVec.ofInt 64 n &&& BitVec.ofInt 64 7).toNat:Nat)))=_
  rw [e,wrap_i64 (n:=((n % 8).toNat:Nat)) (by omega) (by omega)]
theorem and1 {n:Int}:vbin .and (.int .i64 n) (.int .i64 1)=some (.int .i64 ((n % 2).toNat:Nat)):=by
  have e:(BitVec.ofInt 64 n &&& BitVec.ofInt 64 1).toNat=(n % 2).toNat:=by
    rw [BitVec.toNat_and,BitVec.toNat_ofInt]
    have:(BitVec.ofInt 64 1).toNat=2 ^ 1-1:=by decide
    rw [this,Nat.and_two_pow_sub_one_eq_mod]
    omega
  show some (V.int .i64 (IntKind.wrap .i64 ((BitVec.ofInt 64 n &&& BitVec.ofInt 64 1).toNat:Nat)))=_
  rw [e,wrap_i64 (n:=((n % 2).toNat:Nat)) (by omega) (by omega)]
theorem vld0:vld ⟨#[]⟩=true:=by decide
theorem rep_bas {s:ByteArray}{n:Nat}(hv:vld s=true):lst (rep (bas s (-(n:Int))) n)=inv (lst (rep s n)):=by
  unfold bas
  split
  · rw [lst_rep,lst_inv hv,inv_pw,←lst_rep]
  · have:n=0:=by omega
    subst this
    rw [rep_zero];rfl
theorem vld_rep {s:ByteArray}{n:Nat}(hv:vld s=true)(h:(rep s n).size≤60):vld (rep s n)=true:=by
  have hl:allL (lst (rep s n)):=by rw [lst_rep];exact allL_pw (allL_vld hv)
  have key:∀m,m≤(rep s n).size→allN (letB (rep s n)) m=true:=by
    intro m
    induction m with
    | zero=>intro _;rfl
    | succ m ih =>
      intro hm
      simp only [allN,ih (by omega),Bool.true_and,letB]
      have h1:=lst_at (s:=rep s n) (i:=m) (by omega)
      have h2:=hl _ (List.mem_of_getElem? h1)
      rcases h2 with e | e | e | e<;>rw [e]<;>rfl
  rw [vld,key _ (Nat.le_refl _),Bool.true_and]
  exact decide_eq_true h
theorem vld_bas {s:ByteArray}{n:Int}(hv:vld s=true):vld (bas s n)=true:=by
  unfold bas
  split
  · exact vld_rv (vld_opp hv)
  · exact hv
theorem bas_size {s:ByteArray}{n:Int}:(bas s n).size=s.size:=by
  unfold bas
  split
  · rw [rvB_size,mp_size]
  · rfl
theorem powV_small {s:ByteArray}{n:Int}(hv:vld s=true)(hn : -7≤n∧n≤7):powV s n=ckdV (rep (bas s n) n.natAbs):=by
  unfold powV
  rw [if_pos hv]
  split
  · rename_i h
    have:rep (bas s n) n.natAbs=⟨#[]⟩:=size0 (by rw [rep_size,bas_size,h];simp)
    rw [this];rfl
  · rw [if_neg (by omega)]
theorem bas_pos {s:ByteArray}{n:Nat}:bas s (n:Int)=s:=by
  unfold bas;rw [if_neg (by omega)]
theorem eqv_nil {u:ByteArray}(hu:vld u=true)(h1:matL .one (lst u)=.one)(h2:cntS 0 (lst u)=0):eqv u ⟨#[]⟩=true :=
  eqv_of hu vld0 (by rw [h1];rfl) (by rw [h2];rfl)
theorem law_PlaitUndoes {H:Hp} {lim:Nat} {s:ByteArray} {n:Int} {K:V→Hp→Prop} (hH:HX glHp H) (hlim:lim≤H.length) (h1:s.size≤maxLen) (hn:I64 n) (hK:∀X,K (.bool true) (H++X)):VCall tbl lim 12 [.str s,.int .i64 n] H K:=by
  have hc:=chk_of hH
  refine VCall_fn tbl_at12 rfl ?_
  simp [vf12]
  refine long_t ?_
  by_cases hu:200<s.size
  · simp [hu]
    exact known_t hc hlim fun X=>by simp;exact hK X
  simp [hu]
  obtain ⟨c,hcn,hc7⟩:∃c:Nat,(n % 8).toNat=c∧c≤7:=⟨_,rfl,by omega⟩
  have a7:=and7 (n:=n)
  rw [hcn] at a7
  refine inverse2_t hc hlim fun X1 => ?_
  cases hv:vld s with
  | false =>
    have hj:joinV s noT=.tup [.str noT,.int .i64 1]:=by simp [joinV,hv]
    simp [wV_0 hv]
    refine join_t (by simp;omega) fun X2 => ?_
    simp [hj]
    exact known_t (chk_app hc) (by simp;omega) fun W=>by simp;exact hK _
  | true =>
    simp [wV_1 hv]
    refine join_t (by simp;omega) fun X2 => ?_
    have hvi:=vld_rv (vld_opp hv)
    have hli:=lst_inv hv
    have hsz:(rvB (mp oppF s)).size=s.size:=by rw [rvB_size,mp_size]
    have hl:=allL_vld hv
    generalize rvB (mp oppF s)=iw at hvi hli hsz
    by_cases hz:s.size+iw.size≤60
    case neg =>
      have hj:joinV s iw=.tup [.str noT,.int .i64 4]:=by simp [joinV,hv,hvi,ckdV,hz]
      simp [hj]
      exact known_t (chk_app hc) (by simp;omega) fun W=>by simp;exact hK _
    have hj:joinV s iw=.tup [.str (s++iw),.int .i64 0]:=by simp [joinV,hv,hvi,ckdV,hz]
    have hvj:=vld_app hv hvi hz
    have hq:=eqv_nil hvj (by rw [lst_app,hli];exact matL_inv hl) (by rw [lst_app,hli];exact cntS_inv hl)
    have hsj:samV (s++iw) ⟨#[]⟩=.tup [.bool true,.int .i64 0]:=by simp [samV,hvj,vld0,hq]
    have p1:=powV_small (s:=s) (n:=(c:Int)) hv (by omega)
    have p2:=powV_small (s:=s) (n := -(c:Int)) hv (by omega)
    rw [bas_pos] at p1
    rw [show (c:Int).natAbs=c by omega] at p1
    rw [show (-(c:Int)).natAbs=c by omega] at p2
    have hlb:=rep_bas (n:=c) hv
    have vb:=vld_bas (n := -(c:Int)) hv
    have sb:=bas_size (s:=s) (n := -(c:Int))
    have nc:IntKind.wrap .i64 (0-(c:Int)) = -(c:Int):=by rw [wrap_i64 (by omega) (by omega)];omega
    have nc2:IntKind.wrap .i64 (-(c:Int)) = -(c:Int):=wrap_i64 (by omega) (by omega)
    generalize bas s (-(c:Int))=bw at hlb vb sb p2
    simp [hj]
    refine same_t (chk_app hc) (by simp;omega) fun X3 => ?_
    simp [hsj,a7]
    refine power_t (chk_app hc) (by simp;omega) (by constructor<;>omega) fun X4 => ?_
    rw [p1]
    have rs1:(rep s c).size=c*s.size:=rep_size
    have rs2:(rep bw c).size=c*s.size:=by rw [rep_size,sb]
    by_cases hr:c*s.size≤60
    case neg =>
      have k1:ckdV (rep s c)=.tup [.str noT,.int .i64 4]:=by simp only [ckdV,rs1,hr,if_false]
      have k2:ckdV (rep bw c)=.tup [.str noT,.int .i64 4]:=by simp only [ckdV,rs2,hr,if_false]
      have hj2:joinV noT noT=.tup [.str noT,.int .i64 0]:=by
        have e0:noT++noT=noT:=rfl
        simp only [joinV,vld0,Bool.and_self,if_true,e0,ckdV]
        rfl
      simp [k1,a7,nc,nc2]
      refine power_t (chk_app hc) (by simp;omega) (by constructor<;>omega) fun X5 => ?_
      rw [p2]
      simp [k2]
      refine join_t (by simp;omega) fun X6 => ?_
      simp [hj2]
      exact known_t (chk_app hc) (by simp;omega) fun W=>by simp;exact hK _
    have k1:ckdV (rep s c)=.tup [.str (rep s c),.int .i64 0]:=by simp only [ckdV,rs1,hr,if_true]
    have k2:ckdV (rep bw c)=.tup [.str (rep bw c),.int .i64 0]:=by simp only [ckdV,rs2,hr,if_true]
    have v1:=vld_rep (n:=c) hv (by omega)
    have v2:=vld_rep (n:=c) vb (by omega)
    have hlr:allL (lst (rep s c)):=by rw [lst_rep];exact allL_pw hl
    generalize rep s c=ra at rs1 hlb k1 v1 hlr
    generalize rep bw c=rb at rs2 hlb k2 v2 p2
    simp [k1,a7,nc,nc2]
    refine power_t (chk_app hc) (by simp;omega) (by constructor<;>omega) fun X5 => ?_
    rw [p2]
    simp [k2]
    refine join_t (by simp;omega) fun X6 => ?_
    by_cases hz2:ra.size+rb.size≤60
    case neg =>
      have hj3:joinV ra rb=.tup [.str noT,.int .i64 4]:=by simp [joinV,v1,v2,ckdV,hz2]
      simp [hj3]
      exact known_t (chk_app hc) (by simp;omega) fun W=>by simp;exact hK _
    have hj3:joinV ra rb=.tup [.str (ra++rb),.int .i64 0]:=by simp [joinV,v1,v2,ckdV,hz2]
    have hvj3:=vld_app v1 v2 hz2
    have hq3:=eqv_nil hvj3 (by rw [lst_app,hlb];exact matL_inv hlr) (by rw [lst_app,hlb];exact cntS_inv hlr)
    have hsj3:samV (ra++rb) ⟨#[]⟩=.tup [.bool true,.int .i64 0]:=by simp [samV,hvj3,vld0,hq3]
    simp [hj3]
    refine same_t (chk_app hc) (by simp;omega) fun X7 => ?_
    simp [hsj3]
    exact known_t (chk_app hc) (by simp;omega) fun W=>by simp;exact hK _
end Go.Proofs.YtalejadhccgckaaDoor.Vm
namespace Go.Proofs.YtalejadhccgckaaDoor.Vm
open Go
set_option maxRecDepth 100000
set_option linter.unusedSimpArgs false
set_option linter.unusedVariables false
attribute [-simp] List.getD_eq_getElem?_getD
def itr (f:M4→M4):Nat→M4→M4
  | 0,m=>m
  | n+1,m=>f (itr f n m)
theorem itr_in {f:M4→M4}{m:M4}:∀{n:Nat},itr f (n+1) m=itr f n (f m)
  | 0=>rfl
  | n+1=>congrArg f (itr_in (n:=n))
theorem tw_tf {m:M4}:m.tf.tw=m.tw.tf:=by
  apply M4.ext'<;>simp [M4.tw,M4.tf]
theorem tw_tw {m:M4}:m.tw.tw=m.tf.tf:=by
  apply M4.ext'<;>simp [M4.tw,M4.tf]
theorem itr_tf {m:M4}{n:Nat}:itr M4.tf n m.tf=(itr M4.tf n m).tf:=by
  rw [←itr_in];rfl
theorem itr_even {m:M4}:∀{k:Nat},itr M4.tw (2*k) m=itr M4.tf (2*k) m
  | 0=>rfl
  | k+1=>by
    show (itr M4.tw (2*k) m).tw.tw=(itr M4.tf (2*k) m).tf.tf
    rw [tw_tw,itr_even (k:=k)]
theorem one_tw:M4.one.tw=M4.one.tf:=rfl
theorem itr_one:∀{n:Nat},itr M4.tw n .one=itr M4.tf n .one
  | 0=>rfl
  | 1=>rfl
  | n+2=>by
    show (itr M4.tw n .one).tw.tw=(itr M4.tf n .one).tf.tf
    rw [tw_tw,itr_one (n:=n)]
def aba:List Nat:=[97,98,97]
theorem matL_aba {m:M4}:matL m aba=m.tw:=tw_aba (c:=97) (o:=98) (Or.inl rfl) (Or.inr rfl) (by decide)
theorem matL_pw {m:M4}:∀{n:Nat},matL m (pwL aba n)=itr M4.tw n m
  | 0=>rfl
  | n+1=>by
    show matL m (pwL aba n++aba)=(itr M4.tw n m).tw
    rw [matL_app,matL_pw (n:=n),matL_aba]
theorem matL_tf {l:List Nat}:∀{m:M4},matL m.tf l=(matL m l).tf:=by
  induction l with
  | nil=>intro m;rfl
  | cons c l ih =>
    intro m
    show matL (m.tf.step c) l=(matL (m.step c) l).tf
    rw [←tf_step,ih]
theorem matL_itr {l:List Nat}{m:M4}:∀{n:Nat},matL (itr M4.tf n m) l=itr M4.tf n (matL m l)
  | 0=>rfl
  | n+1=>by
    show matL (itr M4.tf n m).tf l=(itr M4.tf n (matL m l)).tf
    rw [matL_tf,matL_itr (n:=n)]
def ne (c:Nat):Nat:=(neiF (c:Int)).toNat
theorem ne_step {m m':M4}{c:Nat}(hc:isLet c)(h:m'.tw=m.tf):(m'.step (ne c)).tw=(m.step c).tf:=by
  obtain ⟨p,q,r,s⟩:=m
  obtain ⟨p',q',r',s'⟩:=m'
  simp only [M4.tw,M4.tf,M4.mk.injEq] at h
  obtain ⟨h1,h2,h3,h4⟩:=h
  have e1:ne 97=98:=rfl
  have e2:ne 65=66:=rfl
  have e3:ne 98=97:=rfl
  have e4:ne 66=65:=rfl
  rcases hc with rfl | rfl | rfl | rfl
  · apply M4.ext'<;>simp [M4.step,M4.tw,M4.tf,e1]<;>omega
  · apply M4.ext'<;>simp [M4.step,M4.tw,M4.tf,e2]<;>omega
  · apply M4.ext'<;>simp [M4.step,M4.tw,M4.tf,e3]<;>omega
  · apply M4.ext'<;>simp [M4.step,M4.tw,M4.tf,e4]<;>omega
theorem ne_mat {l:List Nat}:∀{m m':M4},allL l→m'.tw=m.tf→(matL m' (l.map ne)).tw=(matL m l).tf:=by
  induction l with
  | nil=>intro m m' _ h;exact h
  | cons c l ih =>
    intro m m' hl h
    exact ih (fun d hd=>hl d (by simp [hd])) (ne_step (hl c (by simp)) h)
theorem ne_cnt {l:List Nat}:∀{n:Int},allL l→cntS n (l.map ne)=cntS n l:=by
  induction l with
  | nil=>intro n _;rfl
  | cons c l ih =>
    intro n hl
    have e1:ne 97=98:=rfl
    have e2:ne 65=66:=rfl
    have e3:ne 98=97:=rfl
    have e4:ne 66=65:=rfl
    show cntS (if ne c=97∨ne c=98 then n+1 else n-1) (l.map ne)=cntS (if c=97∨c=98 then n+1 else n-1) l
    rw [ih fun d hd=>hl d (by simp [hd])]
    rcases hl c (by simp) with rfl | rfl | rfl | rfl<;>simp [e1,e2,e3,e4]
theorem cntS_pw {n:Int}:∀{k:Nat},cntS n (pwL aba k)=n+3*k
  | 0=>by simp [pwL,cntS]
  | k+1=>by
    show cntS n (pwL aba k++aba)=_
    rw [cntS_app,cntS_pw (k:=k)]
    simp [cntS,aba];omega
theorem lst_nei {s:ByteArray}(h:vld s=true):lst (mp neiF s)=(lst s).map ne:=by
  apply List.ext_getElem?
  intro i
  by_cases hi:i<s.size
  · rw [lst_at (by rw [mp_size];exact hi),List.getElem?_map,lst_at hi,(chT_nei h hi).1];rfl
  · rw [List.getElem?_eq_none (by rw [lst_len,mp_size];omega),List.getElem?_eq_none (by rw [List.length_map,lst_len];omega)]
theorem pass_even {l:List Nat}{k:Nat}:matL .one (pwL aba (2*k)++l)=matL .one (l++pwL aba (2*k)):=by
  rw [matL_app,matL_app,matL_pw,matL_pw,itr_even,matL_itr,itr_even]
theorem pass_odd {l:List Nat}(hl:allL l){k:Nat}:matL .one (pwL aba (2*k+1)++l)=matL .one (l.map ne++pwL aba (2*k+1)):=by
  rw [matL_app,matL_app,matL_pw,matL_pw,itr_one,matL_itr,itr_in,itr_in,ne_mat hl one_tw,itr_even]
theorem pass_cnt {l l':List Nat}{c:Nat}(h:cntS 0 l=cntS 0 l'):cntS 0 (pwL aba c++l)=cntS 0 (l'++pwL aba c):=by
  rw [cntS_app,cntS_app,cntS_pw,cntS_pw,cntS_add,h];omega
def nfL (x:NF)(l:List Nat):NF:=l.foldl (fun x c=>x.stp c) x
theorem nf_lst {s:ByteArray}:∀n,n≤s.size→nf (chT s) n=nfL ⟨0,[]⟩ ((lst s).take n)
  | 0,_=>rfl
  | n+1,h=>by
    rw [lst_take h,nfL,List.foldl_append]
    show (nf (chT s) n).stp (chT s n)=_
    rw [nf_lst n (by omega)];rfl
theorem nf_all {s:ByteArray}:nf (chT s) s.size=nfL ⟨0,[]⟩ (lst s):=by
  rw [nf_lst _ (Nat.le_refl _),←lst_len,List.take_length]
theorem nfL_pw {k:Int}:∀{n:Nat},nfL ⟨k,[]⟩ (pwL aba n)=⟨k+n,[]⟩
  | 0=>by simp [pwL,nfL]
  | n+1=>by
    show nfL ⟨k,[]⟩ (pwL aba n++aba)=_
    have e:nfL ⟨k,[]⟩ (pwL aba n++aba)=nfL (nfL ⟨k,[]⟩ (pwL aba n)) aba:=List.foldl_append
    rw [e,nfL_pw (n:=n)]
    simp [nfL,aba,NF.stp,NF.cross];omega
def wAba:ByteArray:=⟨[97,98,97].toArray⟩
theorem lst_aba:lst wAba=aba:=rfl
theorem vld_aba:vld wAba=true:=by decide
theorem law_PlaitTwists {H:Hp} {lim:Nat} {s:ByteArray} {n:Int} {K:V→Hp→Prop} (hH:HX glHp H) (hlim:lim≤H.length) (h1:s.size≤maxLen) (hn:I64 n) (hK:∀X,K (.bool true) (H++X)):VCall tbl lim 13 [.str s,.int .i64 n] H K:=by
  have hc:=chk_of hH
  refine VCall_fn tbl_at13 rfl ?_
  simp [vf13]
  refine long_t ?_
  by_cases hu:200<s.size
  · simp [hu]
    exact known_t hc hlim fun X=>by simp;exact hK X
  simp [hu]
  obtain ⟨c,hcn,hc7⟩:∃c:Nat,(n % 8).toNat=c∧c≤7:=⟨_,rfl,by omega⟩
  obtain ⟨d,hdn⟩:∃d:Nat,(n % 2).toNat=d:=⟨_,rfl⟩
  have hcd:c % 2=d:=by omega
  have a7:=and7 (n:=n)
  have a1:=and1 (n:=n)
  rw [hcn] at a7
  rw [hdn] at a1
  have p1:=powV_small (s:=wAba) (n:=(c:Int)) vld_aba (by omega)
  rw [bas_pos,show (c:Int).natAbs=c by omega] at p1
  have rs1:(rep wAba c).size=c*3:=rep_size
  have k1:ckdV (rep wAba c)=.tup [.str (rep wAba c),.int .i64 0]:=by simp only [ckdV,rs1];rw [if_pos (by omega)]
  have vt:=vld_rep (n:=c) vld_aba (by omega)
  have lt:lst (rep wAba c)=pwL aba c:=by rw [lst_rep,lst_aba]
  have tt:twiV (rep wAba c)=.tup [.bool true,.int .i64 0]:=by
    have:(nf (chT (rep wAba c)) (rep wAba c).size).R=[]:=by rw [nf_all,lt,nfL_pw]
    simp [twiV,vt,this]
  rw [k1] at p1
  generalize rep wAba c=t at rs1 vt lt tt p1
  have fin:∀X,VCall tbl lim 18 [] (H++X) (fun v H'=>v=.bool true∧∃Y,H'=H++Y):=fun X =>
    known_t (chk_app hc) (by simp;omega) fun W=>⟨rfl,X++W,by simp⟩
  clear fin
  refine isTwist_t hc hlim fun X1 => ?_
  have e3:(⟨#[97,98,97]⟩:ByteArray)=wAba:=rfl
  cases hv:vld s with
  | false =>
    have h2:twiV s=.tup [.bool false,.int .i64 1]:=by simp [twiV,hv]
    have hj:joinV t s=.tup [.str noT,.int .i64 1]:=by simp [joinV,hv]
    simp [h2]
    refine isTwist_r (by omega) fun X2 => ?_
    simp [h2,veqB,a7]
    rw [e3]
    refine power_t (chk_app hc) (by simp;omega) (by constructor<;>omega) fun X3 => ?_
    simp [p1]
    refine join_t (by simp;omega) fun X4 => ?_
    simp [hj,a1]
    by_cases hd:d=1
    · simp [hd]
      refine flip2_t (chk_app hc) (by simp;omega) fun X5 => ?_
      simp [wV_0 hv]
      obtain ⟨j1,j2,hj2⟩:=joinV_pair (u:=noT) (v:=t)
      refine join_t (by simp;omega) fun X6 => ?_
      simp [hj2]
      exact known_t (chk_app hc) (by simp;omega) fun W=>by simp;exact hK _
    · have hd':((d:Int)=1)=False:=eq_false (by omega)
      simp [hd,hd']
      obtain ⟨j1,j2,hj2⟩:=joinV_pair (u:=s) (v:=t)
      refine join_t (by simp;omega) fun X6 => ?_
      simp [hj2]
      exact known_t (chk_app hc) (by simp;omega) fun W=>by simp;exact hK _
  | true =>
    have hsb:=vld_len hv
    obtain ⟨tb,h2⟩:∃b,twiV s=.tup [.bool b,.int .i64 0]:=⟨decide ((nf (chT s) s.size).R=[]),by simp [twiV,hv]⟩
    simp [h2]
    refine isTwist_r (by omega) fun X2 => ?_
    simp [h2,veqB,a7]
    rw [e3]
    refine power_t (chk_app hc) (by simp;omega) (by constructor<;>omega) fun X3 => ?_
    simp [p1]
    refine join_t (by simp;omega) fun X4 => ?_
    have hal:=allL_vld hv
    by_cases hz:t.size+s.size≤60
    case neg =>
      have hj:joinV t s=.tup [.str noT,.int .i64 4]:=by simp [joinV,vt,hv,ckdV,hz]
      simp [hj,a1]
      by_cases hd:d=1
      · simp [hd]
        refine flip2_t (chk_app hc) (by simp;omega) fun X5 => ?_
        simp [wV_1 hv]
        obtain ⟨j1,j2,hj2⟩:=joinV_pair (u:=mp neiF s) (v:=t)
        refine join_t (by simp;omega) fun X6 => ?_
        simp [hj2]
        exact known_t (chk_app hc) (by simp;omega) fun W=>by simp;exact hK _
      · have hd':((d:Int)=1)=False:=eq_false (by omega)
        simp [hd,hd']
        obtain ⟨j1,j2,hj2⟩:=joinV_pair (u:=s) (v:=t)
        refine join_t (by simp;omega) fun X6 => ?_
        simp [hj2]
        exact known_t (chk_app hc) (by simp;omega) fun W=>by simp;exact hK _
    have hj:joinV t s=.tup [.str (t++s),.int .i64 0]:=by simp [joinV,vt,hv,ckdV,hz]
    have hvx:=vld_app vt hv hz
    simp [hj,a1]
    by_cases hd:d=1
    · have hsy:=mp_size (F:=neiF) (s:=s)
      have hz2:(mp neiF s).size+t.size≤60:=by omega
      have hvn:=vld_nei hv
      have hln:=lst_nei hv
      have hj2:joinV (mp neiF s) t=.tup [.str (mp neiF s++t),.int .i64 0]:=by simp [joinV,vt,hvn,ckdV,hz2]
      have hvz:=vld_app hvn vt hz2
      have hq:samV (t++s) (mp neiF s++t)=.tup [.bool true,.int .i64 0]:=by
        have:eqv (t++s) (mp neiF s++t)=true:=by
          refine eqv_of hvx hvz ?_ ?_
          · rw [lst_app,lst_app,lt,hln,show c=2*(c / 2)+1 by omega];exact pass_odd hal
          · rw [lst_app,lst_app,lt,hln];exact pass_cnt (ne_cnt hal).symm
        simp [samV,hvx,hvz,this]
      simp [hd]
      refine flip2_t (chk_app hc) (by simp;omega) fun X5 => ?_
      simp [wV_1 hv]
      refine join_t (by simp;omega) fun X6 => ?_
      simp [hj2]
      refine same_t (chk_app hc) (by simp;omega) fun X7 => ?_
      simp [hq]
      refine isTwist_t (chk_app hc) (by simp;omega) fun X8 => ?_
      simp [tt]
      exact known_t (chk_app hc) (by simp;omega) fun W=>by simp;exact hK _
    · have hd':((d:Int)=1)=False:=eq_false (by omega)
      have hz2:s.size+t.size≤60:=by omega
      have hj2:joinV s t=.tup [.str (s++t),.int .i64 0]:=by simp [joinV,vt,hv,ckdV,hz2]
      have hvz:=vld_app hv vt hz2
      have hq:samV (t++s) (s++t)=.tup [.bool true,.int .i64 0]:=by
        have:eqv (t++s) (s++t)=true:=by
          refine eqv_of hvx hvz ?_ ?_
          · rw [lst_app,lst_app,lt,show c=2*(c / 2) by omega];exact pass_even
          · rw [lst_app,lst_app,lt];exact pass_cnt rfl
        simp [samV,hvx,hvz,this]
      simp [hd,hd']
      refine join_t (by simp;omega) fun X6 => ?_
      simp [hj2]
      refine same_t (chk_app hc) (by simp;omega) fun X7 => ?_
      simp [hq]
      refine isTwist_t (chk_app hc) (by simp;omega) fun X8 => ?_
      simp [tt]
      exact known_t (chk_app hc) (by simp;omega) fun W=>by simp;exact hK _
end Go.Proofs.YtalejadhccgckaaDoor.Vm
namespace Go.Proofs.YtalejadhccgckaaDoor.Vm
open Go
set_option maxRecDepth 100000
set_option linter.unusedSimpArgs false
set_option linter.unusedVariables false
attribute [-simp] List.getD_eq_getElem?_getD
structure P3 where
  a:Int
  b:Int
  c:Int
def P3.step (l:Nat)(p:P3):P3:=if l=97∨l=65 then ⟨p.b,p.a,p.c⟩ else ⟨p.a,p.c,p.b⟩
def prL (p:P3)(l:List Nat):P3:=l.foldl (fun p c=>p.step c) p
theorem prL_app {p:P3}{l k:List Nat}:prL p (l++k)=prL (prL p l) k:=List.foldl_append
def F9.pr (f:F9):P3:=⟨f.a,f.b,f.c⟩
theorem pr_step {f:F9}{c:Nat}(h:isLet c):(f.step c).pr=f.pr.step c:=by
  rcases h with rfl | rfl | rfl | rfl<;>rfl
theorem fol_lst {s:ByteArray}(hv:vld s=true):∀n,n≤s.size→(fol (chT s) n).pr=prL ⟨0,1,2⟩ ((lst s).take n)
  | 0,_=>rfl
  | n+1,h=>by
    rw [lst_take h,prL_app,←fol_lst hv n (by omega)]
    exact pr_step (vld_at hv (by omega))
theorem fol_all {s:ByteArray}(hv:vld s=true):(fol (chT s) s.size).pr=prL ⟨0,1,2⟩ (lst s):=by
  rw [fol_lst hv _ (Nat.le_refl _),←lst_len,List.take_length]
theorem endV_eq {u v:ByteArray}(hu:vld u=true)(hv:vld v=true)(h:prL ⟨0,1,2⟩ (lst u)=prL ⟨0,1,2⟩ (lst v)):endV u=endV v:=by
  rw [←fol_all hu,←fol_all hv] at h
  simp only [F9.pr,P3.mk.injEq] at h
  simp only [endV,hu,hv,if_true,F9.E,en,h]
def Act (l k:List Nat):Prop:=(∀m,matL m l=matL m k)∧(∀n,cntS n l=cntS n k)∧∀p,prL p l=prL p k
theorem Act.refl {l:List Nat}:Act l l:=⟨fun _=>rfl,fun _=>rfl,fun _=>rfl⟩
theorem Act.trans {l k j:List Nat}(h:Act l k)(g:Act k j):Act l j:=⟨fun m=>(h.1 m).trans (g.1 m),fun n=>(h.2.1 n).trans (g.2.1 n),fun p=>(h.2.2 p).trans (g.2.2 p)⟩
theorem Act.mid {l k a b:List Nat}(h:Act l k):Act (a++(l++b)) (a++(k++b)) :=
  ⟨fun m=>by simp only [matL_app,h.1],fun n=>by simp only [cntS_app,h.2.1],fun p=>by simp only [prL_app,h.2.2]⟩
theorem Act.pair {c:Nat}(h:isLet c):Act [] [c,op c] :=
  ⟨fun m=>(step_op h).symm,fun n=>(cnt_op h).symm,fun p=>by rcases h with rfl | rfl | rfl | rfl<;>rfl⟩
theorem Act.tw:Act [97,98,97] [98,97,98] :=
  ⟨fun m=>matL_aba.trans (tw_aba (c:=98) (o:=97) (Or.inr rfl) (Or.inl rfl) (by decide)).symm,fun n=>rfl,fun p=>rfl⟩
theorem Act.wt:Act [98,97,98] [97,98,97]:=⟨fun m=>(Act.tw.1 m).symm,fun n=>rfl,fun p=>rfl⟩
structure Ch where
  at_:Int
  kind:Int
  deriving Inhabited
def Ch.cells (a:Ch):List V:=[.int .i64 a.at_,.int .i64 a.kind]
def chC:Cod Ch 2:=⟨Ch.cells,fun _=>rfl⟩
theorem chs_of {H:Hp}{v:V}{d:CD}(h:RepT H (.sl [cInt,cInt]) v d):∃l,LstV chC H v l:=by
  obtain ⟨l,h1,_,_⟩:=lst_of (c:=chC) rfl (fun z=>True) (fun vs ds h=>by
    obtain ⟨v0,u0,_,_,rfl,_,p0,q0⟩:=reps_cons h
    obtain ⟨v1,u1,_,_,rfl,_,p1,q1⟩:=reps_cons q0
    have e:=reps_nil q1
    subst e
    obtain ⟨n0,rfl,c0⟩:=int_of p0
    obtain ⟨n1,rfl,c1⟩:=int_of p1
    exact ⟨⟨n0,n1⟩,rfl,trivial⟩) h
  exact ⟨l,h1⟩
theorem wrapU_nn {k:Int}:0≤IntKind.wrap .u64 k:=by
  simp [IntKind.wrap,IntKind.bits,IntKind.signed];omega
theorem wrapU_sm {n:Int}(h:0≤n∧n<1000000):IntKind.wrap .u64 n=n:=by
  simp [IntKind.wrap,IntKind.bits,IntKind.signed];omega
theorem tmod_sm {k n:Int}(hn:0<n):∃j:Nat,(IntKind.wrap .u64 k).tmod n=j∧(j:Int)<n:=by
  have h0:=@wrapU_nn k
  have h1:=Int.tmod_nonneg n h0
  have h2:=Int.tmod_lt_of_pos (IntKind.wrap .u64 k) hn
  exact ⟨((IntKind.wrap .u64 k).tmod n).toNat,by omega,by omega⟩
theorem tx_lst {s:ByteArray}:tx (lst s)=s:=lst_inj (lst_tx fun c hc=>by
  obtain ⟨b,_,rfl⟩:=List.mem_map.1 hc
  exact b.toNat_lt)
theorem cut_lo {l:List Nat}{j:Nat}(h:j≤l.length):vslT (.str (tx l)) none (some (.int .i64 (j:Int)))=some (.str (tx (l.take j))):=by
  have hz:(tx l).size=l.length:=tx_size
  simp only [vslT,vbounds,vint,hz]
  rw [if_pos (by omega),if_pos (by omega)]
  simp only [Int.toNat_natCast,Int.toNat_zero,tx_cut,List.drop_zero]
theorem cut_hi {l:List Nat}{j:Nat}{i:Int}(hi:i=j)(h:j≤l.length):vslT (.str (tx l)) (some (.int .i64 i)) none=some (.str (tx (l.drop j))):=by
  subst hi
  have hz:(tx l).size=l.length:=tx_size
  simp only [vslT,vbounds,vint,hz]
  rw [if_pos (by omega),if_pos (by omega)]
  have e2:((l.length:Nat):Int).toNat=l.length:=rfl
  simp only [Int.toNat_natCast,tx_drop]
theorem cut_3 {l:List Nat}{j:Nat}(h:j+3≤l.length):vslT (.str (tx l)) (some (.int .i64 (j:Int))) (some (.int .i64 ((j:Int)+3)))=some (.str (tx [l.getD j 0,l.getD (j+1) 0,l.getD (j+2) 0])):=by
  have hz:(tx l).size=l.length:=tx_size
  simp only [vslT,vbounds,vint,hz]
  rw [if_pos (by omega),if_pos (by omega)]
  have e1:((j:Int)+3).toNat=j+3:=by omega
  simp only [Int.toNat_natCast,e1,tx_cut,cut3 h]
theorem three {l:List Nat}{j:Nat}(h:j+3≤l.length):l=l.take j++([l.getD j 0,l.getD (j+1) 0,l.getD (j+2) 0]++l.drop (j+3)):=by
  rw [←cut3 h]
  have:l.drop (j+3)=(l.drop j).drop 3:=by rw [List.drop_drop]
  rw [this,List.drop_take,show j+3-j=3 by omega,List.take_append_drop,List.take_append_drop]
theorem vadd_tx {l k:List Nat}(h:l.length+k.length≤1000000):vbin .add (.str (tx l)) (.str (tx k))=some (.str (tx (l++k))):=by
  rw [vadd_str (by rw [tx_size,tx_size];exact h),tx_app]
theorem changed_r {H:Hp} {lim:Nat} {l:List Nat} {x y:Int} {K:V→Hp→Prop} (hb:l.length≤60) (hl:allL l)
    (hK:∀l',Act l l'→l'.length≤62→(∀c∈l',c<256)→K (.str (tx l')) H):VCall tbl lim 49 [.str (tx l),.agg [.int .i64 x,.int .i64 y]] H K:=by
  have hB:∀c∈l,c<256:=fun c hc=>by rcases hl c hc with e | e | e | e<;>omega
  have hz:(tx l).size=l.length:=tx_size
  obtain ⟨j,hj,hj2⟩:=tmod_sm (k:=x) (n:=(l.length:Int)+1) (by omega)
  obtain ⟨q,hq,hq2⟩:=tmod_sm (k:=y) (n:=6) (by omega)
  have hu:=wrapU_sm (n:=(l.length:Int)+1) (by omega)
  have b1:=vbin_rem (k:=.u64) (a:=IntKind.wrap .u64 x) (b:=(l.length:Int)+1) (by omega)
  have b2:=vbin_rem (k:=.u64) (a:=IntKind.wrap .u64 y) (b:=6) (by omega)
  rw [hj] at b1
  rw [hq] at b2
  have hj3:j≤l.length:=by omega
  have c1:=cut_lo hj3
  have c2:=cut_hi (i:=(j:Int)) rfl hj3
  refine VCall_fn tbl_at49 rfl ?_
  have aS : ∀c:Nat,isLet c→K (.str (tx (l.take j++[c,op c]++l.drop j))) H:=fun c hc=>by
    refine hK _ ?_ ?_ ?_
    · have h:=(Act.pair hc).mid (a:=l.take j) (b:=l.drop j)
      simp only [List.nil_append,List.take_append_drop] at h
      rw [List.append_assoc];exact h
    · simp;omega
    · intro d hd
      rcases List.mem_append.1 hd with hd | hd
      · rcases List.mem_append.1 hd with hd | hd
        · exact hB d (List.mem_of_mem_take hd)
        · have:isLet d:=by
            simp at hd
            rcases hd with rfl | rfl
            · exact hc
            · exact op_let hc
          rcases this with e | e | e | e<;>omega
      · exact hB d (List.mem_of_mem_drop hd)
  have e1:tx [97,65]=⟨[97,65].toArray⟩:=rfl
  have e2:tx [65,97]=⟨[65,97].toArray⟩:=rfl
  have e3:tx [98,66]=⟨[98,66].toArray⟩:=rfl
  have e4:tx [66,98]=⟨[66,98].toArray⟩:=rfl
  simp (disch:=omega) [vf49,splice,rd2a,rd2b,vlenT_str,hz,hu,b1,b2,wrap_i64]
  have rA:∀a b c d:V,rd none [a,b,c,d] 0=some a:=fun _ _ _ _=>rfl
  have rB':∀a b c d:V,rd none [a,b,c,d] 1=some b:=fun _ _ _ _=>rfl
  have rC:∀a b c d:V,rd none [a,b,c,d] 2=some c:=fun _ _ _ _=>rfl
  have rD:∀a b c d:V,rd none [a,b,c,d] 3=some d:=fun _ _ _ _=>rfl
  have tl:(l.take j).length≤60:=by rw [List.length_take];omega
  have dl:(l.drop j).length≤60:=by rw [List.length_drop];omega
  have hq6:q=0∨q=1∨q=2∨q=3∨(4≤q∧q<6):=by omega
  rcases hq6 with rfl | rfl | rfl | rfl | hq6
  · have k:=aS 97 (Or.inl rfl)
    rw [op97] at k
    have v1:=vadd_tx (l:=l.take j) (k:=[97,65]) (by simp;omega)
    rw [e1] at v1
    have v2:=vadd_tx (l:=l.take j++[97,65]) (k:=l.drop j) (by simp;omega)
    simp (disch:=omega) [rA,rB',rC,rD,c1,c2,v1,v2]
    simpa using k
  · have k:=aS 65 (Or.inr (Or.inl rfl))
    rw [op65] at k
    have v1:=vadd_tx (l:=l.take j) (k:=[65,97]) (by simp;omega)
    rw [e2] at v1
    have v2:=vadd_tx (l:=l.take j++[65,97]) (k:=l.drop j) (by simp;omega)
    simp (disch:=omega) [rA,rB',rC,rD,c1,c2,v1,v2]
    simpa using k
  · have k:=aS 98 (Or.inr (Or.inr (Or.inl rfl)))
    rw [op98] at k
    have v1:=vadd_tx (l:=l.take j) (k:=[98,66]) (by simp;omega)
    rw [e3] at v1
    have v2:=vadd_tx (l:=l.take j++[98,66]) (k:=l.drop j) (by simp;omega)
    simp (disch:=omega) [rA,rB',rC,rD,c1,c2,v1,v2]
    simpa using k
  · have k:=aS 66 (Or.inr (Or.inr (Or.inr rfl)))
    rw [op66] at k
    have v1:=vadd_tx (l:=l.take j) (k:=[66,98]) (by simp;omega)
    rw [e4] at v1
    have v2:=vadd_tx (l:=l.take j++[66,98]) (k:=l.drop j) (by simp;omega)
    simp (disch:=omega) [rA,rB',rC,rD,c1,c2,v1,v2]
    simpa using k
  · have hq7:((q:Int)<4)=False:=eq_false (by omega)
    simp (disch:=omega) [hq7,hz,vlenT_str,wrap_i64]
    by_cases h3:j+3≤l.length
    case neg =>
      have h3':((l.length:Int)<(j:Int)+3)=True:=eq_true (by omega)
      simp [h3']
      exact hK l Act.refl (by omega) hB
    have h3':((l.length:Int)<(j:Int)+3)=False:=eq_false (by omega)
    have c3:=cut_3 h3
    have c4:=cut_hi (l:=l) (i:=(j:Int)+3) (j:=j+3) (by omega) h3
    have t3:=three h3
    have bb:∀i,i<l.length→l.getD i 0<256:=fun i hi=>by
      rw [List.getD_eq_getElem?_getD,List.getElem?_eq_getElem hi]
      exact hB _ (List.getElem_mem hi)
    have b0:=bb j (by omega)
    have b1':=bb (j+1) (by omega)
    have b2':=bb (j+2) (by omega)
    generalize l.getD j 0=x0 at c3 t3 b0
    generalize l.getD (j+1) 0=x1 at c3 t3 b1'
    generalize l.getD (j+2) 0=x2 at c3 t3 b2'
    have l3:∀c∈[x0,x1,x2],c<256:=by
      intro w hw;simp at hw;rcases hw with rfl | rfl | rfl<;>assumption
    have q1:=veq_txB l3 (m:=[97,98,97]) (by simp)
    have q2:=veq_txB l3 (m:=[98,97,98]) (by simp)
    have f1:tx [97,98,97]=⟨[97,98,97].toArray⟩:=rfl
    have f2:tx [98,97,98]=⟨[98,97,98].toArray⟩:=rfl
    rw [f1] at q1
    rw [f2] at q2
    have d3:(l.drop (j+3)).length≤60:=by rw [List.length_drop];omega
    have ds:(l.take j).length+(l.drop (j+3)).length+3≤60:=by rw [List.length_take,List.length_drop];omega
    have byt:∀z:List Nat,allP z→∀c∈l.take j++(z++l.drop (j+3)),c<256:=by
      intro z hz' d hd
      rcases List.mem_append.1 hd with hd | hd
      · exact hB d (List.mem_of_mem_take hd)
      · rcases List.mem_append.1 hd with hd | hd
        · rcases hz' d hd with e | e<;>omega
        · exact hB d (List.mem_of_mem_drop hd)
    by_cases h1:[x0,x1,x2]=[97,98,97]
    · have v1:=vadd_tx (l:=l.take j) (k:=[98,97,98]) (by simp;omega)
      rw [f2] at v1
      have v2:=vadd_tx (l:=l.take j++[98,97,98]) (k:=l.drop (j+3)) (by simp;omega)
      have k:=hK (l.take j++([98,97,98]++l.drop (j+3))) (by
        have h:=Act.tw.mid (a:=l.take j) (b:=l.drop (j+3))
        rw [←h1,←t3] at h;exact h) (by simp;omega) (byt _ (lit3 (Or.inr rfl) (Or.inl rfl)))
      rw [←List.append_assoc] at k
      have q1':=q1
      rw [decide_eq_true h1] at q1'
      simp (disch:=omega) [h3',c1,c3,c4,q1',v1,v2,wrap_i64]
      simpa using k
    · rw [decide_eq_false h1] at q1
      by_cases h2:[x0,x1,x2]=[98,97,98]
      · have v1:=vadd_tx (l:=l.take j) (k:=[97,98,97]) (by simp;omega)
        rw [f1] at v1
        have v2:=vadd_tx (l:=l.take j++[97,98,97]) (k:=l.drop (j+3)) (by simp;omega)
        have k:=hK (l.take j++([97,98,97]++l.drop (j+3))) (by
          have h:=Act.wt.mid (a:=l.take j) (b:=l.drop (j+3))
          rw [←h2,←t3] at h;exact h) (by simp;omega) (byt _ (lit3 (Or.inl rfl) (Or.inr rfl)))
        rw [←List.append_assoc] at k
        rw [decide_eq_true h2] at q2
        simp (disch:=omega) [h3',c1,c3,c4,q1,q2,v1,v2,wrap_i64]
        simpa using k
      · rw [decide_eq_false h2] at q2
        simp (disch:=omega) [h3',c1,c3,c4,q1,q2,wrap_i64]
        exact hK l Act.refl (by omega) hB
theorem law_PlaitChanges {H:Hp} {lim:Nat} {s:ByteArray} {v:V} {l:List Ch} {K:V→Hp→Prop} (hl:LstV chC H v l) (hH:HX glHp H) (hlim:lim≤H.length) (h1:s.size≤maxLen) (hK:∀X,K (.bool true) (H++X)):VCall tbl lim 11 [.str s,v] H K:=by
  have hc:=chk_of hH
  refine VCall_fn tbl_at11 rfl ?_
  simp [vf11,hl.len,hl.stor]
  refine long_t ?_
  by_cases hu:200<s.size
  · simp [hu]
    exact known_t hc hlim fun X=>by simp;exact hK X
  simp [hu]
  refine valid_t hlim fun X0 => ?_
  cases hv:vld s with
  | false =>
    simp [hl.len,hl.stor]
    exact known_t (chk_app hc) (by simp;omega) fun W=>by simp;exact hK _
  | true =>
    have hb:=vld_len hv
    simp [hl.len,hl.stor]
    by_cases hn:100<l.length
    · have hn':((100:Int)<(l.length:Int))=True:=eq_true (by omega)
      simp [hn']
      exact known_t (chk_app hc) (by simp;omega) fun W=>by simp;exact hK _
    have hn':((100:Int)<(l.length:Int))=False:=eq_false (by omega)
    simp [hn']
    refine wLoop_up l.length (fun i fr L H'=>(fr 0=.str s∧fr 1=v∧fr 6=.int .i64 i)∧(∃u,fr 5=.str u∧vld u=true∧Act (lst s) (lst u))∧L=[]∧(∃X,H'=H++X)∧i≤l.length) ⟨by simp,⟨s,by simp,hv,Act.refl⟩,rfl,⟨_,rfl⟩,by omega⟩ ?_
    rintro i hi fr L H' ⟨⟨f0,f1,f6⟩,⟨u,f5,vu,au⟩,rfl,⟨X,rfl⟩,hle⟩
    have hub:=vld_len vu
    by_cases hp:i<l.length
    · have hp':((i:Int)<(l.length:Int))=True:=eq_true (by omega)
      have hl2:=hl.mono ⟨X,rfl⟩
      have hld:=hl2.load hp (L:=[])
      have had:=hl2.at hp
      have hcell:chC.cells (l.getD i default)=[.int .i64 (l.getD i default).at_,.int .i64 (l.getD i default).kind]:=rfl
      rw [hcell] at hld
      simp [f0,f1,f5,f6,hp',hl.len,hl.stor,had,hld]
      rw [show u=tx (lst u) from tx_lst.symm]
      refine changed_r (by rw [lst_len];exact hub) (allL_vld vu) fun l' a1 a2 a3 => ?_
      rw [tx_lst]
      simp [f0,f1,f5,f6]
      refine valid_t (by simp;omega) fun Y => ?_
      cases hv2:vld (tx l') with
      | false =>
        simp (disch:=omega) [f0,f1,f5,f6,wrap_i64]
        exact ⟨hp,⟨vu,au⟩,hp⟩
      | true =>
        have e:=lst_tx a3
        have a4:Act (lst s) (lst (tx l')):=by rw [e];exact au.trans a1
        simp (disch:=omega) [f0,f1,f5,f6,wrap_i64]
        exact ⟨hp,⟨hv2,a4⟩,hp⟩
    · have hp':((i:Int)<(l.length:Int))=False:=eq_false (by omega)
      have q1:eqv s u=true:=eqv_of hv vu (au.1 _) (au.2.1 _)
      have q2:=endV_eq hv vu (au.2.2 _)
      have q3:cntL (chT s) s.size=cntL (chT u) u.size:=by rw [cnt_all,cnt_all];exact au.2.1 _
      have hs:samV s u=.tup [.bool true,.int .i64 0]:=by simp [samV,hv,vu,q1]
      have hc1:croV s=.tup [.int .i64 (cntL (chT s) s.size),.int .i64 0]:=by simp [croV,hv]
      have hc2:croV u=.tup [.int .i64 (cntL (chT s) s.size),.int .i64 0]:=by simp [croV,vu,q3]
      have he:∃n0 n1 n2:Int,endV s=.tup [.agg [.int .i64 n0,.int .i64 n1,.int .i64 n2],.int .i64 0]:=by
        simp only [endV,hv,if_true,F9.E];exact ⟨_,_,_,rfl⟩
      obtain ⟨n0,n1,n2,he⟩:=he
      have he2:endV u=.tup [.agg [.int .i64 n0,.int .i64 n1,.int .i64 n2],.int .i64 0]:=by rw [←q2,he]
      have hve:veqA false [.int .i64,.int .i64,.int .i64] (.agg [.int .i64 n0,.int .i64 n1,.int .i64 n2]) (.agg [.int .i64 n0,.int .i64 n1,.int .i64 n2])=some (.bool true):=by simp [veqA,eqCells,eqCell]
      generalize cntL (chT s) s.size=cn at hc1 hc2
      simp [f0,f1,f5,f6,hp',hl.len,hl.stor]
      refine same_t (chk_app hc) (by simp;omega) fun X2 => ?_
      simp [hs,f0,f5]
      refine ends_t (by simp;omega) fun X3 => ?_
      simp [he,f0,f5,splice]
      refine ends_t (by simp;omega) fun X4 => ?_
      simp [he2,f0,f5,splice]
      refine cross_t (by simp;omega) fun X5 => ?_
      simp [hc1,f0,f5]
      refine cross_t (by simp;omega) fun X6 => ?_
      simp [hc2,rd3w,hve]
      exact known_t (chk_app hc) (by simp;omega) fun W=>by simp;exact hK _
end Go.Proofs.YtalejadhccgckaaDoor.Vm
