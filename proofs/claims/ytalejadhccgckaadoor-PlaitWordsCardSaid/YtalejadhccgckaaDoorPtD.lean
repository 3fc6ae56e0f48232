/- Reduce of both sides; the law PlaitWords. -/
import Derived.Test.YtalejadhccgckaaDoorPmE
namespace Go.Proofs.YtalejadhccgckaaDoor.Vm
open Go
set_option maxRecDepth 100000
set_option linter.unusedSimpArgs false
set_option linter.unusedVariables false
attribute [-simp] List.getD_eq_getElem?_getD
def psh (c:Nat):List Nat→List Nat
  | []=>[c]
  | d :: R=>if d=op c then R else c :: d :: R
def redL (l:List Nat):List Nat:=l.foldl (fun R c=>psh c R) []
theorem redL_snoc {l:List Nat}{c:Nat}:redL (l++[c])=psh c (redL l):=by simp [redL]
theorem psh_len {c:Nat}{R:List Nat}:(psh c R).length≤R.length+1:=by
  unfold psh
  split
  · simp
  · split<;>simp;omega
theorem psh_let {c:Nat}{R:List Nat}(hc:isLet c)(h:allL R):allL (psh c R):=by
  unfold psh
  split
  · intro d hd;simp at hd;rw [hd];exact hc
  · split
    · intro d hd;exact h d (by simp [hd])
    · intro d hd
      rcases List.mem_cons.1 hd with rfl | hd
      · exact hc
      · exact h d hd
def noOp:List Nat→Prop
  | c :: d :: R=>d≠op c∧noOp (d :: R)
  | _=>True
theorem noOp_tail {c:Nat}{R:List Nat}(h:noOp (c :: R)):noOp R:=by
  cases R with
  | nil=>trivial
  | cons d R=>exact h.2
theorem psh_no {c:Nat}{R:List Nat}(h:noOp R):noOp (psh c R):=by
  unfold psh
  split
  · trivial
  · split
    · exact noOp_tail h
    · rename_i e;exact ⟨e,h⟩
theorem red_no:∀n (l:List Nat),l.length=n→noOp (redL l)
  | 0,l,h=>by rw [List.eq_nil_of_length_eq_zero h];trivial
  | n + 1,l,h=>by
    rcases List.eq_nil_or_concat l with rfl | ⟨k,c,rfl⟩
    · cases h
    · rw [List.concat_eq_append,redL_snoc]
      exact psh_no (red_no n k (by simpa using h))
theorem red_let:∀n (l:List Nat),l.length=n→allL l→allL (redL l)
  | 0,l,h,_=>by rw [List.eq_nil_of_length_eq_zero h];intro c hc;cases hc
  | n + 1,l,h,ha=>by
    rcases List.eq_nil_or_concat l with rfl | ⟨k,c,rfl⟩
    · cases h
    · rw [List.concat_eq_append] at ha ⊢
      rw [redL_snoc]
      exact psh_let (ha c (by simp)) (red_let n k (by simpa using h) fun d hd=>ha d (by simp [hd]))
theorem red_len:∀n (l:List Nat),l.length=n→(redL l).length≤n
  | 0,l,h=>by rw [List.eq_nil_of_length_eq_zero h];simp [redL]
  | n + 1,l,h=>by
    rcases List.eq_nil_or_concat l with rfl | ⟨k,c,rfl⟩
    · cases h
    · rw [List.concat_eq_append,redL_snoc]
      have h1:=red_len n k (by simpa using h)
      have h2:=psh_len (c:=c) (R:=redL k)
      omega
theorem psh_mat {c:Nat}{R:List Nat}{m:M4}(hc:isLet c)(h:allL R):matL m (psh c R).reverse=matL m (R.reverse++[c]):=by
  unfold psh
  split
  · rfl
  · rename_i d R
    split
    · rename_i e
      have hd:isLet d:=h d (by simp)
      have e2:c=op d:=by rw [e,op_op hc]
      rw [List.reverse_cons,List.append_assoc,matL_app]
      show _=((matL m R.reverse).step d).step c
      rw [e2,step_op hd]
    · rw [List.reverse_cons]
theorem psh_cnt {c:Nat}{R:List Nat}{m:Int}(hc:isLet c)(h:allL R):cntS m (psh c R).reverse=cntS m (R.reverse++[c]):=by
  unfold psh
  split
  · rfl
  · rename_i d R
    split
    · rename_i e
      have hd:isLet d:=h d (by simp)
      have e2:c=op d:=by rw [e,op_op hc]
      rw [List.reverse_cons,List.append_assoc,cntS_app,e2]
      exact (cnt_op hd).symm
    · rw [List.reverse_cons]
theorem red_mat {m:M4}:∀n (l:List Nat),l.length=n→allL l→matL m (redL l).reverse=matL m l
  | 0,l,h,_=>by rw [List.eq_nil_of_length_eq_zero h];rfl
  | n + 1,l,h,ha=>by
    rcases List.eq_nil_or_concat l with rfl | ⟨k,c,rfl⟩
    · cases h
    · rw [List.concat_eq_append] at ha ⊢
      have hk:allL k:=fun d hd=>ha d (by simp [hd])
      have hl:k.length=n:=by simpa using h
      rw [redL_snoc,psh_mat (ha c (by simp)) (red_let n k hl hk),matL_app,red_mat n k hl hk,matL_app]
theorem red_cnt {m:Int}:∀n (l:List Nat),l.length=n→allL l→cntS m (redL l).reverse=cntS m l
  | 0,l,h,_=>by rw [List.eq_nil_of_length_eq_zero h];rfl
  | n + 1,l,h,ha=>by
    rcases List.eq_nil_or_concat l with rfl | ⟨k,c,rfl⟩
    · cases h
    · rw [List.concat_eq_append] at ha ⊢
      have hk:allL k:=fun d hd=>ha d (by simp [hd])
      have hl:k.length=n:=by simpa using h
      rw [redL_snoc,psh_cnt (ha c (by simp)) (red_let n k hl hk),cntS_app,red_cnt n k hl hk,cntS_app]
theorem red_id:∀{R:List Nat},noOp R→redL R.reverse=R
  | [],_=>rfl
  | c :: R,h=>by
    rw [List.reverse_cons,redL_snoc,red_id (noOp_tail h)]
    cases R with
    | nil=>rfl
    | cons d R=>simp only [psh];rw [if_neg h.1]
def lrow (l:List Nat):List V:=l.map fun c:Nat=>V.int .i32 (c:Int)
theorem enc_tx {c:Nat}(h:c<128):Utf8.encode (c:Int)=tx [c]:=by
  unfold Utf8.encode
  have hv:Utf8.valid (c:Int)=true:=by
    simp [Utf8.valid];left;omega
  simp only [hv,if_true,Int.toNat_natCast]
  rw [if_pos (by omega)]
  rfl
theorem runes_tx:∀{l k:List Nat},(∀c∈l,c<128)→runesOf (tx k) (lrow l)=some (tx (k++l))
  | [],k,_=>by simp [lrow,runesOf]
  | c :: l,k,h=>by
    show runesOf (tx k++Utf8.encode (c:Int)) (lrow l)=_
    rw [enc_tx (h c (by simp)),tx_app,runes_tx fun d hd=>h d (by simp [hd])]
    simp
def Pile (H1 G:Hp)(v:V)(R:List Nat):Prop :=
  (v=.snil∧R=[])∨∃k cap cs,k≠0∧G[k]? = some (.row cs true)∧cs.length=cap∧v=mkslc (H1.length+k) 0 R.length 1 cap∧R.length≤cap∧cs.take R.length=lrow R.reverse
section
variable {H1 G:Hp}{v:V}{R:List Nat}{d:Nat}
theorem weak_mk {b o n z c:Nat}:vweak (mkslc b o n z c)=.sl b o n z:=by
  unfold mkslc;split<;>rfl
theorem stor_mk {b o n z c:Nat}:stor (mkslc b o n z c)=true:=by
  unfold mkslc;split<;>rfl
theorem len_mk {b o n z c:Nat}:vlenS (mkslc b o n z c)=some (.int .i64 n):=by
  unfold mkslc;split<;>rfl
theorem at_in {k:Nat}:(H1++G)[H1.length+k]? = G[k]? := by
  rw [List.getElem?_append_right (by omega)];congr 1;omega
theorem pile_len (h:Pile H1 G v R):vlenS v=some (.int .i64 (R.length:Nat)):=by
  rcases h with ⟨rfl,rfl⟩ | ⟨k,cap,cs,-,-,-,rfl,-,-⟩
  · rfl
  · exact len_mk
theorem pile_set {x:Blk}(h:Pile H1 G v R):Pile H1 (G.set 0 x) v R:=by
  rcases h with h | ⟨k,cap,cs,h1,h2,h3⟩
  · exact .inl h
  · exact .inr ⟨k,cap,cs,h1,by rw [List.getElem?_set_ne (by omega)];exact h2,h3⟩
theorem pile_top (h:Pile H1 G v (d :: R)):∃v' b o,vwk v=some v'∧viaddrS 1 v' (.int .i64 (R.length:Int))=some (.ptr b o)∧vload none [] (H1++G) (.ptr b o)=some (.int .i32 (d:Int)):=by
  rcases h with ⟨-,h⟩ | ⟨k,cap,cs,h1,h2,h3,rfl,h4,h5⟩
  · cases h
  refine ⟨.sl (H1.length+k) 0 (d :: R).length 1,H1.length+k,R.length,by rw [vwk,stor_mk,if_pos rfl,weak_mk],?_,?_⟩
  · simp only [viaddrS,vint,List.length_cons,if_true]
    rw [if_pos (by omega)]
    simp
  · simp only [List.length_cons] at h4 h5
    have hlt:R.length<cs.length:=by omega
    have e:cs[R.length]? = some (.int .i32 (d:Int)):=by
      have:=congrArg (fun l:List V=>l[R.length]?) h5
      simp only [List.getElem?_take,Nat.lt_succ_self,if_true] at this
      rw [this]
      simp [lrow]
    simp only [vload,at_in,h2,rd,hlt,if_true]
    rw [List.getD_eq_getElem?_getD,e];rfl
theorem pile_pop (h:Pile H1 G v (d :: R)):∃v',vslC 1 v none (some (.int .i64 (R.length:Int)))=some v'∧Pile H1 G v' R:=by
  rcases h with ⟨-,h⟩ | ⟨k,cap,cs,h1,h2,h3,rfl,h4,h5⟩
  · cases h
  simp only [List.length_cons] at h4 h5 ⊢
  refine ⟨mkslc (H1.length+k) 0 R.length 1 cap,?_,.inr ⟨k,cap,cs,h1,h2,h3,rfl,by omega,?_⟩⟩
  · unfold mkslc
    by_cases e:R.length+1=cap
    · rw [if_pos e]
      simp only [vslC,if_true,vbounds,vint]
      rw [if_pos (by omega)]
      simp [mkslc,e]
    · rw [if_neg e]
      simp only [vslC,if_true,vbounds,vint]
      rw [if_pos (by omega)]
      simp [mkslc]
  · have:=congrArg (fun l:List V=>l.take R.length) h5
    simp only [List.take_take] at this
    rw [show min R.length (R.length+1)=R.length by omega] at this
    rw [this]
    simp [lrow,List.map_append,List.take_append]
theorem pile_push {lim c:Nat} (hl:lim≤H1.length) (hb:R.length≤1000) (h0:G≠[]) (h:Pile H1 G v R) :
    ∃v' G',vappC false lim 1 4 (H1++(G++[.row [.int .i32 (c:Int)] true])) v (.sl (H1.length+G.length) 0 1 1)=some (v',H1++G')∧Pile H1 G' v' (c :: R)∧G'[0]? = G[0]? := by
  have hG:0<G.length:=List.length_pos_iff.2 h0
  have hcell:∀X:Hp,vcells 1 (H1++(G++[.row [.int .i32 (c:Int)] true])) (.sl (H1.length+G.length) 0 1 1)=some [.int .i32 (c:Int)]:=by
    intro X
    simp only [vcells,if_true,at_in]
    simp
  have hcell:=hcell []
  rcases h with ⟨rfl,rfl⟩ | ⟨k,cap,cs,h1,h2,h3,rfl,h4,h5⟩
  · refine ⟨.sl (H1.length+(G.length+1)) 0 1 1,(G++[.row [.int .i32 (c:Int)] true])++[.row [.int .i32 (c:Int)] true],?_,.inr ⟨G.length+1,1,[.int .i32 (c:Int)],by omega,by simp,rfl,by simp [mkslc],by simp,by simp [lrow]⟩,?_⟩
    · simp only [vappC,vappend,hcell,vlenS]
      simp
    · rw [List.append_assoc,List.getElem?_append_left hG]
  · have hk:k<G.length:=(List.getElem?_eq_some_iff.1 h2).1
    have h2':(G++[Blk.row [.int .i32 (c:Int)] true])[k]? = some (.row cs true):=by rw [List.getElem?_append_left hk,h2]
    have hset:∀x,(H1++(G++[Blk.row [.int .i32 (c:Int)] true])).set (H1.length+k) x=H1++(G++[Blk.row [.int .i32 (c:Int)] true]).set k x:=by
      intro x
      rw [List.set_append_right _ _ (by omega)]
      congr 2;omega
    unfold mkslc
    by_cases e:R.length=cap
    · rw [if_pos e]
      refine ⟨.sl (H1.length+(G.length+1)) 0 (R.length+1) 1,(G++[Blk.row [V.int .i32 (c:Int)] true]).set k .dead++[.row (cs++[.int .i32 (c:Int)]) true],?_,.inr ⟨G.length+1,R.length+1,cs++[.int .i32 (c:Int)],by omega,by simp,by simp;omega,by simp [mkslc],by simp,?_⟩,?_⟩
      · simp only [vappC,vappend,hcell,vlenS]
        have hl2:lim≤H1.length+k:=by omega
        have e3:cs.length=R.length*1:=by omega
        have e4:(R.length+(1:Int).toNat)*4≤140737488355328:=by
          have:(1:Int).toNat=1:=rfl
          omega
        have e5:R.length+(1:Int).toNat<4611686018427387904:=by
          have:(1:Int).toNat=1:=rfl
          omega
        simp only [hl2,at_in,h2',and_self,if_true,e3,e4,e5,hset]
        simp
        omega
      · have e6:cs=lrow R.reverse:=by rw [←h5,List.take_of_length_le (by omega)]
        rw [e6]
        simp [lrow,List.take_of_length_le]
      · rw [List.getElem?_append_left (by simp),List.getElem?_set_ne (by omega),List.getElem?_append_left hG]
    · rw [if_neg e]
      have hlt:R.length<cap:=by omega
      refine ⟨mkslc (H1.length+k) 0 (R.length+1) 1 cap,(G++[Blk.row [V.int .i32 (c:Int)] true]).set k (.row (splice cs R.length [.int .i32 (c:Int)]) true),?_,.inr ⟨k,cap,splice cs R.length [.int .i32 (c:Int)],h1,?_,?_,rfl,by simp;omega,?_⟩,?_⟩
      · simp only [vappC,hcell,vlenS]
        have t1:((1:Nat):Int).toNat=1:=rfl
        have e4:R.length+1≤cap:=by omega
        have hl2:lim≤H1.length+k:=by omega
        have e5:R.length+[V.int .i32 (c:Int)].length≤cs.length:=by simp;omega
        have n0:¬(((1:Nat):Int)=0):=by decide
        have e7:0+R.length*1=R.length:=by omega
        simp only [t1,e4,and_self,if_true,n0,if_false,vstoreH,hl2,at_in,h2',e5,hset,e7,Bool.false_eq_true]
      · rw [List.getElem?_set_self (by simp;omega)]
      · simp [splice];omega
      · simp only [List.length_cons]
        have e8:(cs.take R.length).length=R.length:=by rw [List.length_take];omega
        simp only [splice]
        rw [List.take_append_of_le_length (by simp;omega),h5]
        simp [lrow,List.take_of_length_le]
      · rw [List.getElem?_set_ne (by omega),List.getElem?_append_left hG]
theorem pile_str (ha:∀c∈R,c<128)(h:Pile H1 G v R):∃v',vwk v=some v'∧vstrRs (H1++G) v'=some (.str (tR R)):=by
  have e0:ByteArray.empty=tx []:=rfl
  rcases h with ⟨rfl,rfl⟩ | ⟨k,cap,cs,h1,h2,h3,rfl,h4,h5⟩
  · exact ⟨.snil,rfl,rfl⟩
  refine ⟨.sl (H1.length+k) 0 R.length 1,by rw [vwk,stor_mk,if_pos rfl,weak_mk],?_⟩
  have hc:vcells 1 (H1++G) (.sl (H1.length+k) 0 R.length 1)=some (lrow R.reverse):=by
    simp only [vcells,if_true,at_in,h2]
    rw [if_pos (by omega),List.drop_zero,Nat.mul_one,h5]
  simp only [vstrRs,hc]
  rw [e0,runes_tx fun c hc=>ha c (List.mem_reverse.1 hc)]
  rfl
theorem nx_some {lim p:Nat}{s:ByteArray}(hl:lim≤H1.length)(hg:G[0]? = some (.sit s p))(hp:p<s.size)(h:Pile H1 G v R) :
    ∃G',vnext lim (H1++G) (.it H1.length)=some (.tup [.bool true,.int .i64 p,.int .i32 (Utf8.decode s p).1],H1++G')∧G'[0]? = some (.sit s (p+(Utf8.decode s p).2))∧Pile H1 G' v R:=by
  have hG:0<G.length:=(List.getElem?_eq_some_iff.1 hg).1
  refine ⟨G.set 0 (.sit s (p+(Utf8.decode s p).2)),?_,by rw [List.getElem?_set_self hG],pile_set h⟩
  have e:(H1++G)[H1.length]? = some (.sit s p):=by rw [List.getElem?_append_right (by omega),Nat.sub_self];exact hg
  simp only [vnext,hl,if_true,e,hp]
  rw [List.set_append_right _ _ (by omega),Nat.sub_self]
theorem nx_end {lim p:Nat}{s:ByteArray}(hl:lim≤H1.length)(hg:G[0]? = some (.sit s p))(hp:¬p<s.size):vnext lim (H1++G) (.it H1.length)=some (.tup [.bool false],H1++G):=by
  have e:(H1++G)[H1.length]? = some (.sit s p):=by rw [List.getElem?_append_right (by omega),Nat.sub_self];exact hg
  simp only [vnext,hl,if_true,e,hp,if_false]
end
theorem opp_t {H:Hp}{lim:Nat}{c:Nat}{K:V→Hp→Prop}(hc:isLet c)(hK:K (.int .i32 (op c:Nat)) H):VCall tbl lim 55 [.int .i32 c] H K:=by
  refine VCall_fn tbl_at55 rfl ?_
  rcases hc with rfl | rfl | rfl | rfl<;>simp [vf55,op97,op65,op98,op66] at hK ⊢<;>exact hK
def rdw (s:ByteArray):List Nat:=redL (lst s)
def redV (s:ByteArray):V:=if vld s then .tup [.str (tR (rdw s)),.int .i64 0] else .tup [.str noT,.int .i64 1]
theorem let_lt {l:List Nat}(h:allL l):∀c∈l,c<128:=fun c hc=>by
  rcases h c hc with rfl | rfl | rfl | rfl<;>decide
theorem take_let {s:ByteArray}(hv:vld s=true){i:Nat}:allL ((lst s).take i):=fun c hc=>allL_vld hv c (List.mem_of_mem_take hc)
theorem reduce_t {H:Hp} {lim:Nat} {s:ByteArray} {K:V→Hp→Prop} (hlim:lim≤H.length) (hK:∀X,K (redV s) (H++X)):VCall tbl lim 19 [.str s] H K:=by
  refine VCall_fn tbl_at19 rfl ?_
  simp [vf19]
  refine valid_t hlim fun X => ?_
  cases hv:vld s with
  | false=>simp [redV,hv] at hK ⊢;exact hK X
  | true =>
    have hb:=vld_len hv
    have hl1:lim≤(H++X).length:=by simp;omega
    have hK':∀G,K (.tup [.str (tR (rdw s)),.int .i64 0]) ((H++X)++G):=fun G=>by
      have:=hK (X++G)
      rw [redV,if_pos hv] at this
      rw [List.append_assoc];exact this
    generalize H++X=H1 at hl1 hK'
    simp
    refine wLoop_up s.size (fun i fr L H'=>fr 12=.it H1.length∧L=[]∧(∃G,H'=H1++G∧G[0]? = some (.sit s i)∧Pile H1 G (fr 4) (redL ((lst s).take i)))∧i≤s.size) ⟨by simp,rfl,⟨[.sit s 0],rfl,rfl,.inl ⟨by simp,by simp [redL]⟩⟩,by omega⟩ ?_
    rintro i hi fr L H' ⟨f12,rfl,⟨G,rfl,hg,hP⟩,hle⟩
    have hRl:=red_len i ((lst s).take i) (by rw [List.length_take,lst_len];omega)
    have hRa:=red_let i ((lst s).take i) (by rw [List.length_take,lst_len];omega) (take_let hv)
    by_cases hp:i<s.size
    · obtain ⟨G',hn,hg',hP'⟩:=nx_some hl1 hg hp hP
      have hc:isLet (chT s i):=vld_at hv hp
      have hd:=letB_dec (s:=s) (i:=i) (by rcases hc with e | e | e | e<;>simp [letB,isL,e])
      rw [hd] at hn hg'
      have hnext:redL ((lst s).take (i+1))=psh (chT s i) (redL ((lst s).take i)):=by rw [lst_take hp,redL_snoc]
      have hG0:G'≠[]:=by rintro rfl;simp at hg'
      generalize chT s i=c at hn hc hnext
      generalize redL ((lst s).take i)=R at hP hP' hRl hRa hnext
      generalize f4:fr 4=v at hP hP'
      have hvl:=pile_len hP'
      cases R with
      | nil =>
        obtain ⟨v',G2,hpu,hP2,hg2⟩:=pile_push (c:=c) hl1 (by simp) hG0 hP'
        simp [f12,f4,hn,hvl,hpu,splice]
        refine ⟨hp,⟨by rw [hg2];exact hg',by rw [hnext];exact hP2⟩,hp⟩
      | cons d R =>
        obtain ⟨w,b,o,t1,t2,t3⟩:=pile_top hP'
        simp only [List.length_cons] at hvl hRl
        have hpos:(0:Int)<(R.length:Int)+1:=by omega
        simp (disch:=omega) [f12,f4,hn,hvl,hpos,t1,t2,t3,wrap_i64]
        refine opp_t hc ?_
        by_cases e:d=op c
        · have e':((d:Int)=((op c:Nat):Int))=True:=eq_true (by omega)
          obtain ⟨v',hpo,hP2⟩:=pile_pop hP'
          simp (disch:=omega) [f12,f4,e',hpo,wrap_i64]
          refine ⟨hp,⟨hg',?_⟩,hp⟩
          rw [hnext];simp only [psh];rw [if_pos e];exact hP2
        · have e':((d:Int)=((op c:Nat):Int))=False:=eq_false (by omega)
          obtain ⟨v',G2,hpu,hP2,hg2⟩:=pile_push (c:=c) hl1 (by simp;omega) hG0 hP'
          simp (disch:=omega) [f12,f4,e',hpu,splice]
          refine ⟨hp,⟨by rw [hg2];exact hg',?_⟩,hp⟩
          rw [hnext];simp only [psh];rw [if_neg e];exact hP2
    · have hi:i=s.size:=by omega
      subst hi
      have ht:(lst s).take s.size=lst s:=by rw [←lst_len,List.take_length]
      rw [ht] at hP hRa
      obtain ⟨w,t1,t2⟩:=pile_str (let_lt hRa) hP
      simp [f12,nx_end hl1 hg hp,t1,t2]
      exact hK' G
theorem tR_top {d:Nat}{R:List Nat}(h:d<256):chT (tR (d :: R)) R.length=d:=by
  unfold tR
  have e:(d :: R).reverse.getD R.length 0=d:=by
    rw [List.getD_eq_getElem?_getD,List.reverse_cons,List.getElem?_append_right (by simp)]
    simp
  rw [chT_tx (by simp) (by rw [e];exact h),e]
theorem let_op {c:Nat}(h:isLet c):(oppF (c:Int))=(op c:Nat):=by
  rcases h with rfl | rfl | rfl | rfl<;>rfl
theorem reduce_r {H:Hp} {lim:Nat} {s:ByteArray} {K:V→Hp→Prop} (hs:s.size≤1000000) (hK:K (redV s) H):VCall tbl lim 20 [.str s] H K:=by
  refine VCall_fn tbl_at20 rfl ?_
  simp [vf20]
  refine valid_r hs ?_
  cases hv:vld s with
  | false=>simp [redV,hv] at hK ⊢;exact hK
  | true =>
    have hb:=vld_len hv
    rw [redV,if_pos hv] at hK
    simp
    refine wLoop_up s.size (fun i fr L H'=>(fr 0=.str s∧fr 5=.int .i64 i)∧fr 4=.str (tR (redL ((lst s).take i)))∧L=[]∧H'=H∧i≤s.size) ⟨by simp,by simp [redL];rfl,rfl,rfl,by omega⟩ ?_
    rintro i hi fr L H' ⟨⟨f0,f5⟩,f4,rfl,rfl,hle⟩
    have hRl:=red_len i ((lst s).take i) (by rw [List.length_take,lst_len];omega)
    have hRa:=red_let i ((lst s).take i) (by rw [List.length_take,lst_len];omega) (take_let hv)
    by_cases hp:i<s.size
    · have hp':((i:Int)<(s.size:Int))=True:=eq_true (by omega)
      have hc:isLet (chT s i):=vld_at hv hp
      have hx:=idxT hp
      have hnext:redL ((lst s).take (i+1))=psh (chT s i) (redL ((lst s).take i)):=by rw [lst_take hp,redL_snoc]
      have hcut:vslT (.str s) (some (.int .i64 (i:Int))) (some (.int .i64 ((i:Int)+1)))=some (.str (tx [chT s i])):=by
        simp only [vslT,vbounds,vint]
        rw [if_pos (by omega),if_pos (by omega)]
        have e1:((i:Int)+1).toNat=i+1:=by omega
        simp only [Int.toNat_natCast,e1,one_tx hp]
      generalize chT s i=c at hx hc hnext hcut
      generalize redL ((lst s).take i)=R at f4 hRl hRa hnext
      cases R with
      | nil =>
        have z1:(tR []).size=0:=rfl
        have ha:=vadd_str (a:=tR []) (b:=tx [c]) (by rw [z1,tx_size];simp)
        rw [tR_push] at ha
        simp (disch:=omega) [f0,f4,f5,hp',z1,hcut,ha,wrap_i64]
        exact ⟨hp,by rw [hnext];rfl,hp⟩
      | cons d R =>
        have hd:isLet d:=hRa d (by simp)
        have hd2:d<256:=by rcases hd with e | e | e | e<;>omega
        simp only [List.length_cons] at hRl
        have z1:(tR (d :: R)).size=R.length+1:=by rw [tR_size];rfl
        have hpos:(0:Int)<(R.length:Int)+1:=by omega
        have hx2:=idxT (s:=tR (d :: R)) (i:=R.length) (by omega)
        rw [tR_top hd2] at hx2
        simp (disch:=omega) [f0,f4,f5,hp',z1,hpos,hx,hx2,wrap_i64]
        refine opp_r hc ?_
        rw [let_op hc]
        by_cases e:d=op c
        · have e':((d:Int)=((op c:Nat):Int))=True:=eq_true (by omega)
          have hcut2:vslT (.str (tR (d :: R))) none (some (.int .i64 (R.length:Int)))=some (.str (tR R)):=by
            simp only [vslT,vbounds,vint]
            rw [if_pos (by omega),if_pos (by omega)]
            have:=tR_pre (P:=[d]) (R:=R)
            simp only [List.cons_append,List.nil_append] at this
            simp [this]
          simp (disch:=omega) [f0,f4,f5,e',hcut2,wrap_i64]
          refine ⟨hp,?_,hp⟩
          rw [hnext];simp only [psh];rw [if_pos e]
        · have e':((d:Int)=((op c:Nat):Int))=False:=eq_false (by omega)
          have ha:=vadd_str (a:=tR (d :: R)) (b:=tx [c]) (by rw [z1,tx_size];simp;omega)
          rw [tR_push] at ha
          simp (disch:=omega) [f0,f4,f5,e',hcut,ha,wrap_i64]
          refine ⟨hp,?_,hp⟩
          rw [hnext];simp only [psh];rw [if_neg e]
    · have hp':((i:Int)<(s.size:Int))=False:=eq_false (by omega)
      have hi:i=s.size:=by omega
      subst hi
      have ht:(lst s).take s.size=lst s:=by rw [←lst_len,List.take_length]
      rw [ht] at f4
      simp [f0,f4,f5,hp']
      exact hK
theorem let_256 {l:List Nat}(h:allL l):∀c∈l,c<256:=fun c hc=>by
  have:=let_lt h c hc;omega
theorem lst_tR {R:List Nat}(h:allL R):lst (tR R)=R.reverse:=lst_tx fun c hc=>let_256 h c (List.mem_reverse.1 hc)
theorem vld_list {s:ByteArray}(ha:allL (lst s))(h:s.size≤60):vld s=true:=by
  have key:∀m,m≤s.size→allN (letB s) m=true:=by
    intro m
    induction m with
    | zero=>intro _;rfl
    | succ m ih =>
      intro hm
      simp only [allN,ih (by omega),Bool.true_and,letB]
      have h1:=lst_at (s:=s) (i:=m) (by omega)
      have h2:=ha _ (List.mem_of_getElem? h1)
      rcases h2 with e | e | e | e<;>rw [e]<;>rfl
  rw [vld,key _ (Nat.le_refl _),Bool.true_and]
  exact decide_eq_true h
theorem law_PlaitWords {H:Hp} {lim:Nat} {s:ByteArray} {K:V→Hp→Prop} (hH:HX glHp H) (hlim:lim≤H.length) (h1:s.size≤maxLen) (hK:∀X,K (.bool true) (H++X)):VCall tbl lim 3 [.str s] H K:=by
  have hc:=chk_of hH
  refine VCall_fn tbl_at3 rfl ?_
  simp [vf3]
  refine long_t ?_
  by_cases hu:200<s.size
  · simp [hu]
    exact known_t hc hlim fun X=>by simp;exact hK X
  simp [hu]
  refine reduce_t hlim fun X1 => ?_
  cases hv:vld s with
  | false =>
    have hr:redV s=.tup [.str noT,.int .i64 1]:=by simp [redV,hv]
    have hs:samV s noT=.tup [.bool false,.int .i64 1]:=by simp [samV,hv]
    simp [hr]
    refine reduce_r (by omega) ?_
    simp [hr]
    refine reduce_t (by simp;omega) fun X2 => ?_
    have hr0:redV noT=.tup [.str (tR (rdw noT)),.int .i64 0]:=by simp [redV,vld0]
    simp [hr0]
    refine same_t (chk_app hc) (by simp;omega) fun X3 => ?_
    simp [hs]
    refine valid_t (by simp;omega) fun X4 => ?_
    simp [hv]
    refine valid_r (by omega) ?_
    simp [hv,veq_self]
    exact known_t (chk_app hc) (by simp;omega) fun W=>by simp;exact hK _
  | true =>
    have hb:=vld_len hv
    have hl:=allL_vld hv
    have hR:=red_let _ (lst s) rfl hl
    have hRl:=red_len _ (lst s) rfl
    have hm:=red_mat (m:=.one) _ (lst s) rfl hl
    have hn:=red_cnt (m:=0) _ (lst s) rfl hl
    have hid:=red_id (red_no _ (lst s) rfl)
    have hr:redV s=.tup [.str (tR (rdw s)),.int .i64 0]:=by simp [redV,hv]
    have hlR:lst (tR (rdw s))=(rdw s).reverse:=lst_tR hR
    have hz:(tR (rdw s)).size≤60:=by
      rw [tR_size];rw [lst_len] at hRl;exact Nat.le_trans hRl hb
    have hvR:vld (tR (rdw s))=true:=vld_list (by rw [hlR];exact fun c hc=>hR c (List.mem_reverse.1 hc)) hz
    have hr2:redV (tR (rdw s))=.tup [.str (tR (rdw s)),.int .i64 0]:=by
      have:rdw (tR (rdw s))=rdw s:=by
        show redL (lst (tR (rdw s)))=rdw s
        rw [hlR];exact hid
      simp [redV,hvR,this]
    have hq:=eqv_of hv hvR (by rw [hlR];exact hm.symm) (by rw [hlR];exact hn.symm)
    generalize tR (rdw s)=r at hr hr2 hvR hq
    have hs:samV s r=.tup [.bool true,.int .i64 0]:=by simp [samV,hv,hvR,hq]
    simp [hr]
    refine reduce_r (by omega) ?_
    simp [hr]
    refine reduce_t (by simp;omega) fun X2 => ?_
    simp [hr2]
    refine same_t (chk_app hc) (by simp;omega) fun X3 => ?_
    simp [hs]
    refine valid_t (by simp;omega) fun X4 => ?_
    simp [hv]
    refine valid_r (by omega) ?_
    simp [hv,veq_self]
    exact known_t (chk_app hc) (by simp;omega) fun W=>by simp;exact hK _
end Go.Proofs.YtalejadhccgckaaDoor.Vm
