/- Layer 6 over the machine: known(), letters, Valid, matrices, Join. -/
import Derived.Test.YtalejadhccgckaaDoorVmTab
import Derived.Test.YtalejadhccgckaaDoorPsP
import Derived.Test.YtalejadhccgckaaDoorVmRec
import Derived.Test.YtalejadhccgckaaDoorVmMove
import Derived.Test.YtalejadhccgckaaDoorVmFlat
import Derived.LaidMore
import GoSem.PinnedTables
namespace Go.Proofs.YtalejadhccgckaaDoor.Vm
open Go
set_option maxRecDepth 100000
set_option linter.unusedSimpArgs false
set_option linter.unusedVariables false
attribute [-simp] List.getD_eq_getElem?_getD
def qK:FuncId→Option PrimF:=fun f=>if f=62 then some (flatP (fun _=>true) gRepeat) else if f=86 then some (flatP (fun _=>true) gMap) else if f=52 then some (flatP (fun _=>true) gParse) else none
theorem known_run:isTrue (evFn (knT tbl qK) 60 0 18 [] [])=true:=by kernel_rfl
theorem chk_app {H X:Hp}(h:chkU8 H=true):chkU8 (H++X)=true:=by
  simp only [chkU8,Bool.and_eq_true] at h ⊢
  have key:∀b t,rowIs H b t=true→rowIs (H++X) b t=true:=by
    intro b t h
    unfold rowIs at h ⊢
    split at h
    case h_2=>cases h
    rename_i cs own hb
    rw [List.getElem?_append_left (List.getElem?_eq_some_iff.1 hb).1,hb]
    exact h
  exact ⟨key _ _ h.1,key _ _ h.2⟩
theorem known_t {H:Hp} {lim:Nat} {K:V→Hp→Prop} (hc:chkU8 H=true) (hlim:lim≤H.length) (hK:∀X,K (.bool true) (H++X)):VCall tbl lim 18 [] H K:=by
  refine vcall_knownT (T0:=knT tbl qK) (ShT.kn fun f g0 hq vf hvf => ?_) known_run hlim hK
  unfold qK at hq
  split at hq
  · rename_i e;subst e;cases hq
    rw [tbl_at62] at hvf;cases hvf
    exact ⟨_,rfl,primSh_flat fun _=>rfl⟩
  · split at hq
    · rename_i e;subst e;cases hq
      rw [tbl_at86] at hvf;cases hvf
      exact ⟨_,rfl,primSh_flat fun X=>chk_app hc⟩
    · split at hq
      · rename_i e;subst e;cases hq
        rw [tbl_at52] at hvf;cases hvf
        exact ⟨_,rfl,primSh_flat fun X=>chk_app hc⟩
      · cases hq
attribute [simp] vlenT_str
theorem dec_ge {s:ByteArray}{i:Nat}(h:¬chT s i<128):128≤(Utf8.decode s i).1:=by
  unfold Utf8.decode
  simp only [Nat.add_zero,get_chT]
  rw [if_neg h]
  repeat' split
  all_goals simp only [Utf8.runeError]
  all_goals simp only [ge_iff_le,Bool.and_eq_true,decide_eq_true_eq] at *
  all_goals omega
def isLI (n:Int):Bool:=decide (n=97)||decide (n=65)||decide (n=98)||decide (n=66)
def allN (f:Nat→Bool):Nat→Bool
  | 0=>true
  | n+1=>allN f n&&f n
theorem allN_at {f:Nat→Bool}:∀{n:Nat},allN f n=true→∀{i:Nat},i<n→f i=true
  | n+1,h,i,hi=>by
    simp only [allN,Bool.and_eq_true] at h
    by_cases e:i=n
    · subst e;exact h.2
    · exact allN_at h.1 (by omega)
theorem allN_not {f:Nat→Bool}{n i:Nat}(hi:i<n)(hf:f i=false):allN f n=false:=by
  cases h:allN f n with
  | false=>rfl
  | true=>rw [allN_at h hi] at hf;cases hf
def letB (s:ByteArray)(i:Nat):Bool:=isL (chT s i)
def vld (s:ByteArray):Bool:=allN (letB s) s.size&&decide (s.size≤60)
theorem vld_at {s:ByteArray}(h:vld s=true){i:Nat}(hi:i<s.size):chT s i=97∨chT s i=65∨chT s i=98∨chT s i=66:=by
  simp only [vld,Bool.and_eq_true] at h
  have:=allN_at h.1 hi
  simp only [letB,isL,Bool.or_eq_true,decide_eq_true_eq] at this
  omega
theorem vld_len {s:ByteArray}(h:vld s=true):s.size≤60:=by
  simp only [vld,Bool.and_eq_true,decide_eq_true_eq] at h
  exact h.2
theorem letB_dec {s:ByteArray}{i:Nat}(hi:letB s i=true):Utf8.decode s i=(chT s i,1):=by
  refine dec_lt ?_
  simp only [letB,isL,Bool.or_eq_true,decide_eq_true_eq] at hi
  omega
theorem letB_I {s:ByteArray} {i:Nat}:isLI ((Utf8.decode s i).1:Nat)=letB s i:=by
  by_cases h:chT s i<128
  · rw [dec_lt h]
    simp only [isLI,letB,isL]
    congr 1
    · congr 1
      · congr 1
        · exact decide_eq_decide.2 (by omega)
        · exact decide_eq_decide.2 (by omega)
      · exact decide_eq_decide.2 (by omega)
    · exact decide_eq_decide.2 (by omega)
  · have:=dec_ge h
    have e1:letB s i=false:=by
      simp only [letB,isL,Bool.or_eq_false_iff,decide_eq_false_iff_not];omega
    have e2:isLI ((Utf8.decode s i).1:Nat)=false:=by
      simp only [isLI,Bool.or_eq_false_iff,decide_eq_false_iff_not];omega
    rw [e1,e2]
theorem vnext_some {lim:Nat}{H:Hp}{s:ByteArray}{p:Nat}(hl:lim≤H.length)(hp:p<s.size):vnext lim (H++[.sit s p]) (.it H.length)=some (.tup [.bool true,.int .i64 p,.int .i32 (Utf8.decode s p).1],H++[.sit s (p+(Utf8.decode s p).2)]):=by
  simp only [vnext,hl,if_true,lastO,hp,lastS]
theorem vnext_end {lim:Nat}{H:Hp}{s:ByteArray}{p:Nat}(hl:lim≤H.length)(hp:¬p<s.size):vnext lim (H++[.sit s p]) (.it H.length)=some (.tup [.bool false],H++[.sit s p]):=by
  simp only [vnext,hl,if_true,lastO,hp,if_false]
theorem long_t {H:Hp}{lim:Nat}{s:ByteArray}{K:V→Hp→Prop}(hK:K (.bool (decide (200<s.size))) H):VCall tbl lim 17 [.str s] H K:=by
  refine VCall_fn tbl_at17 rfl ?_
  simp [vf17]
  have e:decide ((200:Int)<(s.size:Int))=decide (200<s.size):=decide_eq_decide.2 (by omega)
  rw [e];exact hK
end Go.Proofs.YtalejadhccgckaaDoor.Vm
namespace Go.Proofs.YtalejadhccgckaaDoor.Vm
open Go
set_option maxRecDepth 100000
set_option linter.unusedSimpArgs false
set_option linter.unusedVariables false
attribute [-simp] List.getD_eq_getElem?_getD
theorem valid_t {H:Hp} {lim:Nat} {s:ByteArray} {K:V→Hp→Prop} (hlim:lim≤H.length) (hK:∀X,K (.bool (vld s)) (H++X)):VCall tbl lim 22 [.str s] H K:=by
  refine VCall_fn tbl_at22 rfl ?_
  simp [vf22]
  refine wLoop_up s.size (fun i fr L H'=>(fr 0=.str s∧fr 6=.it H.length)∧L=[]∧H'=H++[.sit s i]∧allN (letB s) i=true∧i≤s.size) ⟨by simp,rfl,rfl,rfl,by omega⟩ ?_
  rintro i hi fr L H' ⟨⟨f0,f6⟩,rfl,rfl,ha,hle⟩
  by_cases hp:i<s.size
  · have hn:=vnext_some (H:=H) hlim hp
    have hI:=letB_I (s:=s) (i:=i)
    by_cases hl:letB s i=true
    · have h2:(Utf8.decode s i).2=1:=by rw [letB_dec hl]
      rw [h2] at hn
      rw [hl] at hI
      generalize (Utf8.decode s i).1=r at hn hI
      have hr:r=97∨r=65∨r=98∨r=66:=by
        simp only [isLI,Bool.or_eq_true,decide_eq_true_eq] at hI;omega
      have hJ:allN (letB s) (i+1)=true:=by simp only [allN,ha,hl,Bool.and_self]
      rcases hr with rfl | rfl | rfl | rfl<;>simp [f0,f6,hn]<;>exact ⟨hp,hJ,hp⟩
    · have hl:letB s i=false:=by simpa using hl
      rw [hl] at hI
      generalize (Utf8.decode s i).2=w at hn
      generalize (Utf8.decode s i).1=r at hn hI
      simp only [isLI,Bool.or_eq_false_iff,decide_eq_false_iff_not] at hI
      obtain ⟨⟨⟨n1,n2⟩,n3⟩,n4⟩:=hI
      simp [f0,f6,hn,n1,n2,n3,n4]
      have e:vld s=false:=by simp only [vld,allN_not hp hl,Bool.false_and]
      rw [←e];exact hK _
  · have hn:=vnext_end (H:=H) hlim hp
    have hi:i=s.size:=by omega
    subst hi
    simp [f0,f6,hn]
    have e:decide ((s.size:Int)≤60)=vld s:=by
      simp only [vld,ha,Bool.true_and];exact decide_eq_decide.2 (by omega)
    rw [e];exact hK _
theorem isLetter_t {H:Hp}{lim:Nat}{n:Nat}{K:V→Hp→Prop}(hK:K (.bool (isL n)) H):VCall tbl lim 58 [.int .u8 n] H K:=by
  refine VCall_fn tbl_at58 rfl ?_
  have a1:((n:Int)=97)=(n=97):=propext (by omega)
  have a2:((n:Int)=65)=(n=65):=propext (by omega)
  have a3:((n:Int)=98)=(n=98):=propext (by omega)
  have a4:((n:Int)=66)=(n=66):=propext (by omega)
  unfold isL at hK
  by_cases h1:n=97
  · simp [vf58,a1,a2,a3,a4,h1] at hK ⊢;exact hK
  by_cases h2:n=65
  · simp [vf58,a1,a2,a3,a4,h1,h2] at hK ⊢;exact hK
  by_cases h3:n=98
  · simp [vf58,a1,a2,a3,a4,h1,h2,h3] at hK ⊢;exact hK
  by_cases h4:n=66
  · simp [vf58,a1,a2,a3,a4,h1,h2,h3,h4] at hK ⊢;exact hK
  simp [vf58,a1,a2,a3,a4,h1,h2,h3,h4] at hK ⊢;exact hK
theorem valid_r {H:Hp}{lim:Nat}{s:ByteArray}{K:V→Hp→Prop}(hs:s.size≤1000000)(hK:K (.bool (vld s)) H):VCall tbl lim 23 [.str s] H K:=by
  refine VCall_fn tbl_at23 rfl ?_
  simp [vf23]
  refine wLoop_up s.size (fun i fr L H'=>(fr 0=.str s∧fr 3=.int .i64 i)∧L=[]∧H'=H∧allN (letB s) i=true∧i≤s.size) ⟨by simp,rfl,rfl,rfl,by omega⟩ ?_
  rintro i hi fr L H' ⟨⟨f0,f3⟩,rfl,rfl,ha,hle⟩
  by_cases hp:i<s.size
  · have hp':((i:Int)<(s.size:Int))=True:=eq_true (by omega)
    simp [f0,f3,hp',idxT hp]
    refine isLetter_t ?_
    by_cases hl:letB s i=true
    · have hl':isL (chT s i)=true:=hl
      have hJ:allN (letB s) (i+1)=true:=by simp only [allN,ha,hl,Bool.and_self]
      simp (disch:=omega) [f0,f3,hl',wrap_i64]
      exact ⟨hp,hJ,hp⟩
    · have hl:letB s i=false:=by simpa using hl
      have hl':isL (chT s i)=false:=hl
      simp [f0,f3,hl']
      have e:vld s=false:=by simp only [vld,allN_not hp hl,Bool.false_and]
      rw [←e];exact hK
  · have hp':((i:Int)<(s.size:Int))=False:=eq_false (by omega)
    have hi:i=s.size:=by omega
    subst hi
    simp [f0,f3,hp']
    have e:decide ((s.size:Int)≤60)=vld s:=by
      simp only [vld,ha,Bool.true_and];exact decide_eq_decide.2 (by omega)
    rw [e];exact hK
end Go.Proofs.YtalejadhccgckaaDoor.Vm
namespace Go.Proofs.YtalejadhccgckaaDoor.Vm
open Go
set_option maxRecDepth 100000
set_option linter.unusedSimpArgs false
set_option linter.unusedVariables false
attribute [-simp] List.getD_eq_getElem?_getD
structure M4 where
  p:Int
  q:Int
  r:Int
  s:Int
def M4.one:M4:=⟨1,0,0,1⟩
def M4.step (c:Nat)(m:M4):M4:=if c=97 then ⟨m.p,m.q+m.p,m.r,m.s+m.r⟩ else if c=65 then ⟨m.p,m.q-m.p,m.r,m.s-m.r⟩
  else if c=98 then ⟨m.p-m.q,m.q,m.r-m.s,m.s⟩ else ⟨m.p+m.q,m.q,m.r+m.s,m.s⟩
def mat (f:Nat→Nat):Nat→M4
  | 0=>.one
  | n+1=>(mat f n).step (f n)
def M4.mul (a b:M4):M4:=⟨a.p*b.p+a.q*b.r,a.p*b.q+a.q*b.s,a.r*b.p+a.s*b.r,a.r*b.q+a.s*b.s⟩
def M4.Bd (B:Int)(m:M4):Prop := -B≤m.p∧m.p≤B∧-B≤m.q∧m.q≤B∧-B≤m.r∧m.r≤B∧-B≤m.s∧m.s≤B
theorem M4.step_bd {B:Int}{m:M4}(c:Nat)(h:m.Bd B):(m.step c).Bd (2*B):=by
  obtain ⟨p,q,r,s⟩:=m
  simp only [M4.Bd] at h
  unfold M4.step
  repeat' split
  all_goals simp only [M4.Bd]
  all_goals omega
theorem mat_bd {f:Nat→Nat}:∀n,(mat f n).Bd (2 ^ n)
  | 0=>by simp [mat,M4.one,M4.Bd]
  | n+1=>by
    have h:=M4.step_bd (f n) (mat_bd (f:=f) n)
    rw [Int.pow_succ,Int.mul_comm];exact h
theorem pow_le60 {n:Nat}(h:n≤60):(2:Int) ^ n≤1152921504606846976:=by
  have:(2:Int) ^ n≤2 ^ 60:=by
    have:2 ^ n≤2 ^ 60:=Nat.pow_le_pow_right (by omega) h
    exact_mod_cast this
  simpa using this
theorem mat_bd60 {f:Nat→Nat}{n:Nat}(h:n≤60):(mat f n).Bd 1152921504606846976:=by
  have h1:=mat_bd (f:=f) n
  have h2:=pow_le60 h
  simp only [M4.Bd] at h1 ⊢
  omega
def M4.det (m:M4):Int:=m.p*m.s-m.q*m.r
theorem M4.det_step {m:M4}(c:Nat):(m.step c).det=m.det:=by
  obtain ⟨p,q,r,s⟩:=m
  unfold M4.step M4.det
  repeat' split
  all_goals simp only [Int.mul_add,Int.add_mul,Int.mul_sub,Int.sub_mul]
  all_goals omega
theorem mat_det {f:Nat→Nat}:∀n,(mat f n).det=1
  | 0=>by simp [mat,M4.one,M4.det]
  | n+1=>by simp only [mat,M4.det_step];exact mat_det n
theorem step97 {p q r s:Int}:(M4.mk p q r s).step 97=⟨p,q+p,r,s+r⟩:=rfl
theorem step65 {p q r s:Int}:(M4.mk p q r s).step 65=⟨p,q-p,r,s-r⟩:=rfl
theorem step98 {p q r s:Int}:(M4.mk p q r s).step 98=⟨p-q,q,r-s,s⟩:=rfl
theorem step66 {c:Nat}(h1:¬c=97)(h2:¬c=65)(h3:¬c=98){p q r s:Int}:(M4.mk p q r s).step c=⟨p+q,q,r+s,s⟩:=by
  simp only [M4.step,h1,h2,h3,if_false]
theorem M4.mul_step {a b:M4}(c:Nat):a.mul (b.step c)=(a.mul b).step c:=by
  obtain ⟨p,q,r,s⟩:=a
  obtain ⟨p',q',r',s'⟩:=b
  have fin:∀{a b c d a' b' c' d':Int},a=a'→b=b'→c=c'→d=d'→(⟨a,b,c,d⟩:M4)=⟨a',b',c',d'⟩:=by
    rintro _ _ _ _ _ _ _ _ rfl rfl rfl rfl;rfl
  by_cases h1:c=97
  · subst h1
    simp only [step97,M4.mul,Int.mul_add,Int.add_mul]
    apply fin<;>omega
  by_cases h2:c=65
  · subst h2
    simp only [step65,M4.mul,Int.mul_sub,Int.sub_mul]
    apply fin<;>omega
  by_cases h3:c=98
  · subst h3
    simp only [step98,M4.mul,Int.mul_sub,Int.sub_mul]
    apply fin<;>omega
  · simp only [step66 h1 h2 h3,M4.mul,Int.mul_add,Int.add_mul]
    apply fin<;>omega
theorem M4.mul_one {a:M4}:a.mul .one=a:=by
  obtain ⟨p,q,r,s⟩:=a
  simp [M4.mul,M4.one]
theorem mat_cat {f g:Nat→Nat}{n:Nat}:∀{k:Nat},(∀i,i<k→f (n+i)=g i)→mat f (n+k)=(mat f n).mul (mat g k)
  | 0,_=>by simp [mat,M4.mul_one]
  | k+1,h=>by
    show (mat f (n+k)).step (f (n+k))=_
    rw [mat_cat (k:=k) fun i hi=>h i (by omega),h k (by omega)]
    exact (M4.mul_step _).symm
theorem mat_ext {f g:Nat→Nat}:∀{n:Nat},(∀i,i<n→f i=g i)→mat f n=mat g n
  | 0,_=>rfl
  | n+1,h=>by
    show (mat f n).step (f n)=(mat g n).step (g n)
    rw [mat_ext (n:=n) fun i hi=>h i (by omega),h n (by omega)]
def M4.V (m:M4):List V:=[.int .i64 m.p,.int .i64 m.q,.int .i64 m.r,.int .i64 m.s]
abbrev z4V:List V:=[.int .i64 0,.int .i64 0,.int .i64 0,.int .i64 0]
theorem matrix_t {H:Hp}{lim:Nat}{s:ByteArray}{K:V→Hp→Prop}(hlim:lim≤H.length)
    (h1:vld s=true→∀X,K (.tup [.agg (mat (chT s) s.size).V,.int .i64 0]) (H++X)) (h0:vld s=false→∀X,K (.tup [.agg z4V,.int .i64 1]) (H++X)):VCall tbl lim 42 [.str s] H K:=by
  refine VCall_fn tbl_at42 rfl ?_
  simp [vf42]
  refine valid_t hlim fun X => ?_
  replace h1:vld s=true→∀Y,K (.tup [.agg (mat (chT s) s.size).V,.int .i64 0]) ((H++X)++Y):=fun hv Y=>by rw [List.append_assoc];exact h1 hv _
  replace h0:vld s=false→K (.tup [.agg z4V,.int .i64 1]) (H++X):=fun hv=>h0 hv _
  have hlim:lim≤(H++X).length:=by simp;omega
  generalize H++X=H1 at h1 h0 hlim
  cases hv:vld s with
  | false =>
    simp [splice]
    exact h0 hv
  | true =>
    have hb:=vld_len hv
    simp
    refine wLoop_up s.size (fun i fr L H'=>(fr 0=.str s∧fr 2=.lp 0 0∧fr 3=.int .i64 0∧fr 4=.int .i64 (mat (chT s) i).p∧fr 5=.int .i64 (mat (chT s) i).q∧fr 6=.int .i64 (mat (chT s) i).r∧fr 7=.int .i64 (mat (chT s) i).s∧fr 15=.it H1.length)∧L=[z4V]∧H'=H1++[.sit s i]∧i≤s.size) ⟨by simp [mat,M4.one],rfl,rfl,by omega⟩ ?_
    rintro i hi fr L H' ⟨⟨f0,f2,f3,f4,f5,f6,f7,f15⟩,rfl,rfl,hle⟩
    by_cases hp:i<s.size
    · have hn:=vnext_some (H:=H1) (lim:=lim) hlim hp
      have hl:=vld_at hv hp
      have hd:Utf8.decode s i=(chT s i,1):=dec_lt (by omega)
      rw [hd] at hn
      simp only at hn
      have hbd:=mat_bd60 (f:=chT s) (n:=i) (by omega)
      have hs1:mat (chT s) (i+1)=(mat (chT s) i).step (chT s i):=rfl
      rw [hs1]
      generalize mat (chT s) i=m at f4 f5 f6 f7 hbd
      obtain ⟨p,q,r,t⟩:=m
      simp only [M4.Bd] at hbd
      rcases hl with e | e | e | e<;>rw [e] at hn ⊢<;>simp (disch:=omega) [f0,f2,f3,f4,f5,f6,f7,f15,hn,wrap_i64,M4.step]<;>exact ⟨hp,by omega⟩
    · have hn:=vnext_end (H:=H1) (lim:=lim) hlim hp
      have hi:i=s.size:=by omega
      subst hi
      simp [f0,f2,f3,f4,f5,f6,f7,f15,hn,splice]
      exact h1 hv _
theorem matrix0_r {H:Hp}{lim:Nat}{s:ByteArray}{K:V→Hp→Prop}(hv:vld s=true)(hK:K (.agg (mat (chT s) s.size).V) H):VCall tbl lim 72 [.str s] H K:=by
  refine VCall_fn tbl_at72 rfl ?_
  have hb:=vld_len hv
  simp [vf72,splice,rd]
  refine wLoop_up s.size (fun i fr L H'=>(fr 0=.str s∧fr 2=.lp 0 0∧fr 3=.lp 1 0∧fr 4=.int .i64 i)∧L=[z4V,(mat (chT s) i).V]∧H'=H∧i≤s.size) ⟨by simp,by simp [mat,M4.one,M4.V];rfl,rfl,by omega⟩ ?_
  rintro i hi fr L H' ⟨⟨f0,f2,f3,f4⟩,rfl,rfl,hle⟩
  have r0:∀a b c d:V,rd none [a,b,c,d] 0=some a:=fun _ _ _ _=>rfl
  have r1:∀a b c d:V,rd none [a,b,c,d] 1=some b:=fun _ _ _ _=>rfl
  have r2:∀a b c d:V,rd none [a,b,c,d] 2=some c:=fun _ _ _ _=>rfl
  have r3:∀a b c d:V,rd none [a,b,c,d] 3=some d:=fun _ _ _ _=>rfl
  have r4:∀a b c d:V,rd (some 4) [a,b,c,d] 0=some (.agg [a,b,c,d]):=fun _ _ _ _=>rfl
  by_cases hp:i<s.size
  · have hp':((i:Int)<(s.size:Int))=True:=eq_true (by omega)
    have hl:=vld_at hv hp
    have hbd:=mat_bd60 (f:=chT s) (n:=i) (by omega)
    have hs1:mat (chT s) (i+1)=(mat (chT s) i).step (chT s i):=rfl
    have hx:=idxT hp
    rw [hs1]
    generalize mat (chT s) i=m at hbd
    obtain ⟨p,q,r,t⟩:=m
    simp only [M4.Bd] at hbd
    rcases hl with e | e | e | e<;>rw [e] at hx ⊢<;>simp (disch:=omega) [f0,f2,f3,f4,hp',hx,wrap_i64,M4.step,M4.V,r0,r1,r2,r3,r4,splice]<;>exact ⟨hp,by omega⟩
  · have hp':((i:Int)<(s.size:Int))=False:=eq_false (by omega)
    have hi:i=s.size:=by omega
    subst hi
    simp [f0,f2,f3,f4,hp',M4.V,r4,splice]
    exact hK
theorem matrix_r {H:Hp}{lim:Nat}{s:ByteArray}{K:V→Hp→Prop}(hs:s.size≤1000000)
    (h1:vld s=true→K (.tup [.agg (mat (chT s) s.size).V,.int .i64 0]) H) (h0:vld s=false→K (.tup [.agg z4V,.int .i64 1]) H):VCall tbl lim 43 [.str s] H K:=by
  refine VCall_fn tbl_at43 rfl ?_
  simp [vf43]
  refine valid_r hs ?_
  cases hv:vld s with
  | false =>
    simp [splice]
    exact h0 hv
  | true =>
    simp
    refine matrix0_r hv ?_
    simp [splice,M4.V]
    exact h1 hv
end Go.Proofs.YtalejadhccgckaaDoor.Vm
namespace Go.Proofs.YtalejadhccgckaaDoor.Vm
open Go
set_option maxRecDepth 100000
set_option linter.unusedSimpArgs false
set_option linter.unusedVariables false
attribute [-simp] List.getD_eq_getElem?_getD
abbrev noT:ByteArray:=⟨#[]⟩
def ckdV (s:ByteArray):V:=if s.size≤60 then .tup [.str s,.int .i64 0] else .tup [.str noT,.int .i64 4]
theorem checked_t {H:Hp}{lim:Nat}{s:ByteArray}{K:V→Hp→Prop}(hK:K (ckdV s) H):VCall tbl lim 59 [.str s] H K:=by
  refine VCall_fn tbl_at59 rfl ?_
  unfold ckdV at hK
  by_cases h:s.size≤60
  · rw [if_pos h] at hK
    have e:((60:Int)<(s.size:Int))=False:=eq_false (by omega)
    simp [vf59,e];exact hK
  · rw [if_neg h] at hK
    have e:((60:Int)<(s.size:Int))=True:=eq_true (by omega)
    simp [vf59,e];exact hK
def joinV (u v:ByteArray):V:=if vld u&&vld v then ckdV (u++v) else .tup [.str noT,.int .i64 1]
theorem join_t {H:Hp}{lim:Nat}{u v:ByteArray}{K:V→Hp→Prop}(hlim:lim≤H.length)(hK:∀X,K (joinV u v) (H++X)):VCall tbl lim 24 [.str u,.str v] H K:=by
  refine VCall_fn tbl_at24 rfl ?_
  simp [vf24]
  refine valid_t hlim fun X => ?_
  unfold joinV at hK
  cases hu:vld u with
  | false =>
    simp [hu] at hK ⊢
    exact hK X
  | true =>
    simp [hu] at hK ⊢
    refine valid_t (by simp;omega) fun Y => ?_
    cases hv:vld v with
    | false =>
      simp [hv] at hK ⊢
      exact hK _
    | true =>
      have h1:=vld_len hu
      have h2:=vld_len hv
      simp [hv,vadd_str (a:=u) (b:=v) (by omega)] at hK ⊢
      refine checked_t ?_
      have:=hK (X++Y)
      unfold ckdV at this ⊢
      split<;>rename_i hq
      · rw [if_pos hq] at this;simp;exact this
      · rw [if_neg hq] at this;simp;exact this
theorem vld_app {u v:ByteArray}(hu:vld u=true)(hv:vld v=true)(h:u.size+v.size≤60):vld (u++v)=true:=by
  have key:∀n,n≤(u++v).size→allN (letB (u++v)) n=true:=by
    intro n
    induction n with
    | zero=>intro _;rfl
    | succ n ih =>
      intro hn
      rw [size_app] at hn
      simp only [allN,ih (by rw [size_app];omega),Bool.true_and,letB,chT_app]
      simp only [vld,Bool.and_eq_true] at hu hv
      split
      · rename_i hi;exact allN_at hu.1 hi
      · rename_i hi;exact allN_at hv.1 (by omega)
  have k1:=key _ (Nat.le_refl _)
  rw [vld,k1,Bool.true_and,size_app]
  exact decide_eq_true h
theorem mat_app {u v:ByteArray}:mat (chT (u++v)) (u++v).size=(mat (chT u) u.size).mul (mat (chT v) v.size):=by
  rw [size_app,mat_cat (g:=chT v) fun i hi=>by rw [chT_app,if_neg (by omega)];congr 1;omega]
  congr 1
  exact mat_ext fun i hi=>by rw [chT_app,if_pos hi]
abbrev wr (n:Int):Int:=IntKind.wrap .i64 n
theorem wr_sub {a b:Int}:wr (wr a-wr b)=wr (a-b):=by
  simp [IntKind.wrap,IntKind.bits,IntKind.signed];omega
theorem wr_add {a b:Int}:wr (wr a+wr b)=wr (a+b):=by
  simp [IntKind.wrap,IntKind.bits,IntKind.signed];omega
theorem eq4_t {a b c d:Int}:eqCells [.int .i64,.int .i64,.int .i64,.int .i64] [.int .i64 a,.int .i64 b,.int .i64 c,.int .i64 d] [.int .i64 a,.int .i64 b,.int .i64 c,.int .i64 d]=some true:=by
  simp [eqCells,eqCell]
theorem times_t {H:Hp}{lim:Nat}{a b:M4}{K:V→Hp→Prop}(hK:K (.agg [.int .i64 (wr (a.p*b.p+a.q*b.r)),.int .i64 (wr (a.p*b.q+a.q*b.s)),.int .i64 (wr (a.r*b.p+a.s*b.r)),.int .i64 (wr (a.r*b.q+a.s*b.s))]) H):VCall tbl lim 44 [.agg a.V,.agg b.V] H K:=by
  refine VCall_fn tbl_at44 rfl ?_
  have r0:∀a b c d:V,rd none [a,b,c,d] 0=some a:=fun _ _ _ _=>rfl
  have r1:∀a b c d:V,rd none [a,b,c,d] 1=some b:=fun _ _ _ _=>rfl
  have r2:∀a b c d:V,rd none [a,b,c,d] 2=some c:=fun _ _ _ _=>rfl
  have r3:∀a b c d:V,rd none [a,b,c,d] 3=some d:=fun _ _ _ _=>rfl
  have r4:∀a b c d:V,rd (some 4) [a,b,c,d] 0=some (.agg [a,b,c,d]):=fun _ _ _ _=>rfl
  have w1:=@wr_add
  simp only [wr] at w1 hK
  simp [vf44,M4.V,r0,r1,r2,r3,r4,splice,w1]
  exact hK
theorem veq4 {neg:Bool}{a b c d:Int}:veqA neg [.int .i64,.int .i64,.int .i64,.int .i64] (.agg [.int .i64 a,.int .i64 b,.int .i64 c,.int .i64 d]) (.agg [.int .i64 a,.int .i64 b,.int .i64 c,.int .i64 d])=some (.bool (!neg)):=by
  simp only [veqA,eq4_t];cases neg<;>rfl
theorem dz4:List.drop 4 (ints (zs 4))=[]:=rfl
theorem lw_PlaitMatrices {H:Hp} {lim:Nat} {u v:ByteArray} {K:V→Hp→Prop} (hc:chkU8 H=true) (hlim:lim≤H.length) (hK:∀X,K (.bool true) (H++X)):VCall tbl lim 7 [.str u,.str v] H K:=by
  refine VCall_fn tbl_at7 rfl ?_
  simp [vf7]
  refine long_t ?_
  by_cases hu:200<u.size
  · simp [hu]
    exact known_t hc hlim fun X=>by simp;exact hK X
  simp [hu]
  refine long_t ?_
  by_cases hw:200<v.size
  · simp [hw]
    exact known_t hc hlim fun X=>by simp;exact hK X
  simp [hw]
  have r4:∀a b c d:V,rd (some 4) [a,b,c,d] 0=some (.agg [a,b,c,d]):=fun _ _ _ _=>rfl
  cases hvu:vld u with
  | false =>
    have hj:joinV u v=.tup [.str noT,.int .i64 1]:=by simp [joinV,hvu]
    refine matrix_t hlim (fun h=>by rw [hvu] at h;cases h) fun _ X => ?_
    simp [splice]
    refine matrix_r (by omega) (fun h=>by rw [hvu] at h;cases h) fun _ => ?_
    simp [splice,r4,eq4_t,dz4,veq4]
    refine matrix_t (by simp;omega) (fun _ Y => ?_) (fun _ Y => ?_)
    all_goals
      simp [splice,M4.V,dz4]
      refine join_t (by simp;omega) fun Z => ?_
      simp [hj]
      exact known_t (chk_app hc) (by simp;omega) fun W=>by simp;exact hK _
  | true =>
    refine matrix_t hlim (fun _ X => ?_) (fun h=>by rw [hvu] at h;cases h)
    simp [splice,M4.V,dz4]
    refine matrix_r (by omega) (fun _ => ?_) (fun h=>by rw [hvu] at h;cases h)
    simp [splice,r4,eq4_t,M4.V,dz4,veq4]
    cases hvv:vld v with
    | false =>
      have hj:joinV u v=.tup [.str noT,.int .i64 1]:=by simp [joinV,hvu,hvv]
      refine matrix_t (by simp;omega) (fun h=>by rw [hvv] at h;cases h) fun _ Y => ?_
      simp [splice]
      refine join_t (by simp;omega) fun Z => ?_
      simp [hj]
      exact known_t (chk_app hc) (by simp;omega) fun W=>by simp;exact hK _
    | true =>
      refine matrix_t (by simp;omega) (fun _ Y => ?_) (fun h=>by rw [hvv] at h;cases h)
      simp [splice,M4.V,dz4]
      refine join_t (by simp;omega) fun Z => ?_
      by_cases hz:u.size+v.size≤60
      · have hj:joinV u v=.tup [.str (u++v),.int .i64 0]:=by simp [joinV,hvu,hvv,ckdV,hz]
        have hw:=vld_app hvu hvv hz
        have hm:=mat_app (u:=u) (v:=v)
        have hd:=mat_det (f:=chT u) u.size
        have hb:=mat_bd60 (f:=chT (u++v)) (n:=(u++v).size) (by rw [size_app];omega)
        simp [hj]
        refine matrix_t (by simp;omega) (fun _ W => ?_) (fun h=>by rw [hw] at h;cases h)
        rw [hm] at hb ⊢
        generalize mat (chT u) u.size=a at hd hb
        generalize mat (chT v) v.size=b at hb
        have w1:=@wr_sub
        simp only [wr] at w1
        have r0:∀a b c d:V,rd none [a,b,c,d] 0=some a:=fun _ _ _ _=>rfl
        have r1:∀a b c d:V,rd none [a,b,c,d] 1=some b:=fun _ _ _ _=>rfl
        have r2:∀a b c d:V,rd none [a,b,c,d] 2=some c:=fun _ _ _ _=>rfl
        have r3:∀a b c d:V,rd none [a,b,c,d] 3=some d:=fun _ _ _ _=>rfl
        have hd1:IntKind.wrap .i64 (a.p*a.s-a.q*a.r)=1:=by
          have:a.p*a.s-a.q*a.r=1:=hd
          rw [this];rfl
        simp [splice,M4.V,dz4,r0,r1,r2,r3,r4,w1,hd1,veq4]
        have bp:IntKind.wrap .i64 (a.p*b.p+a.q*b.r)=(a.mul b).p:=wrap_i64 (by simp only [M4.Bd,M4.mul] at hb;omega) (by simp only [M4.Bd,M4.mul] at hb;omega)
        have bq:IntKind.wrap .i64 (a.p*b.q+a.q*b.s)=(a.mul b).q:=wrap_i64 (by simp only [M4.Bd,M4.mul] at hb;omega) (by simp only [M4.Bd,M4.mul] at hb;omega)
        have br:IntKind.wrap .i64 (a.r*b.p+a.s*b.r)=(a.mul b).r:=wrap_i64 (by simp only [M4.Bd,M4.mul] at hb;omega) (by simp only [M4.Bd,M4.mul] at hb;omega)
        have bs:IntKind.wrap .i64 (a.r*b.q+a.s*b.s)=(a.mul b).s:=wrap_i64 (by simp only [M4.Bd,M4.mul] at hb;omega) (by simp only [M4.Bd,M4.mul] at hb;omega)
        refine times_t (a:=a) (b:=b) ?_
        simp only [wr,bp,bq,br,bs]
        simp [veq4]
        have hc2:=chk_app (X:=X++(Y++(Z++W))) hc
        refine known_t hc2 (by simp) fun W2 => ?_
        simp
        exact hK _
      · have hj:joinV u v=.tup [.str noT,.int .i64 4]:=by simp [joinV,hvu,hvv,ckdV,hz]
        simp [hj]
        exact known_t (chk_app hc) (by simp;omega) fun W=>by simp;exact hK _
end Go.Proofs.YtalejadhccgckaaDoor.Vm
namespace Go.Proofs.YtalejadhccgckaaDoor.Vm
open Go Go.RowKit Go.ChangeShapes
set_option linter.unusedVariables false
set_option linter.unusedSimpArgs false
attribute [-simp] List.getD_eq_getElem?_getD
theorem two_flat {P:Program}{W:World}{n1 n2:String}{d1 d2:DataW Unit}{g1 g2:Nat}{t1 t2:TypeId}{row1 row2:List V}{fl:Nat}(hm:glMap=[(some g2,row2),(some g1,row1)])(hg1:P.globalNamed n1=some g1)(hg2:P.globalNamed n2=some g2)
    (ht1:(P.globals[g1]?).map (·.type)=some t1) (ht2:(P.globals[g2]?).map (·.type)=some t2) (hl1:leaf P fl t1 d1 0=some ((List.range row1.length).zip row1)) (hl2:leaf P fl t2 d2 0=some ((List.range row2.length).zip row2))
    (hp:([(n1,d1),(n2,d2)].all fun x=>x.2.handleName?.isNone)=true) (h:laidMetH P [(n1,d1),(n2,d2)] W):∃ρ,Good ρ glHp W∧GRel ρ:=by
  rw [MakeChecks.laidMetH_plain _ _ _ hp] at h
  obtain ⟨ps,⟨g',t',cs,fuel,p,q,hg',ht',hv,htr,⟨g'',t'',cs2,fuel2,p2,q2,hg'',ht'',hv2,htr2,_,_⟩,_⟩,_⟩:=h
  obtain rfl:=Option.some.inj (hg1.symm.trans hg')
  obtain rfl:=Option.some.inj (ht1.symm.trans ht')
  obtain rfl:=Option.some.inj (hg2.symm.trans hg'')
  obtain rfl:=Option.some.inj (ht2.symm.trans ht'')
  obtain ⟨el1,fz1,a1,a2,a3⟩:=flat_var hg1 hl1 hv htr
  obtain ⟨el2,fz2,b1,b2,b3⟩:=flat_var hg2 hl2 hv2 htr2
  have hlen:glMap.length=2:=by rw [hm];rfl
  have e0:glMap[0]'(by omega)=(some g2,row2):=by simp only [hm,List.getElem_cons_zero]
  have e1:glMap[1]'(by omega)=(some g1,row1):=by simp only [hm,List.getElem_cons_succ,List.getElem_cons_zero]
  have G0:Good (fun _=>none) (glHp.take 0) W:=Good.start
  obtain ⟨ρ1,c1,c2,_,_⟩:=Good.var G0 (fun k _ _ hk=>absurd hk (by omega)) (k:=0) (by omega) b1 (by rw [e0];exact b2) (by rw [e0];exact b3 _) (fun g' e=>by rw [e0] at e;exact (Option.some.inj e).symm)
  obtain ⟨ρ2,x1,x2,_,_⟩:=Good.var c1 c2 (k:=1) (by omega) a1 (by rw [e1];exact a2) (by rw [e1];exact a3 _) (fun g' e=>by rw [e1] at e;exact (Option.some.inj e).symm)
  rw [show (1+1)=glMap.length by omega] at x1 x2
  exact Good.vars x1 x2
end Go.Proofs.YtalejadhccgckaaDoor.Vm
namespace Go.Proofs.YtalejadhccgckaaDoor.Vm
open Go
set_option maxRecDepth 100000
set_option linter.unusedSimpArgs false
set_option linter.unusedVariables false
attribute [-simp] List.getD_eq_getElem?_getD
noncomputable def wit (os:Os):World :=
  { World.doorLaid Tryd.prog 400 os with heap:=(World.doorLaid Tryd.prog 400 os).heap.modify 1 fun
      | .cells _ e f=>.cells (Pinned.utf8FirstZ.map fun (n:Nat)=>Value.int .u8 (n:Int)).toArray e f
      | o=>o }
theorem chk_gl:chkU8 glHp=true:=by kernel_rfl
theorem chk_of {H:Hp}(h:HX glHp H):chkU8 H=true:=by
  have hc:=chk_gl
  simp only [chkU8,Bool.and_eq_true] at hc ⊢
  have key:∀b t,rowIs glHp b t=true→rowIs H b t=true:=by
    intro b t hr
    unfold rowIs at hr ⊢
    split at hr
    case h_2=>cases hr
    rename_i cs own hb
    rw [h.get hb];exact hr
  exact ⟨key _ _ hc.1,key _ _ hc.2⟩
theorem law_PlaitMatrices {H:Hp}{lim:Nat}{u v:ByteArray}{K:V→Hp→Prop}(hH:HX glHp H)(hlim:lim≤H.length)(h1:u.size≤maxLen)(h2:v.size≤maxLen)(hK:∀X,K (.bool true) (H++X)):VCall tbl lim 7 [.str u,.str v] H K:=lw_PlaitMatrices (chk_of hH) hlim hK
end Go.Proofs.YtalejadhccgckaaDoor.Vm
