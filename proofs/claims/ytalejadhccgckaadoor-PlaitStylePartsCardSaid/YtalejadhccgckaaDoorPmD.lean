/- Normal forms of plaits: pure, the program, the reference. -/
import Derived.Test.YtalejadhccgckaaDoorPmB
import Derived.Test.YtalejadhccgckaaDoorPmC
namespace Go.Proofs.YtalejadhccgckaaDoor.Vm
open Go
set_option maxRecDepth 100000
set_option linter.unusedSimpArgs false
set_option linter.unusedVariables false
attribute [-simp] List.getD_eq_getElem?_getD
def isP (c:Nat):Prop:=c=97∨c=98
def fl (c:Nat):Nat:=if c=97 then 98 else 97
theorem fl97:fl 97=98:=rfl
theorem fl98:fl 98=97:=rfl
theorem fl_fl {c:Nat}(h:isP c):fl (fl c)=c:=by rcases h with rfl | rfl<;>rfl
theorem fl_P {c:Nat}:isP (fl c):=by unfold fl isP;split<;>omega
theorem fl_inj {a b:Nat}(ha:isP a)(hb:isP b)(h:fl a=fl b):a=b:=by rw [←fl_fl ha,←fl_fl hb,h]
def allP (R:List Nat):Prop:=∀c∈R,isP c
theorem allP_fl {R:List Nat}:allP (R.map fl):=by
  intro c hc;obtain ⟨d,_,rfl⟩:=List.mem_map.1 hc;exact fl_P
theorem map_fl_fl {R:List Nat}(h:allP R):(R.map fl).map fl=R:=by
  rw [List.map_map]
  have:R.map (fl∘fl)=R.map id:=List.map_congr_left fun c hc=>fl_fl (h c hc)
  rw [this,List.map_id]
def okR:List Nat→Prop
  | c :: o :: d :: r=>¬(c=d∧c≠o)∧okR (o :: d :: r)
  | _=>True
theorem okR_tail {c:Nat}{R:List Nat}(h:okR (c :: R)):okR R:=by
  match R with
  | []=>trivial
  | [_]=>trivial
  | o :: d :: r=>exact h.2
theorem okR_fl {R:List Nat}(hp:allP R)(h:okR R):okR (R.map fl):=by
  induction R with
  | nil=>trivial
  | cons c R ih =>
    match R,h,ih with
    | [],_,_=>trivial
    | [_],_,_=>trivial
    | o :: d :: r,h,ih =>
      have ih:=ih (fun x hx=>hp x (List.mem_cons_of_mem _ hx)) h.2
      refine ⟨fun hh => ?_,ih⟩
      have h1:=fl_inj (hp c (by simp)) (hp d (by simp)) hh.1
      exact h.1 ⟨h1,fun e=>hh.2 (by rw [e])⟩
structure NF where
  k:Int
  R:List Nat
def NF.cross (c:Nat)(x:NF):NF :=
  match x.R with
  | o :: d :: r=>if d=c∧o≠c then ⟨x.k+1,r.map fl⟩ else ⟨x.k,c :: x.R⟩
  | R=>⟨x.k,c :: R⟩
def NF.untw (x:NF):NF:=⟨x.k-1,x.R.map fl⟩
def NF.stp (c:Nat)(x:NF):NF:=if c=97 then x.cross 97 else if c=65 then (x.untw.cross 97).cross 98 else if c=98 then x.cross 98 else (x.untw.cross 98).cross 97
def nf (f:Nat→Nat):Nat→NF
  | 0=>⟨0,[]⟩
  | n+1=>(nf f n).stp (f n)
def NF.Ok (x:NF):Prop:=allP x.R∧okR x.R
theorem NF.cross_ok {c:Nat}(hc:isP c){x:NF}(h:x.Ok):(x.cross c).Ok:=by
  obtain ⟨k,R⟩:=x
  obtain ⟨h1,h2⟩:=h
  unfold NF.cross
  simp only at h1 h2 ⊢
  split
  · rename_i o d r
    have t:okR r:=okR_tail (okR_tail h2)
    have tp:allP r:=fun x hx=>h1 x (by simp [hx])
    split
    · exact ⟨allP_fl,okR_fl tp t⟩
    · rename_i hn
      refine ⟨fun x hx => ?_,⟨fun hh=>hn ⟨hh.1.symm,fun e=>hh.2 e.symm⟩,h2⟩⟩
      rcases List.mem_cons.1 hx with rfl | hx
      · exact hc
      · exact h1 x hx
  · rename_i hno
    refine ⟨fun x hx => ?_,?_⟩
    · rcases List.mem_cons.1 hx with rfl | hx
      · exact hc
      · exact h1 x hx
    · match R with
      | []=>trivial
      | [_]=>trivial
      | o :: d :: r=>exact absurd rfl (hno o d r)
theorem NF.untw_ok {x:NF}(h:x.Ok):x.untw.Ok:=⟨allP_fl,okR_fl h.1 h.2⟩
theorem NF.stp_ok {c:Nat}{x:NF}(h:x.Ok):(x.stp c).Ok:=by
  unfold NF.stp
  repeat' split
  · exact cross_ok (Or.inl rfl) h
  · exact cross_ok (Or.inr rfl) (cross_ok (Or.inl rfl) (untw_ok h))
  · exact cross_ok (Or.inr rfl) h
  · exact cross_ok (Or.inl rfl) (cross_ok (Or.inr rfl) (untw_ok h))
theorem nf_ok {f:Nat→Nat}:∀n,(nf f n).Ok
  | 0=>⟨fun x hx=>absurd hx (by simp [nf]),trivial⟩
  | n+1=>NF.stp_ok (nf_ok n)
theorem NF.cross_len {c:Nat}{x:NF}:(x.cross c).R.length≤x.R.length+1∧(x.k≤(x.cross c).k∧(x.cross c).k≤x.k+1)∧3*(x.cross c).k+(x.cross c).R.length=3*x.k+x.R.length+1:=by
  unfold NF.cross
  split
  · rename_i o d r e
    split<;>simp only [e,List.length_map,List.length_cons]<;>omega
  · simp only [List.length_cons];omega
theorem NF.untw_len {x:NF}:x.untw.R.length=x.R.length∧x.untw.k=x.k-1:=by simp [NF.untw]
theorem nf_cnt {f:Nat→Nat}:∀n:Nat,(∀i,i<n→f i=97∨f i=65∨f i=98∨f i=66)→3*(nf f n).k+(nf f n).R.length=cntL f n
  | 0,_=>rfl
  | n+1,hf=>by
    have ih:=nf_cnt n fun i hi=>hf i (by omega)
    have hf:=hf n (by omega)
    unfold nf cntL NF.stp
    generalize nf f n=x at ih
    have a1:=NF.cross_len (c:=97) (x:=x)
    have a2:=NF.cross_len (c:=98) (x:=x)
    have a3:=NF.cross_len (c:=97) (x:=x.untw)
    have a4:=NF.cross_len (c:=98) (x:=x.untw)
    have a5:=NF.cross_len (c:=98) (x:=x.untw.cross 97)
    have a6:=NF.cross_len (c:=97) (x:=x.untw.cross 98)
    have a7:=NF.untw_len (x:=x)
    rcases hf with e | e | e | e<;>simp [e]<;>omega
theorem nf_bd {f:Nat→Nat}:∀n:Nat,(nf f n).R.length≤2*n∧-(n:Int)≤(nf f n).k∧(nf f n).k≤n
  | 0=>by simp [nf]
  | n+1=>by
    have ih:=nf_bd (f:=f) n
    unfold nf NF.stp
    generalize nf f n=x at ih
    have a1:=NF.cross_len (c:=97) (x:=x)
    have a2:=NF.cross_len (c:=98) (x:=x)
    have a3:=NF.cross_len (c:=97) (x:=x.untw)
    have a4:=NF.cross_len (c:=98) (x:=x.untw)
    have a5:=NF.cross_len (c:=98) (x:=x.untw.cross 97)
    have a6:=NF.cross_len (c:=97) (x:=x.untw.cross 98)
    have a7:=NF.untw_len (x:=x)
    repeat' split
    all_goals omega
def matR:List Nat→M4
  | []=>.one
  | c :: R=>(matR R).step c
def M4.tw (m:M4):M4:=⟨-m.q,m.p,-m.s,m.r⟩
def M4.utw (m:M4):M4:=⟨m.q,-m.p,m.s,-m.r⟩
def M4.tf (m:M4):M4:=⟨m.r,m.s,-m.p,-m.q⟩
def M4.tfk (k:Int)(m:M4):M4:=if k % 4=0 then m else if k % 4=1 then m.tf else if k % 4=2 then m.tf.tf else m.tf.tf.tf
theorem M4.ext' {a b:M4}(h1:a.p=b.p)(h2:a.q=b.q)(h3:a.r=b.r)(h4:a.s=b.s):a=b:=by
  cases a;cases b;simp only at h1 h2 h3 h4;subst h1 h2 h3 h4;rfl
theorem step66' {m:M4}:m.step 66=⟨m.p+m.q,m.q,m.r+m.s,m.s⟩:=rfl
theorem tf_step {c:Nat}{m:M4}:(m.step c).tf=m.tf.step c:=by
  unfold M4.step M4.tf
  repeat' split
  all_goals (apply M4.ext'<;>simp only<;>omega)
theorem tf4 {m:M4}:m.tf.tf.tf.tf=m:=by
  apply M4.ext'<;>simp [M4.tf]
theorem tfk_step {c:Nat}{m:M4}{k:Int}:(m.step c).tfk k=(m.tfk k).step c:=by
  unfold M4.tfk
  repeat' split
  all_goals simp only [tf_step]
theorem tfk_succ {m:M4}{k:Int}:m.tfk (k+1)=(m.tf).tfk k:=by
  unfold M4.tfk
  have h:k % 4=0∨k % 4=1∨k % 4=2∨k % 4=3:=by omega
  rcases h with h | h | h | h
  · rw [if_neg (by omega),if_pos (by omega),if_pos h]
  · rw [if_neg (by omega),if_neg (by omega),if_pos (by omega),if_neg (by omega),if_pos h]
  · rw [if_neg (by omega),if_neg (by omega),if_neg (by omega),if_neg (by omega),if_neg (by omega),if_pos h]
  · rw [if_pos (by omega),if_neg (by omega),if_neg (by omega),if_neg (by omega),tf4]
theorem tfk_zero {m:M4}:m.tfk 0=m:=rfl
theorem tf_fl {R:List Nat}(h:allP R):(matR (R.map fl)).tf=(matR R).tw:=by
  induction R with
  | nil=>rfl
  | cons c R ih =>
    have ih:=ih fun x hx=>h x (List.mem_cons_of_mem _ hx)
    simp only [List.map_cons,matR]
    rw [tf_step,ih]
    generalize matR R=m
    rcases h c (by simp) with rfl | rfl
    · apply M4.ext'<;>simp [M4.step,M4.tw,fl97]<;>omega
    · apply M4.ext'<;>simp [M4.step,M4.tw,fl98]<;>omega
theorem tw_aba {m:M4}{c o:Nat}(hc:isP c)(ho:isP o)(h:o≠c):((m.step c).step o).step c=m.tw:=by
  rcases hc with rfl | rfl<;>rcases ho with rfl | rfl
  · exact absurd rfl h
  · apply M4.ext'<;>simp [M4.step,M4.tw]<;>omega
  · apply M4.ext'<;>simp [M4.step,M4.tw]<;>omega
  · exact absurd rfl h
theorem NF.cross_mat {c:Nat}(hc:isP c){x:NF}(h:allP x.R):(matR (x.cross c).R).tfk (x.cross c).k=((matR x.R).tfk x.k).step c:=by
  obtain ⟨k,R⟩:=x
  unfold NF.cross
  simp only at h ⊢
  split
  · rename_i o d r
    split
    · rename_i hh
      obtain ⟨rfl,h2⟩:=hh
      simp only
      rw [tfk_succ,tf_fl fun x hx=>h x (by simp [hx]),←tfk_step]
      congr 1
      exact (tw_aba hc (h o (by simp)) h2).symm
    · simp only [matR,tfk_step]
  · simp only [matR,tfk_step]
theorem tfk_utw {m:M4}{k:Int}:(m.tfk k).utw=(m.utw).tfk k:=by
  unfold M4.tfk
  repeat' split
  all_goals (apply M4.ext'<;>simp [M4.utw,M4.tf])
theorem NF.untw_mat {x:NF}(h:allP x.R):(matR x.untw.R).tfk x.untw.k=((matR x.R).tfk x.k).utw:=by
  obtain ⟨k,R⟩:=x
  simp only [NF.untw] at h ⊢
  have e:k=k-1+1:=by omega
  rw [e,tfk_succ,show k-1+1-1=k-1 by omega,tfk_utw]
  congr 1
  have h1:=tf_fl (R:=R.map fl) allP_fl
  rw [map_fl_fl h] at h1
  rw [h1]
  apply M4.ext'<;>simp [M4.utw,M4.tw]
theorem utw_A {m:M4}:((m.utw).step 97).step 98=m.step 65:=by
  apply M4.ext'<;>simp [M4.step,M4.utw]<;>omega
theorem utw_B {m:M4}:((m.utw).step 98).step 97=m.step 66:=by
  apply M4.ext'<;>simp [M4.step,M4.utw]<;>omega
theorem NF.stp_mat {c:Nat}(hc:c=97∨c=65∨c=98∨c=66){x:NF}(h:x.Ok):(matR (x.stp c).R).tfk (x.stp c).k=((matR x.R).tfk x.k).step c:=by
  have ho:=NF.untw_ok h
  have h97:=NF.cross_ok (c:=97) (Or.inl rfl) ho
  have h98:=NF.cross_ok (c:=98) (Or.inr rfl) ho
  rcases hc with rfl | rfl | rfl | rfl
  · exact NF.cross_mat (Or.inl rfl) h.1
  · show (matR ((x.untw.cross 97).cross 98).R).tfk ((x.untw.cross 97).cross 98).k=_
    rw [NF.cross_mat (Or.inr rfl) h97.1,NF.cross_mat (Or.inl rfl) ho.1,NF.untw_mat h.1,utw_A]
  · exact NF.cross_mat (Or.inr rfl) h.1
  · show (matR ((x.untw.cross 98).cross 97).R).tfk ((x.untw.cross 98).cross 97).k=_
    rw [NF.cross_mat (Or.inl rfl) h98.1,NF.cross_mat (Or.inr rfl) ho.1,NF.untw_mat h.1,utw_B]
theorem nf_mat {f:Nat→Nat}:∀n,(∀i,i<n→f i=97∨f i=65∨f i=98∨f i=66)→(matR (nf f n).R).tfk (nf f n).k=mat f n
  | 0,_=>rfl
  | n+1,hf=>by
    show (matR ((nf f n).stp (f n)).R).tfk ((nf f n).stp (f n)).k=(mat f n).step (f n)
    rw [NF.stp_mat (hf n (by omega)) (nf_ok n),nf_mat n fun i hi=>hf i (by omega)]
def gE (m:M4):Int:=m.p*m.p+m.r*m.r
def gF (m:M4):Int:=m.p*m.q+m.r*m.s
def gG (m:M4):Int:=m.q*m.q+m.s*m.s
theorem g_tf {m:M4}:gE m.tf=gE m∧gF m.tf=gF m∧gG m.tf=gG m:=by
  simp only [gE,gF,gG,M4.tf,Int.neg_mul,Int.mul_neg,Int.neg_neg];omega
theorem g_tfk {m:M4}{k:Int}:gE (m.tfk k)=gE m∧gF (m.tfk k)=gF m∧gG (m.tfk k)=gG m:=by
  unfold M4.tfk
  repeat' split
  · exact ⟨rfl,rfl,rfl⟩
  · exact g_tf
  · obtain ⟨a,b,c⟩:=g_tf (m:=m);obtain ⟨a',b',c'⟩:=g_tf (m:=m.tf);omega
  · obtain ⟨a,b,c⟩:=g_tf (m:=m);obtain ⟨a',b',c'⟩:=g_tf (m:=m.tf);obtain ⟨a2,b2,c2⟩:=g_tf (m:=m.tf.tf);omega
theorem g_a {m:M4}:gE (m.step 97)=gE m∧gF (m.step 97)=gF m+gE m∧gG (m.step 97)=gG m+2*gF m+gE m:=by
  obtain ⟨p,q,r,s⟩:=m
  have h1:=Int.mul_comm p q
  have h2:=Int.mul_comm r s
  refine ⟨?_,?_,?_⟩<;>simp only [step97,gE,gF,gG,Int.mul_add,Int.add_mul]<;>omega
theorem g_b {m:M4}:gE (m.step 98)=gE m-2*gF m+gG m∧gF (m.step 98)=gF m-gG m∧gG (m.step 98)=gG m:=by
  obtain ⟨p,q,r,s⟩:=m
  have h1:=Int.mul_comm p q
  have h2:=Int.mul_comm r s
  refine ⟨?_,?_,?_⟩<;>simp only [step98,gE,gF,gG,Int.mul_sub,Int.sub_mul]<;>omega
theorem sq_pos {x:Int}(h:x≠0):0<x*x:=by
  rcases Int.lt_or_gt_of_ne h with h | h
  · exact Int.mul_pos_of_neg_of_neg h h
  · exact Int.mul_pos h h
theorem sq_nn {x:Int}:0≤x*x:=by
  by_cases h:x=0
  · subst h;decide
  · exact Int.le_of_lt (sq_pos h)
theorem matR_det:∀R:List Nat,(matR R).p*(matR R).s-(matR R).q*(matR R).r=1
  | []=>rfl
  | c :: R=>by
    have ih:=matR_det R
    simp only [matR]
    generalize matR R=m at ih
    obtain ⟨p,q,r,s⟩:=m
    unfold M4.step
    simp only at ih
    repeat' split
    all_goals simp only [Int.mul_add,Int.add_mul,Int.mul_sub,Int.sub_mul]
    all_goals omega
theorem gE_pos {R:List Nat}:0<gE (matR R):=by
  have h:=matR_det R
  have a:=sq_nn (x:=(matR R).p)
  have b:=sq_nn (x:=(matR R).r)
  unfold gE
  by_cases h1:(matR R).p=0
  · by_cases h2:(matR R).r=0
    · rw [h1,h2] at h;simp at h
    · have:=sq_pos h2;omega
  · have:=sq_pos h1;omega
theorem gG_pos {R:List Nat}:0<gG (matR R):=by
  have h:=matR_det R
  have a:=sq_nn (x:=(matR R).q)
  have b:=sq_nn (x:=(matR R).s)
  unfold gG
  by_cases h1:(matR R).q=0
  · by_cases h2:(matR R).s=0
    · rw [h1,h2] at h;simp at h
    · have:=sq_pos h2;omega
  · have:=sq_pos h1;omega
def Tell (R:List Nat)(e f g:Int):Prop:=(match R with
  | []=>f=0
  | 97 :: R=>0<f∧((R=[]∨∃r,R=97 :: r)→f<g)
  | _ :: R=>f<0∧((R=[]∨∃r,R=98 :: r)→0<e+f))
theorem tell {R : List Nat} (hp:allP R) (h:okR R):Tell R (gE (matR R)) (gF (matR R)) (gG (matR R)):=by
  induction R with
  | nil=>simp only [matR];exact (by decide:gF M4.one=0)
  | cons c R ih =>
    have ih:=ih (fun x hx=>hp x (List.mem_cons_of_mem _ hx)) (okR_tail h)
    have pc:=hp c (by simp)
    simp only [matR]
    obtain ⟨a1,a2,a3⟩:=g_a (m:=matR R)
    obtain ⟨b1,b2,b3⟩:=g_b (m:=matR R)
    have pe:=gE_pos (R:=R)
    have pg:=gG_pos (R:=R)
    have hR : R = []∨(∃r,R=97 :: r)∨(∃r,R=98 :: r):=by
      match R with
      | []=>exact Or.inl rfl
      | d :: r => rcases hp d (by simp) with rfl | rfl
                  · exact Or.inr (Or.inl ⟨r,rfl⟩)
                  · exact Or.inr (Or.inr ⟨r,rfl⟩)
    rcases pc with rfl | rfl
    · rw [a1,a2,a3]
      rcases hR with rfl | ⟨r,rfl⟩ | ⟨r,rfl⟩
      · simp only [Tell] at ih ⊢
        exact ⟨by omega,fun _=>by omega⟩
      · obtain ⟨i3,i4⟩:=ih
        exact ⟨by omega,fun _=>by omega⟩
      · obtain ⟨i3,i4⟩:=ih
        have hr:r=[]∨∃t,r=98 :: t:=by
          match r with
          | []=>exact Or.inl rfl
          | d :: t =>
            rcases hp d (by simp) with rfl | rfl
            · exact absurd ⟨rfl,by decide⟩ h.1
            · exact Or.inr ⟨t,rfl⟩
        have:=i4 hr
        refine ⟨by omega,fun hh => ?_⟩
        rcases hh with hh | ⟨t,hh⟩<;>cases hh
    · rw [b1,b2,b3]
      rcases hR with rfl | ⟨r,rfl⟩ | ⟨r,rfl⟩
      · simp only [Tell] at ih ⊢
        exact ⟨by omega,fun _=>by omega⟩
      · obtain ⟨i3,i4⟩:=ih
        have hr:r=[]∨∃t,r=97 :: t:=by
          match r with
          | []=>exact Or.inl rfl
          | d :: t =>
            rcases hp d (by simp) with rfl | rfl
            · exact Or.inr ⟨t,rfl⟩
            · exact absurd ⟨rfl,by decide⟩ h.1
        have:=i4 hr
        refine ⟨by omega,fun hh => ?_⟩
        rcases hh with hh | ⟨t,hh⟩<;>cases hh
      · obtain ⟨i3,i4⟩:=ih
        exact ⟨by omega,fun _=>by omega⟩
theorem uniq {R:List Nat}:∀{S:List Nat},allP R→okR R→allP S→okR S→gE (matR R)=gE (matR S)→gF (matR R)=gF (matR S)→gG (matR R)=gG (matR S)→R=S:=by
  induction R with
  | nil =>
    intro S _ _ hp hk _ hf _
    have t:=tell hp hk
    match S with
    | []=>rfl
    | c :: S =>
      have z:gF (matR [])=0:=(by decide:gF M4.one=0)
      rcases hp c (by simp) with rfl | rfl
      · have:=t.1;omega
      · have:=t.1;omega
  | cons c R ih =>
    intro S hp hk hp' hk' he hf hg
    have t:=tell hp hk
    have t':=tell hp' hk'
    match S with
    | [] =>
      have z:gF (matR [])=0:=(by decide:gF M4.one=0)
      rcases hp c (by simp) with rfl | rfl
      · have:=t.1;omega
      · have:=t.1;omega
    | d :: S =>
      have q:=ih (S:=S) (fun x hx=>hp x (List.mem_cons_of_mem _ hx)) (okR_tail hk) (fun x hx=>hp' x (List.mem_cons_of_mem _ hx)) (okR_tail hk')
      obtain ⟨a1,a2,a3⟩:=g_a (m:=matR R)
      obtain ⟨b1,b2,b3⟩:=g_b (m:=matR R)
      obtain ⟨c1,c2,c3⟩:=g_a (m:=matR S)
      obtain ⟨d1,d2,d3⟩:=g_b (m:=matR S)
      rcases hp c (by simp) with rfl | rfl<;>rcases hp' d (by simp) with rfl | rfl
      · simp only [matR] at he hf hg
        rw [q (by omega) (by omega) (by omega)]
      · have:=t.1;have:=t'.1;omega
      · have:=t.1;have:=t'.1;omega
      · simp only [matR] at he hf hg
        rw [q (by omega) (by omega) (by omega)]
theorem nf_iff {f g:Nat→Nat}{n m:Nat}(hf:∀i,i<n→f i=97∨f i=65∨f i=98∨f i=66)(hg:∀i,i<m→g i=97∨g i=65∨g i=98∨g i=66):nf f n=nf g m↔mat f n=mat g m∧cntL f n=cntL g m:=by
  have m1:=nf_mat n hf
  have m2:=nf_mat m hg
  have c1:=nf_cnt n hf
  have c2:=nf_cnt m hg
  obtain ⟨p1,k1⟩:=nf_ok (f:=f) n
  obtain ⟨p2,k2⟩:=nf_ok (f:=g) m
  constructor
  · intro h
    rw [←m1,←m2,←c1,←c2,h];exact ⟨rfl,rfl⟩
  · rintro ⟨h1,h2⟩
    rw [←m1,←m2] at h1
    obtain ⟨e1,e2,e3⟩:=g_tfk (m:=matR (nf f n).R) (k:=(nf f n).k)
    obtain ⟨f1,f2,f3⟩:=g_tfk (m:=matR (nf g m).R) (k:=(nf g m).k)
    rw [h1] at e1 e2 e3
    have hR:=uniq p1 k1 p2 k2 (by omega) (by omega) (by omega)
    generalize nf f n=x at *
    generalize nf g m=y at *
    obtain ⟨k,R⟩:=x
    obtain ⟨k',R'⟩:=y
    simp only at hR c1 c2
    subst hR
    congr 1
    omega
def crs (l:List Nat)(x:NF):NF:=l.foldl (fun y c=>y.cross c) x
theorem crs_cons {c:Nat}{l:List Nat}{x:NF}:crs (c :: l) x=crs l (x.cross c):=rfl
theorem cross_tw {k:Int}{c o:Nat}{r:List Nat}(h:o≠c):NF.cross c ⟨k,o :: c :: r⟩=⟨k+1,r.map fl⟩:=by
  simp [NF.cross,h]
theorem cross_no {k:Int}{c:Nat}{R:List Nat}(h:okR (c :: R)):NF.cross c ⟨k,R⟩=⟨k,c :: R⟩:=by
  unfold NF.cross
  simp only
  split
  · rename_i o d r
    rw [if_neg]
    rintro ⟨h1,h2⟩
    exact h.1 ⟨h1.symm,fun e=>h2 e.symm⟩
  · rfl
theorem cross_or {c:Nat}{x:NF}(h:okR x.R):okR (c :: x.R)∨∃o r,x.R=o :: c :: r∧o≠c:=by
  match hx:x.R with
  | []=>exact Or.inl trivial
  | [_]=>exact Or.inl trivial
  | o :: d :: r =>
    by_cases e:c=d∧c≠o
    · obtain ⟨rfl,e⟩:=e
      exact Or.inr ⟨o,r,rfl,fun e'=>e e'.symm⟩
    · rw [hx] at h
      exact Or.inl ⟨e,h⟩
theorem crs_or:∀{l:List Nat} {x:NF},(∀c∈l,isP c)→x.Ok→(okR (l.reverse++x.R)∧crs l x=⟨x.k,l.reverse++x.R⟩)∨∃c l2 o r,o≠c∧l2.length<l.length∧isP c∧isP o∧allP r∧okR (o :: c :: r)∧(∀d∈l2,isP d)∧l.reverse++x.R=l2.reverse++c :: o :: c :: r∧crs l x=crs l2 ⟨x.k+1,r.map fl⟩
  | [],x,_,h=>Or.inl ⟨h.2,rfl⟩
  | c :: l,x,hl,h=>by
    have hc:=hl c (by simp)
    have hl':∀d∈l,isP d:=fun d hd=>hl d (by simp [hd])
    rcases cross_or (c:=c) h.2 with h1 | ⟨o,r,h1,h2⟩
    · have e:x.cross c=⟨x.k,c :: x.R⟩:=cross_no h1
      rcases crs_or (l:=l) (x:=⟨x.k,c :: x.R⟩) hl' ⟨fun d hd=>by
          rcases List.mem_cons.1 hd with rfl | hd
          · exact hc
          · exact h.1 d hd,h1⟩ with h3 | ⟨c',l2,o,r,a1,a2,a3,a4,a5,a6,a7,a8,a9⟩
      · left
        rw [crs_cons,e]
        simpa using h3
      · right
        refine ⟨c',l2,o,r,a1,by simp;omega,a3,a4,a5,a6,a7,by simpa using a8,?_⟩
        rw [crs_cons,e];exact a9
    · right
      have e:x.cross c=⟨x.k+1,r.map fl⟩:=by
        have:=cross_tw (k:=x.k) (r:=r) h2
        rw [←h1] at this;exact this
      refine ⟨c,l,o,r,h2,by simp,hc,h.1 o (by rw [h1];simp),fun d hd=>h.1 d (by rw [h1];simp [hd]),by rw [←h1];exact h.2,hl',by simp [h1],?_⟩
      rw [crs_cons,e]
theorem crs_ok:∀{l:List Nat} {x:NF},(∀c∈l,isP c)→x.Ok→(crs l x).Ok
  | [],_,_,h=>h
  | c :: l,x,hl,h=>crs_ok (l:=l) (fun d hd=>hl d (by simp [hd])) (NF.cross_ok (hl c (by simp)) h)
theorem okR_at:∀{R:List Nat},okR R→∀j,j+2<R.length→¬(R.getD j 0=R.getD (j+2) 0∧R.getD j 0≠R.getD (j+1) 0)
  | c :: o :: d :: r,h,0,_=>h.1
  | c :: o :: d :: r,h,j+1,hj=>by
    have:=okR_at (R:=o :: d :: r) h.2 j (by simp at hj ⊢;omega)
    simp only [List.getD_cons_succ] at this ⊢
    exact this
  | [],_,j,hj=>by simp only [List.length_nil] at hj;omega
  | [_],_,j,hj=>by simp only [List.length_cons,List.length_nil] at hj;omega
  | [_,_],_,j,hj=>by simp only [List.length_cons,List.length_nil] at hj;omega
end Go.Proofs.YtalejadhccgckaaDoor.Vm
namespace Go.Proofs.YtalejadhccgckaaDoor.Vm
open Go
set_option maxRecDepth 100000
set_option linter.unusedSimpArgs false
set_option linter.unusedVariables false
attribute [-simp] List.getD_eq_getElem?_getD
def tx (l:List Nat):ByteArray:=⟨(l.map fun n=>n.toUInt8).toArray⟩
theorem tx_size {l:List Nat}:(tx l).size=l.length:=by
  show ((l.map _).toArray).size=l.length
  simp
theorem chT_tx {l:List Nat}{i:Nat}(h:i<l.length)(hb:l.getD i 0<256):chT (tx l) i=l.getD i 0:=by
  have e:l.getD i 0=l[i]:=by rw [List.getD_eq_getElem?_getD,List.getElem?_eq_getElem h];rfl
  rw [e] at hb ⊢
  simp [chT,tx,Array.getD_eq_getD_getElem?,List.getElem?_eq_getElem h]
  omega
theorem tx_app {l m:List Nat}:tx l++tx m=tx (l++m):=by
  have h:(tx l++tx m).data=(tx (l++m)).data:=by simp [tx]
  generalize tx l++tx m=a at h
  generalize tx (l++m)=b at h
  cases a;cases b;simp at h;subst h;rfl
theorem tx_cut {l:List Nat}{a b:Nat}:(tx l).extract a b=tx ((l.take b).drop a):=by
  have h:((tx l).extract a b).data=(tx ((l.take b).drop a)).data:=by
    rw [ByteArray.data_extract]
    apply Array.ext'
    simp [tx,List.drop_take,List.map_drop,List.map_take]
  generalize (tx l).extract a b=x at h
  generalize tx ((l.take b).drop a)=y at h
  cases x;cases y;simp at h;subst h;rfl
theorem tx_drop {l:List Nat}{a:Nat}:(tx l).extract a l.length=tx (l.drop a):=by
  rw [tx_cut,List.take_of_length_le (Nat.le_refl _)]
theorem tx_mp {l:List Nat}(h:allP l):mp neiF (tx l)=tx (l.map fl):=by
  have e:(mp neiF (tx l)).data=(tx (l.map fl)).data:=by
    apply Array.ext'
    simp only [mp,tx,List.map_map]
    refine List.map_congr_left fun c hc => ?_
    rcases h c hc with rfl | rfl<;>decide
  generalize mp neiF (tx l)=a at e
  generalize tx (l.map fl)=b at e
  cases a;cases b;simp at e;subst e;rfl
theorem tx_inj {l m:List Nat}(hl:allP l)(hm:allP m)(h:tx l=tx m):l=m:=by
  have h1:=congrArg ByteArray.size h
  rw [tx_size,tx_size] at h1
  apply List.ext_getElem h1
  intro i h2 h3
  have h4:=congrArg (fun s=>chT s i) h
  have e:∀{l:List Nat} {i:Nat} (hi:i<l.length),l.getD i 0=l[i]:=fun hi=>by rw [List.getD_eq_getElem?_getD,List.getElem?_eq_getElem hi];rfl
  have b1:=hl _ (List.getElem_mem h2)
  have b2:=hm _ (List.getElem_mem h3)
  replace h4:chT (tx l) i=chT (tx m) i:=h4
  rw [chT_tx h2 (by rw [e h2];rcases b1 with e | e<;>omega),chT_tx h3 (by rw [e h3];rcases b2 with e | e<;>omega),e h2,e h3] at h4
  exact h4
def tR (R:List Nat):ByteArray:=tx R.reverse
theorem tR_size {R:List Nat}:(tR R).size=R.length:=by rw [tR,tx_size,List.length_reverse]
theorem tR_push {c:Nat}{R:List Nat}:tR R++tx [c]=tR (c :: R):=by
  rw [tR,tx_app,tR,List.reverse_cons]
theorem tR_pre {P R:List Nat}:(tR (P++R)).extract 0 R.length=tR R:=by
  have h:R.reverse.length=R.length:=List.length_reverse
  rw [tR,tx_cut,List.reverse_append,List.drop_zero,←h,List.take_left' rfl];rfl
theorem tR_suf {P R:List Nat}:(tR (P++R)).extract R.length (P++R).length=tx P.reverse:=by
  have h:R.reverse.length=R.length:=List.length_reverse
  have h2:(P++R).reverse.length=(P++R).length:=List.length_reverse
  rw [tR,←h2,tx_drop,List.reverse_append,←h,List.drop_left' rfl]
theorem tR_mp {R:List Nat}(h:allP R):mp neiF (tR R)=tR (R.map fl):=by
  rw [tR,tx_mp fun c hc=>h c (List.mem_reverse.1 hc),tR,List.map_reverse]
theorem tR_at {R:List Nat}(h:allP R){j:Nat}(hj:j<R.length):chT (tR R) j=R.getD (R.length-1-j) 0:=by
  have e:R.reverse.getD j 0=R.getD (R.length-1-j) 0:=by
    rw [List.getD_eq_getElem?_getD,List.getD_eq_getElem?_getD,List.getElem?_reverse hj]
  have hb:R.getD (R.length-1-j) 0<256:=by
    rw [List.getD_eq_getElem?_getD,List.getElem?_eq_getElem (by omega)]
    have:=h _ (List.getElem_mem (l:=R) (n:=R.length-1-j) (by omega))
    simp only [Option.getD_some]
    rcases this with e | e<;>omega
  rw [tR,chT_tx (by rw [List.length_reverse];exact hj) (by rw [e];exact hb),e]
theorem tR_inj {R S:List Nat}(hR:allP R)(hS:allP S)(h:tR R=tR S):R=S:=by
  have:=tx_inj (fun c hc=>hR c (List.mem_reverse.1 hc)) (fun c hc=>hS c (List.mem_reverse.1 hc)) h
  rw [←List.reverse_reverse R,this,List.reverse_reverse]
end Go.Proofs.YtalejadhccgckaaDoor.Vm
namespace Go.Proofs.YtalejadhccgckaaDoor.Vm
open Go
set_option maxRecDepth 100000
set_option linter.unusedSimpArgs false
set_option linter.unusedVariables false
attribute [-simp] List.getD_eq_getElem?_getD
theorem ltr_vld {s:ByteArray}(h:vld s=true):ltr s:=fun i hi=>letT h hi
theorem isP_L {c:Nat}(h:isP c):isL c=true:=by rcases h with rfl | rfl<;>rfl
theorem getD_P {R:List Nat}(h:allP R){j:Nat}(hj:j<R.length):isP (R.getD j 0):=by
  rw [List.getD_eq_getElem?_getD,List.getElem?_eq_getElem hj]
  exact h _ (List.getElem_mem hj)
theorem ltr_tR {R:List Nat}(h:allP R):ltr (tR R):=by
  intro i hi
  rw [tR_size] at hi
  rw [tR_at h hi]
  exact isP_L (getD_P h (by omega))
theorem flipL_t {H:Hp}{lim:Nat}{s:ByteArray}{K:V→Hp→Prop}(hc:chkU8 H=true)(hb:s.size≤100000)(hv:ltr s)(hK:K (.str (mp neiF s)) H):VCall tbl lim 66 [.str s] H K:=by
  refine VCall_fn tbl_at66 rfl ?_
  simp [vf66]
  have e:(⟨(Lib.mapD neiF s.data.toList).toArray⟩:ByteArray)=mp neiF s:=by
    rw [mapD_let (fun n h=>⟨(neiF_let h).1,(neiF_let h).2.1⟩) _ (ltr_all hv)];rfl
  refine VCall_prim (g:=pMap) (bs:=[]) tbl_at86 rfl rfl (v:=.str (mp neiF s)) ?_ ?_
  · simp [pMap,flatP,hc,flatV,gMap,flatT,show s.size<35184372088832 by omega,e]
  · simp;exact hK
theorem flipR_t {H:Hp}{lim:Nat}{R:List Nat}{K:V→Hp→Prop}(hc:chkU8 H=true)(hb:R.length≤100000)(hv:allP R)(hK:K (.str (tR (R.map fl))) H):VCall tbl lim 66 [.str (tR R)] H K:=by
  refine flipL_t hc (by rw [tR_size];exact hb) (ltr_tR hv) ?_
  rw [tR_mp hv];exact hK
theorem veq_tx {l m:List Nat} (hl:allP l) (hm:allP m):vbin .eql (.str (tx l)) (.str (tx m))=some (.bool (decide (l=m))):=by
  by_cases e:l=m
  · subst e;simp [vbin]
  · have:((tx l).toList==(tx m).toList)=false:=by
      rw [Lib.toList_data,Lib.toList_data]
      have hne:(tx l).data.toList≠(tx m).data.toList:=fun h=>e (tx_inj hl hm (by
        generalize tx l=a at h
        generalize tx m=b at h
        obtain ⟨⟨a⟩⟩:=a
        obtain ⟨⟨b⟩⟩:=b
        simp at h;subst h;rfl))
      simpa using hne
    simp only [vbin,this,e,decide_false]
def sufB (c o:Nat):List Nat→Bool
  | x :: y :: z :: _=>decide (x=c)&&decide (y=o)&&decide (z=c)
  | _=>false
theorem lit3 {c o:Nat}(hc:isP c)(ho:isP o):allP [c,o,c]:=by
  intro x hx
  simp at hx
  rcases hx with rfl | rfl | rfl<;>assumption
theorem suffix0_t {H:Hp}{lim:Nat}{R:List Nat}{c o:Nat}{K:V→Hp→Prop}(hb:R.length≤100000)(hv:allP R)(hc:isP c)(ho:isP o)(hK:K (.bool (sufB c o R)) H):VCall tbl lim 106 [.str (tR R),.str (tx [c,o,c])] H K:=by
  refine VCall_fn tbl_at106 rfl ?_
  have s3:(tx [c,o,c]).size=3:=tx_size
  have hl:=tR_size (R:=R)
  match R,hl,hb,hv,hK with
  | [],hl,_,_,hK =>
    generalize tx [c,o,c]=t at s3
    simp [vf106,vlenT_str,hl,s3];exact hK
  | [_],hl,_,_,hK =>
    generalize tx [c,o,c]=t at s3
    simp [vf106,vlenT_str,hl,s3];exact hK
  | [_,_],hl,_,_,hK =>
    generalize tx [c,o,c]=t at s3
    simp [vf106,vlenT_str,hl,s3];exact hK
  | x :: y :: z :: r,hl,hb,hv,hK =>
    replace hb:r.length+3≤100000:=hb
    have hx:=hv x (by simp)
    have hy:=hv y (by simp)
    have hz:=hv z (by simp)
    have e:vslT (.str (tR (x :: y :: z :: r))) (some (.int .i64 (r.length:Int))) none=some (.str (tx [z,y,x])):=by
      have h:=tR_suf (P:=[x,y,z]) (R:=r)
      have hz:(tR (x :: y :: z :: r)).size=r.length+3:=by rw [hl];rfl
      simp only [vslT,vbounds,vint,hz]
      rw [if_pos (by omega),if_pos (by omega)]
      simp only [Int.toNat_natCast]
      have h2:(tR (x :: y :: z :: r)).extract r.length (r.length+3)=tx [z,y,x]:=h
      first | rw [h2] | simp [h2]
    have q:=veq_tx (l:=[z,y,x]) (m:=[c,o,c]) (by intro w hw;simp at hw;rcases hw with rfl | rfl | rfl<;>assumption) (lit3 hc ho)
    have hl2:(tR (x :: y :: z :: r)).size=r.length+3:=by rw [hl];rfl
    have hg:((3:Int)≤(r.length:Int)+3)=True:=eq_true (by omega)
    have q2:(decide ([z,y,x]=[c,o,c]))=sufB c o (x :: y :: z :: r):=by
      simp only [sufB,List.cons.injEq,and_true]
      by_cases h1:x=c<;>by_cases h2:y=o<;>by_cases h3:z=c<;>simp [h1,h2,h3]
    rw [q2] at q
    generalize tx [c,o,c]=t at s3 q
    generalize sufB c o (x :: y :: z :: r)=bb at q hK
    generalize tR (x :: y :: z :: r)=T at hl2 e
    simp (disch:=omega) [vf106,vlenT_str,hl2,s3,hg,wrap_i64,e,q]
    exact hK
theorem suffix_t {H:Hp}{lim:Nat}{R:List Nat}{c o:Nat}{K:V→Hp→Prop}(hb:R.length≤100000)(hv:allP R)(hc:isP c)(ho:isP o)(hK:K (.bool (sufB c o R)) H):VCall tbl lim 93 [.str (tR R),.str (tx [c,o,c])] H K:=by
  refine VCall_fn tbl_at93 rfl ?_
  simp [vf93]
  refine suffix0_t hb hv hc ho ?_
  simp;exact hK
def NF.V (x:NF):V:=.agg [.int .i64 x.k,.str (tR x.R)]
theorem cross_sufs {c o:Nat} (hc:isP c) (ho:isP o) (hne:o≠c) {x:NF} (hx:allP x.R):(x.cross c)=if sufB c o (c :: x.R) then ⟨x.k+1,(x.R.drop 2).map fl⟩ else ⟨x.k,c :: x.R⟩:=by
  obtain ⟨k,R⟩:=x
  unfold NF.cross
  match R,hx with
  | [],_=>simp [sufB]
  | [_],_=>simp [sufB]
  | p :: q :: r,hx =>
    have hp:=hx p (by simp)
    have hq:=hx q (by simp)
    simp only [sufB,decide_true,Bool.true_and,List.drop_succ_cons,List.drop_zero]
    by_cases h:q=c∧p≠c
    · rw [if_pos h,if_pos]
      have:p=o:=by
        rcases hc with rfl | rfl<;>rcases ho with rfl | rfl<;>rcases hp with rfl | rfl<;>simp_all
      simp [this,h.1]
    · rw [if_neg h,if_neg]
      intro h2
      simp at h2
      exact h ⟨h2.2,fun e=>hne (by rw [←h2.1,e])⟩
theorem sufB_other {c o:Nat}(hne:o≠c){R:List Nat}:sufB o c (c :: R)=false:=by
  match R with
  | []=>rfl
  | [_]=>rfl
  | _ :: _ :: _=>simp [sufB];intro e;exact absurd e.symm hne
theorem rd2a {a b:V}:rd none [a,b] 0=some a:=rfl
theorem rd2b {a b:V}:rd none [a,b] 1=some b:=rfl
theorem rd2w {a b:V}:rd (some 2) [a,b] 0=some (.agg [a,b]):=rfl
theorem crossF_t {H:Hp} {lim:Nat} {x:NF} {c:Nat} {K:V→Hp→Prop} (hk:chkU8 H=true) (hb:x.R.length≤1000) (hkb : -1000≤x.k∧x.k≤1000) (hv:allP x.R) (hc:isP c) (hK:K (x.cross c).V H):VCall tbl lim 77 [x.V,.str (tx [c])] H K:=by
  refine VCall_fn tbl_at77 rfl ?_
  have e1:tx [97,98,97]=⟨[97,98,97].toArray⟩:=rfl
  have e2:tx [98,97,98]=⟨[98,97,98].toArray⟩:=rfl
  have hv2:allP (c :: x.R):=fun y hy=>by
    rcases List.mem_cons.1 hy with rfl | hy
    · exact hc
    · exact hv y hy
  have ha:=vadd_str (a:=tR x.R) (b:=tx [c]) (by rw [tR_size,tx_size];simp;omega)
  rw [tR_push] at ha
  simp [vf77,NF.V,splice,rd2a,rd2b,ha]
  rw [←e1,←e2]
  refine suffix_t (by simp;omega) hv2 (Or.inl rfl) (Or.inr rfl) ?_
  have l3:(tR (c :: x.R)).size=x.R.length+1:=tR_size
  have hc2:=hc
  rcases hc with rfl | rfl
  · have e:=cross_sufs (c:=97) (o:=98) (Or.inl rfl) (Or.inr rfl) (by decide) hv
    cases hs:sufB 97 98 (97 :: x.R) with
    | true =>
      rw [hs] at e
      simp only [if_true] at e
      rw [e] at hK
      obtain ⟨p,q,r,hr⟩:∃p q r,x.R=p :: q :: r:=by
        match hR:x.R,hs with
        | p :: q :: r,_=>exact ⟨p,q,r,rfl⟩
        | [],h=>cases h
        | [_],h=>cases h
      rw [hr] at l3 hK hb hv
      simp only [List.length_cons,List.drop_succ_cons,List.drop_zero] at l3 hK hb
      have hcut:vslT (.str (tR (97 :: x.R))) none (some (.int .i64 (r.length:Int)))=some (.str (tR r)):=by
        have h:=tR_pre (P:=[97,p,q]) (R:=r)
        rw [hr]
        simp only [vslT,vbounds,vint,l3]
        rw [if_pos (by omega),if_pos (by omega)]
        simp only [Int.toNat_natCast,Int.toNat_zero]
        have h2:(tR (97 :: p :: q :: r)).extract 0 r.length=tR r:=h
        first | rw [h2] | simp [h2]
      have l4:(tR (97 :: x.R)).size=r.length+3:=by rw [hr,l3]
      have hvr:allP r:=fun y hy=>hv y (by simp [hy])
      generalize tR (97 :: x.R)=T at hcut l4
      simp (disch:=omega) [rd2a,rd2b,rd2w,splice,vlenT_str,l4,hcut,wrap_i64]
      refine flipR_t hk (by omega) hvr ?_
      simp (disch:=omega) [rd2a,rd2b,rd2w,splice,wrap_i64]
      exact hK
    | false =>
      rw [hs] at e
      rw [e] at hK
      have n2:sufB 98 97 (97 :: x.R)=false:=sufB_other (by decide)
      simp [rd2a,rd2b,rd2w,splice]
      refine suffix_t (by simp;omega) hv2 (Or.inr rfl) (Or.inl rfl) ?_
      simp [n2,rd2a,rd2b,rd2w,splice]
      exact hK
  · have e:=cross_sufs (c:=98) (o:=97) (Or.inr rfl) (Or.inl rfl) (by decide) hv
    have n1:sufB 97 98 (98 :: x.R)=false:=sufB_other (by decide)
    simp [n1,rd2b]
    refine suffix_t (by simp;omega) hv2 (Or.inr rfl) (Or.inl rfl) ?_
    cases hs:sufB 98 97 (98 :: x.R) with
    | true =>
      rw [hs] at e
      simp only [if_true] at e
      rw [e] at hK
      obtain ⟨p,q,r,hr⟩:∃p q r,x.R=p :: q :: r:=by
        match hR:x.R,hs with
        | p :: q :: r,_=>exact ⟨p,q,r,rfl⟩
        | [],h=>cases h
        | [_],h=>cases h
      rw [hr] at l3 hK hb hv
      simp only [List.length_cons,List.drop_succ_cons,List.drop_zero] at l3 hK hb
      have hcut:vslT (.str (tR (98 :: x.R))) none (some (.int .i64 (r.length:Int)))=some (.str (tR r)):=by
        have h:=tR_pre (P:=[98,p,q]) (R:=r)
        rw [hr]
        simp only [vslT,vbounds,vint,l3]
        rw [if_pos (by omega),if_pos (by omega)]
        simp only [Int.toNat_natCast,Int.toNat_zero]
        have h2:(tR (98 :: p :: q :: r)).extract 0 r.length=tR r:=h
        first | rw [h2] | simp [h2]
      have l4:(tR (98 :: x.R)).size=r.length+3:=by rw [hr,l3]
      have hvr:allP r:=fun y hy=>hv y (by simp [hy])
      generalize tR (98 :: x.R)=T at hcut l4
      simp (disch:=omega) [rd2a,rd2b,rd2w,splice,vlenT_str,l4,hcut,wrap_i64]
      refine flipR_t hk (by omega) hvr ?_
      simp (disch:=omega) [rd2a,rd2b,rd2w,splice,wrap_i64]
      exact hK
    | false =>
      rw [hs] at e
      rw [e] at hK
      simp [rd2a,rd2b,rd2w,splice]
      exact hK
theorem untw_t {H:Hp}{lim:Nat}{x:NF}{K:V→Hp→Prop}(hk:chkU8 H=true)(hb:x.R.length≤1000)(hkb : -1000≤x.k∧x.k≤1000)(hv:allP x.R)(hK:K x.untw.V H):VCall tbl lim 78 [x.V] H K:=by
  refine VCall_fn tbl_at78 rfl ?_
  simp (disch:=omega) [vf78,NF.V,splice,rd2a,rd2b,wrap_i64]
  refine flipR_t hk (by omega) hv ?_
  simp [rd2a,rd2b,rd2w,splice]
  exact hK
theorem normal_t {H:Hp}{lim:Nat}{s:ByteArray}{K:V→Hp→Prop}(hk:chkU8 H=true)(hv:vld s=true)(hlim:lim≤H.length)(hK:∀X,K (nf (chT s) s.size).V (H++X)):VCall tbl lim 57 [.str s] H K:=by
  refine VCall_fn tbl_at57 rfl ?_
  have hb:=vld_len hv
  simp [vf57,splice]
  refine wLoop_up s.size (fun i fr L H'=>(fr 0=.str s∧fr 2=.lp 0 0∧fr 3=.lp 1 0∧fr 7=.it H.length)∧L=[[.int .i64 0,.str noT],[.int .i64 (nf (chT s) i).k,.str (tR (nf (chT s) i).R)]]∧H'=H++[.sit s i]∧i≤s.size) ⟨by simp,rfl,rfl,by omega⟩ ?_
  rintro i hi fr L H' ⟨⟨f0,f2,f3,f7⟩,rfl,rfl,hle⟩
  by_cases hp:i<s.size
  · have hn:=vnext_some (H:=H) (lim:=lim) hlim hp
    have hl:=vld_at hv hp
    have hd:Utf8.decode s i=(chT s i,1):=dec_lt (by omega)
    rw [hd] at hn
    simp only at hn
    have hbd:=nf_bd (f:=chT s) i
    obtain ⟨o1,o2⟩:=nf_ok (f:=chT s) i
    have hs1:nf (chT s) (i+1)=(nf (chT s) i).stp (chT s i):=rfl
    rw [hs1]
    have hc2:chkU8 (H++[.sit s (i+1)])=true:=chk_app hk
    generalize nf (chT s) i=x at hbd o1 o2
    have ho:=NF.untw_ok (x:=x) ⟨o1,o2⟩
    have h97:=NF.cross_ok (c:=97) (Or.inl rfl) ho
    have h98:=NF.cross_ok (c:=98) (Or.inr rfl) ho
    have ul:=NF.untw_len (x:=x)
    have c97:=NF.cross_len (c:=97) (x:=x.untw)
    have c98:=NF.cross_len (c:=98) (x:=x.untw)
    have l97:tx [97]=⟨[97].toArray⟩:=rfl
    have l98:tx [98]=⟨[98].toArray⟩:=rfl
    have hV:x.V=.agg [.int .i64 x.k,.str (tR x.R)]:=rfl
    rcases hl with e | e | e | e<;>rw [e] at hn ⊢
    · simp [f0,f2,f3,f7,hn,rd2w]
      rw [←hV,←l97]
      refine crossF_t hc2 (by omega) (by omega) o1 (Or.inl rfl) ?_
      simp [f0,f2,f3,f7,NF.V,NF.stp,splice,hp]
      exact hp
    · simp [f0,f2,f3,f7,hn,rd2w]
      rw [←hV,←l97,←l98]
      refine untw_t hc2 (by omega) (by omega) o1 ?_
      simp
      refine crossF_t hc2 (by omega) (by omega) ho.1 (Or.inl rfl) ?_
      simp
      refine crossF_t hc2 (by omega) (by omega) h97.1 (Or.inr rfl) ?_
      simp [f0,f2,f3,f7,NF.V,NF.stp,splice,hp]
      exact hp
    · simp [f0,f2,f3,f7,hn,rd2w]
      rw [←hV,←l98]
      refine crossF_t hc2 (by omega) (by omega) o1 (Or.inr rfl) ?_
      simp [f0,f2,f3,f7,NF.V,NF.stp,splice,hp]
      exact hp
    · simp [f0,f2,f3,f7,hn,rd2w]
      rw [←hV,←l97,←l98]
      refine untw_t hc2 (by omega) (by omega) o1 ?_
      simp
      refine crossF_t hc2 (by omega) (by omega) ho.1 (Or.inr rfl) ?_
      simp
      refine crossF_t hc2 (by omega) (by omega) h98.1 (Or.inl rfl) ?_
      simp [f0,f2,f3,f7,NF.V,NF.stp,splice,hp]
      exact hp
  · have hn:=vnext_end (H:=H) (lim:=lim) hlim hp
    have hi:i=s.size:=by omega
    subst hi
    simp [f0,f2,f3,f7,hn,rd2w,splice]
    exact hK _
def norV (s:ByteArray):V:=if vld s then .tup [.int .i64 (nf (chT s) s.size).k,.str (tR (nf (chT s) s.size).R),.int .i64 0] else .tup [.int .i64 0,.str noT,.int .i64 1]
theorem normal2_t {H:Hp}{lim:Nat}{s:ByteArray}{K:V→Hp→Prop}(hk:chkU8 H=true)(hlim:lim≤H.length)(hK:∀X,K (norV s) (H++X)):VCall tbl lim 45 [.str s] H K:=by
  refine VCall_fn tbl_at45 rfl ?_
  simp [vf45]
  refine valid_t hlim fun X => ?_
  unfold norV at hK
  cases hv:vld s with
  | false=>simp [hv] at hK ⊢;exact hK X
  | true =>
    simp [hv] at hK ⊢
    refine normal_t (chk_app hk) hv (by simp;omega) fun Y => ?_
    simp [NF.V,splice,rd2a,rd2b]
    exact hK _
end Go.Proofs.YtalejadhccgckaaDoor.Vm
namespace Go.Proofs.YtalejadhccgckaaDoor.Vm
open Go
set_option maxRecDepth 100000
set_option linter.unusedSimpArgs false
set_option linter.unusedVariables false
attribute [-simp] List.getD_eq_getElem?_getD
theorem ltr_cases {s:ByteArray}(h:ltr s){i:Nat}(hi:i<s.size):chT s i=97∨chT s i=65∨chT s i=98∨chT s i=66:=by
  have:=h i hi
  simp only [isL,Bool.or_eq_true,decide_eq_true_eq] at this
  omega
theorem flippedL_r {H:Hp} {lim:Nat} {s:ByteArray} {K:V→Hp→Prop} (hb:s.size≤1000) (hv:ltr s) (hK:∀X,K (.str (mp neiF s)) (H++X)):VCall tbl lim 67 [.str s] H K:=by
  refine VCall_fn tbl_at67 rfl ?_
  have w1:IntKind.wrap .u8 98=98:=rfl
  have w2:IntKind.wrap .u8 66=66:=rfl
  have w3:IntKind.wrap .u8 97=97:=rfl
  have w4:IntKind.wrap .u8 65=65:=rfl
  simp [vf67]
  refine wLoop_up s.size (fun i fr L H'=>(fr 0=.str s∧fr 4=.int .i64 i)∧(∃t,fr 3=.str t∧t.size=i∧∀k,k<i→(chT t k:Int)=neiF (chT s k:Nat))∧L=[]∧(∃X,H'=H++X)∧i≤s.size) ⟨by simp,⟨_,by simp;rfl,rfl,fun k hk=>absurd hk (by omega)⟩,rfl,⟨[],by simp⟩,by omega⟩ ?_
  rintro i hi fr L H' ⟨⟨f0,f4⟩,⟨t,f3,ht,hq⟩,rfl,⟨X,rfl⟩,hle⟩
  by_cases hp:i<s.size
  · have hp':((i:Int)<(s.size:Int))=True:=eq_true (by omega)
    have hl:=ltr_cases hv hp
    have hx:=idxT hp
    have hr:0≤neiF (chT s i:Nat)∧neiF (chT s i:Nat)<256:=by
      rcases hl with e | e | e | e<;>rw [e]<;>decide
    have ha:=vadd_str (a:=t) (b:=oneB (neiF (chT s i:Nat))) (by rw [ht,oneB_size];omega)
    have hs1:=vstrB_one (H:=H++X) (n:=neiF (chT s i:Nat))
    simp only [List.append_assoc,List.length_append] at hs1
    have fin:∀k,k<i+1→(chT (t++oneB (neiF (chT s i:Nat))) k:Int)=neiF (chT s k:Nat):=by
      intro k hk
      rw [chT_snoc hr (by omega)]
      split
      · rename_i h;exact hq k (by omega)
      · rename_i h
        have:k=i:=by omega
        rw [this]
    have hsz:(t++oneB (neiF (chT s i:Nat))).size=i+1:=by rw [size_app,ht];rfl
    have n1:neiF ((97:Nat):Int)=98:=rfl
    have n2:neiF ((65:Nat):Int)=66:=rfl
    have n3:neiF ((98:Nat):Int)=97:=rfl
    have n4:neiF ((66:Nat):Int)=65:=rfl
    generalize hT:t++oneB (neiF (chT s i:Nat))=t' at ha fin hsz
    rcases hl with e | e | e | e<;>rw [e] at hx ha hs1<;>simp only [n1,n2,n3,n4] at ha hs1 <;>
      simp (disch:=omega) [f0,f3,f4,hp',hx,splice,hs1,ha,wrap_i64,w1,w2,w3,w4]<;>exact ⟨hp,⟨hsz,fin⟩,hp⟩
  · have hp':((i:Int)<(s.size:Int))=False:=eq_false (by omega)
    have hi:i=s.size:=by omega
    simp [f0,f3,f4,hp']
    rw [mp_of (F:=neiF) (s:=s) (t:=t) (by omega) (fun k hk=>hq k (by omega))]
    exact hK X
theorem flippedR_r {H:Hp}{lim:Nat}{R:List Nat}{K:V→Hp→Prop}(hb:R.length≤1000)(hv:allP R)(hK:∀X,K (.str (tR (R.map fl))) (H++X)):VCall tbl lim 67 [.str (tR R)] H K:=by
  refine flippedL_r (by rw [tR_size];exact hb) (ltr_tR hv) fun X => ?_
  rw [tR_mp hv];exact hK X
def occ (P:List Nat)(j:Nat):Prop:=P.getD j 0=P.getD (j+2) 0∧P.getD j 0≠P.getD (j+1) 0
def Fnd (P:List Nat)(F:Int):Prop:=(F = -1∧∀j,j+3≤P.length→¬occ P j)∨∃k:Nat,F=k∧k+3≤P.length∧occ P k∧∀j,j<k→¬occ P j
theorem cut3 {P:List Nat}{j:Nat}(h:j+3≤P.length):(P.take (j+3)).drop j=[P.getD j 0,P.getD (j+1) 0,P.getD (j+2) 0]:=by
  have e:∀i,i<P.length→P.getD i 0=P[i]?.getD 0:=fun i _=>List.getD_eq_getElem?_getD
  apply List.ext_getElem?
  intro i
  rw [List.getElem?_drop,List.getElem?_take]
  match i with
  | 0=>simp [List.getD_eq_getElem?_getD,show j<P.length by omega]
  | 1=>simp [List.getD_eq_getElem?_getD,show j+1<P.length by omega]
  | 2=>simp [List.getD_eq_getElem?_getD,show j+2<P.length by omega]
  | i+3=>simp;omega
theorem find_r {H:Hp}{lim:Nat}{P:List Nat}{K:V→Hp→Prop}(hb:P.length≤1000)(hP:allP P)(hK:∀F,Fnd P F→K (.int .i64 F) H):VCall tbl lim 88 [.str (tx P)] H K:=by
  refine VCall_fn tbl_at88 rfl ?_
  have hz:(tx P).size=P.length:=tx_size
  simp [vf88]
  refine wLoop_up P.length (fun i fr L H'=>(fr 0=.str (tx P)∧fr 3=.int .i64 i)∧L=[]∧H'=H∧i≤P.length∧∀j,j<i→¬occ P j) ⟨by simp,rfl,rfl,by omega,fun j hj=>absurd hj (by omega)⟩ ?_
  rintro i hi fr L H' ⟨⟨f0,f3⟩,rfl,rfl,hle,hno⟩
  by_cases hp:i+3≤P.length
  · have hp':((i:Int)+3≤(P.length:Int))=True:=eq_true (by omega)
    have hsl:vslT (.str (tx P)) (some (.int .i64 (i:Int))) (some (.int .i64 ((i:Int)+3)))=some (.str (tx [P.getD i 0,P.getD (i+1) 0,P.getD (i+2) 0])):=by
      simp only [vslT,vbounds,vint,hz]
      rw [if_pos (by omega),if_pos (by omega)]
      have e1:((i:Int)+3).toNat=i+3:=by omega
      simp only [Int.toNat_natCast,e1,tx_cut,cut3 hp]
    have p0:=getD_P hP (j:=i) (by omega)
    have p1:=getD_P hP (j:=i+1) (by omega)
    have p2:=getD_P hP (j:=i+2) (by omega)
    have ho:occ P i=(P.getD i 0=P.getD (i+2) 0∧P.getD i 0≠P.getD (i+1) 0):=rfl
    have hy:occ P i→K (.int .i64 (i:Int)) H':=fun h=>hK _ (.inr ⟨i,rfl,hp,h,hno⟩)
    have hn:¬occ P i→∀j,j<i+1→¬occ P j:=fun h j hj=>by
      by_cases e:j=i
      · subst e;exact h
      · exact hno j (by omega)
    rw [ho] at hy hn
    generalize P.getD i 0=x at hsl p0 hy hn
    generalize P.getD (i+1) 0=y at hsl p1 hy hn
    generalize P.getD (i+2) 0=z at hsl p2 hy hn
    have l3:allP [x,y,z]:=by
      intro w hw;simp at hw;rcases hw with rfl | rfl | rfl<;>assumption
    have q1:=veq_tx l3 (lit3 (c:=97) (o:=98) (Or.inl rfl) (Or.inr rfl))
    have q2:=veq_tx l3 (lit3 (c:=98) (o:=97) (Or.inr rfl) (Or.inl rfl))
    have e1:tx [97,98,97]=⟨[97,98,97].toArray⟩:=rfl
    have e2:tx [98,97,98]=⟨[98,97,98].toArray⟩:=rfl
    rw [e1] at q1
    rw [e2] at q2
    generalize hT:tx [x,y,z]=T at hsl q1 q2
    clear l3 hT
    rcases p0 with rfl | rfl<;>rcases p1 with rfl | rfl<;>rcases p2 with rfl | rfl<;>simp at q1 q2 hy hn <;>
      simp (disch:=omega) [f0,f3,hp',vlenT_str,hz,hsl,q1,q2,wrap_i64]<;>first | exact hy | exact ⟨by omega,by omega,hn⟩
  · have hp':((i:Int)+3≤(P.length:Int))=False:=eq_false (by omega)
    simp (disch:=omega) [f0,f3,hp',vlenT_str,hz,wrap_i64]
    exact hK _ (.inl ⟨rfl,fun j hj=>hno j (by omega)⟩)
end Go.Proofs.YtalejadhccgckaaDoor.Vm
namespace Go.Proofs.YtalejadhccgckaaDoor.Vm
open Go
set_option maxRecDepth 100000
set_option linter.unusedSimpArgs false
set_option linter.unusedVariables false
attribute [-simp] List.getD_eq_getElem?_getD
theorem tx_injB {l m:List Nat}(hl:∀c∈l,c<256)(hm:∀c∈m,c<256)(h:tx l=tx m):l=m:=by
  have h1:=congrArg ByteArray.size h
  rw [tx_size,tx_size] at h1
  apply List.ext_getElem h1
  intro i h2 h3
  have h4:=congrArg (fun s=>chT s i) h
  have e:∀{l:List Nat} {i:Nat} (hi:i<l.length),l.getD i 0=l[i]:=fun hi=>by rw [List.getD_eq_getElem?_getD,List.getElem?_eq_getElem hi];rfl
  have b1:=hl _ (List.getElem_mem h2)
  have b2:=hm _ (List.getElem_mem h3)
  replace h4:chT (tx l) i=chT (tx m) i:=h4
  rw [chT_tx h2 (by rw [e h2];exact b1),chT_tx h3 (by rw [e h3];exact b2),e h2,e h3] at h4
  exact h4
theorem veq_txB {l m:List Nat} (hl:∀c∈l,c<256) (hm:∀c∈m,c<256):vbin .eql (.str (tx l)) (.str (tx m))=some (.bool (decide (l=m))):=by
  by_cases e:l=m
  · subst e;simp [vbin]
  · have:((tx l).toList==(tx m).toList)=false:=by
      rw [Lib.toList_data,Lib.toList_data]
      have hne:(tx l).data.toList≠(tx m).data.toList:=fun h=>e (tx_injB hl hm (by
        generalize tx l=a at h
        generalize tx m=b at h
        obtain ⟨⟨a⟩⟩:=a
        obtain ⟨⟨b⟩⟩:=b
        simp at h;subst h;rfl))
      simpa using hne
    simp only [vbin,this,e,decide_false]
theorem one_tx {s:ByteArray}{i:Nat}(h:i<s.size):s.extract i (i+1)=tx [chT s i]:=by
  obtain ⟨a,b⟩:=chT_cut h
  refine ba_ext (by rw [a,tx_size];rfl) fun k hk => ?_
  have:k=0:=by omega
  subst this
  have h2:([chT s i]:List Nat).getD 0 0<256:=chT_lt
  rw [b,chT_tx (by simp) h2]
  rfl
theorem okR_occ {R:List Nat}(h:okR R):∀j,j+3≤R.reverse.length→¬occ R.reverse j:=by
  intro j hj ho
  rw [List.length_reverse] at hj
  have e:∀i,i<R.length→R.reverse.getD i 0=R.getD (R.length-1-i) 0:=fun i hi=>by
    rw [List.getD_eq_getElem?_getD,List.getD_eq_getElem?_getD,List.getElem?_reverse hi]
  unfold occ at ho
  rw [e j (by omega),e (j+1) (by omega),e (j+2) (by omega)] at ho
  have:=okR_at h (R.length-1-(j+2)) (by omega)
  rw [show R.length-1-(j+2)+2=R.length-1-j by omega,show R.length-1-(j+2)+1=R.length-1-(j+1) by omega] at this
  exact this ⟨ho.1.symm,fun e=>ho.2 (by rw [ho.1,e])⟩
theorem fnd_none {R:List Nat}{F:Int}(h:okR R)(hF:Fnd R.reverse F):F = -1:=by
  rcases hF with ⟨h1,_⟩ | ⟨k,rfl,h2,h3,_⟩
  · exact h1
  · exact absurd h3 (okR_occ h k h2)
theorem fnd_some {P r:List Nat}{c o:Nat}{F:Int}(hne:o≠c)(h:okR (o :: c :: r))(hF:Fnd (P++c :: o :: c :: r).reverse F):F=r.length:=by
  have eQ:(P++c :: o :: c :: r).reverse=(o :: c :: r).reverse++(c :: P.reverse):=by simp
  have hlen:(o :: c :: r).reverse.length=r.length+2:=by simp
  have g1:∀i,i<r.length+2→(P++c :: o :: c :: r).reverse.getD i 0=(o :: c :: r).reverse.getD i 0:=fun i hi=>by
    rw [eQ,List.getD_eq_getElem?_getD,List.getD_eq_getElem?_getD,List.getElem?_append_left (by rw [hlen];exact hi)]
  have g2:(P++c :: o :: c :: r).reverse.getD (r.length+2) 0=c:=by
    rw [eQ,List.getD_eq_getElem?_getD,List.getElem?_append_right (by rw [hlen];exact Nat.le_refl _),hlen]
    simp
  have g3:(o :: c :: r).reverse.getD r.length 0=c:=by
    rw [List.getD_eq_getElem?_getD,List.getElem?_reverse (by simp;omega)]
    simp
  have g4:(o :: c :: r).reverse.getD (r.length+1) 0=o:=by
    rw [List.getD_eq_getElem?_getD,List.getElem?_reverse (by simp)]
    simp
  have hocc:occ (P++c :: o :: c :: r).reverse r.length:=by
    unfold occ
    rw [g2,g1 _ (by omega),g1 _ (by omega),g3,g4]
    exact ⟨rfl,fun e=>hne e.symm⟩
  have hno:∀j,j<r.length→¬occ (P++c :: o :: c :: r).reverse j:=by
    intro j hj ho
    have:=okR_occ h j (by rw [hlen];omega)
    unfold occ at ho this
    rw [g1 _ (by omega),g1 _ (by omega),g1 _ (by omega)] at ho
    exact this ho
  rcases hF with ⟨_,h1⟩ | ⟨k,rfl,h2,h3,h4⟩
  · exact absurd hocc (h1 _ (by simp))
  · have:k=r.length:=by
      rcases Nat.lt_trichotomy k r.length with h | h | h
      · exact absurd h3 (hno k h)
      · exact h
      · exact absurd hocc (h4 _ h)
    rw [this]
theorem allP_app {l m:List Nat}(h1:allP l)(h2:allP m):allP (l++m):=fun c hc=>by
  rcases List.mem_append.1 hc with h | h
  · exact h1 c h
  · exact h2 c h
theorem allP_cons {c:Nat}{l:List Nat}(h1:isP c)(h2:allP l):allP (c :: l):=fun d hd=>by
  rcases List.mem_cons.1 hd with rfl | h
  · exact h1
  · exact h2 d h
theorem allP_rev {l:List Nat}(h:allP l):allP l.reverse:=fun c hc=>h c (List.mem_reverse.1 hc)
theorem findR_r {H:Hp}{lim:Nat}{R:List Nat}{K:V→Hp→Prop}(hb:R.length≤1000)(hP:allP R)(hK:∀F,Fnd R.reverse F→K (.int .i64 F) H):VCall tbl lim 88 [.str (tR R)] H K :=
  find_r (by rw [List.length_reverse];exact hb) (allP_rev hP) hK
def Mid (y:NF)(n:Nat)(fr:Fr):Prop:=∃(x:NF) (l:List Nat) (F:Int),x.Ok∧(∀c∈l,isP c)∧crs l x=y∧l.length=n∧x.R.length+l.length≤200∧-100≤x.k∧x.k+l.length≤200∧Fnd (l.reverse++x.R).reverse F ∧
  fr 4=.int .i64 x.k∧fr 5=.str (tR (l.reverse++x.R))∧fr 8=.int .i64 F
theorem normal_r {H:Hp} {lim:Nat} {s:ByteArray} {K:V→Hp→Prop} (hv:vld s=true) (hK:∀X,K (.tup [.int .i64 (nf (chT s) s.size).k,.str (tR (nf (chT s) s.size).R)]) (H++X)):VCall tbl lim 73 [.str s] H K:=by
  refine VCall_fn tbl_at73 rfl ?_
  have hb:=vld_len hv
  simp [vf73]
  refine wLoop_up s.size (fun i fr L H'=>(fr 0=.str s∧fr 4=.int .i64 (nf (chT s) i).k∧fr 5=.str (tR (nf (chT s) i).R)∧fr 6=.int .i64 i)∧L=[]∧(∃X,H'=H++X)∧i≤s.size) ⟨by simp [nf];rfl,rfl,⟨[],by simp⟩,by omega⟩ ?_
  rintro i hi fr L H' ⟨⟨f0,f4,f5,f6⟩,rfl,⟨X,rfl⟩,hle⟩
  by_cases hp:i<s.size
  · have hp':((i:Int)<(s.size:Int))=True:=eq_true (by omega)
    have hl:=vld_at hv hp
    have hbd:=nf_bd (f:=chT s) i
    have hok:=nf_ok (f:=chT s) i
    have hs1:nf (chT s) (i+1)=(nf (chT s) i).stp (chT s i):=rfl
    rw [hs1]
    have hsl:vslT (.str s) (some (.int .i64 (i:Int))) (some (.int .i64 ((i:Int)+1)))=some (.str (tx [chT s i])):=by
      simp only [vslT,vbounds,vint]
      rw [if_pos (by omega),if_pos (by omega)]
      have e1:((i:Int)+1).toNat=i+1:=by omega
      simp [e1,one_tx hp]
    have q65:=veq_txB (l:=[chT s i]) (m:=[65]) (by intro c hc;simp at hc;rw [hc];exact chT_lt) (by simp)
    have q66:=veq_txB (l:=[chT s i]) (m:=[66]) (by intro c hc;simp at hc;rw [hc];exact chT_lt) (by simp)
    rw [show tx [65]=⟨[65].toArray⟩ from rfl] at q65
    rw [show tx [66]=⟨[66].toArray⟩ from rfl] at q66
    have hop:=NF.untw_ok hok
    have ul:=NF.untw_len (x:=nf (chT s) i)
    have t1:tx [97,98]=⟨[97,98].toArray⟩:=rfl
    have t2:tx [98,97]=⟨[98,97].toArray⟩:=rfl
    have psh:∀l:List Nat,l.length≤2→∀R:List Nat,R.length≤200→vbin .add (.str (tR R)) (.str (tx l))=some (.str (tR (l.reverse++R))):=by
      intro l hl R hR
      have h4:tR R++tx l=tR (l.reverse++R):=by
        rw [tR,tx_app,tR];simp
      rw [vadd_str (by rw [tR_size,tx_size];omega),h4]
    have hsm:chT s i=97∨chT s i=98→isP (chT s i):=id
    by_cases hA:chT s i=65
    · have ha:=psh [97,98] (by simp) ((nf (chT s) i).R.map fl) (by simp;omega)
      rw [t1] at ha
      rw [hA] at hsl q65 q66 ⊢
      simp at q65
      generalize hN:nf (chT s) i=N0 at *
      simp (disch:=omega) [f0,f4,f5,f6,hp',vlenT_str,hsl,q65,wrap_i64]
      refine flippedR_r (by omega) hok.1 fun X2 => ?_
      simp (disch:=omega) [f0,f4,f5,f6,ha,wrap_i64]
      refine findR_r (by simp;omega) (allP_cons (Or.inr rfl) (allP_cons (Or.inl rfl) hop.1)) fun F hF => ?_
      simp [f0,f4,f5,f6]
      refine wLoop_m (fun n fr L H'=>(fr 0=.str s∧fr 6=.int .i64 i)∧Mid (N0.stp 65) n fr∧L=[]∧∃X,H'=H++X) (n:=2) ⟨by simp [f0,f6],?_,rfl,_,rfl⟩ ?_
      · refine ⟨N0.untw,[97,98],F,hop,?_,?_,rfl,?_,?_,?_,hF,?_,?_,?_⟩
        · intro w hw;simp at hw;rcases hw with rfl | rfl<;>simp [isP]
        · rfl
        · simp [NF.untw];omega
        · simp [NF.untw];omega
        · simp [NF.untw];omega
        · simp [f4,NF.untw]
        · simp [NF.untw]
        · simp
      rintro n fr' L H' ⟨⟨g0,g6⟩,⟨x,l,F,m1,m2,m3,m4,m5,m6,m7,m8,g4,g5,g8⟩,rfl,Y,rfl⟩
      rcases crs_or (l:=l) (x:=x) m2 m1 with ⟨a1,a2⟩ | ⟨c,l2,o,r,a1,a2,a3,a4,a5,a6,a7,a8,a9⟩
      · have hF2:=fnd_none a1 m8
        subst hF2
        simp (disch:=omega) [g0,g4,g5,g6,g8,wrap_i64]
        rw [←m3,a2]
        exact ⟨hp,⟨rfl,rfl⟩,hp⟩
      · rw [a8] at m8 g5
        have hF2:=fnd_some a1 a6 m8
        subst hF2
        have hge:((0:Int)≤(r.length:Int))=True:=eq_true (by omega)
        have hlen:r.length+3+l2.length=x.R.length+l.length:=by
          have:=congrArg List.length a8
          simp at this;omega
        have hz:(tR (l2.reverse++c :: o :: c :: r)).size=r.length+3+l2.length:=by rw [tR_size];simp;omega
        have h1:vslT (.str (tR (l2.reverse++c :: o :: c :: r))) none (some (.int .i64 (r.length:Int)))=some (.str (tR r)):=by
          have h:=tR_pre (P:=l2.reverse++[c,o,c]) (R:=r)
          simp only [vslT,vbounds,vint,hz]
          rw [if_pos (by omega),if_pos (by omega)]
          simp only [Int.toNat_natCast,Int.toNat_zero]
          have h2:(tR (l2.reverse++c :: o :: c :: r)).extract 0 r.length=tR r:=by
            have e:l2.reverse++c :: o :: c :: r=(l2.reverse++[c,o,c])++r:=by simp
            rw [e];exact h
          first | rw [h2] | simp [e2,h2]
        have h3:vslT (.str (tR (l2.reverse++c :: o :: c :: r))) (some (.int .i64 ((r.length:Int)+3))) none=some (.str (tx l2)):=by
          have h:=tR_suf (P:=l2.reverse) (R:=c :: o :: c :: r)
          simp only [vslT,vbounds,vint,hz]
          rw [if_pos (by omega),if_pos (by omega)]
          have e1:((r.length:Int)+3).toNat=r.length+3:=by omega
          have e2:((r.length:Int)+3+(l2.length:Int)).toNat=r.length+3+l2.length:=by omega
          simp only [e1]
          have h2:(tR (l2.reverse++c :: o :: c :: r)).extract (r.length+3) (r.length+3+l2.length)=tx l2:=by
            rw [List.reverse_reverse] at h
            rw [←h];congr 1;simp;omega
          first | rw [h2] | simp [e2,h2]
        have h4:tR (r.map fl)++tx l2=tR (l2.reverse++r.map fl):=by
          rw [tR,tx_app,tR];simp
        have ha:=vadd_str (a:=tR (r.map fl)) (b:=tx l2) (by rw [tR_size,tx_size];simp;omega)
        rw [h4] at ha
        have pr:allP (l2.reverse++r.map fl):=allP_app (allP_rev a7) allP_fl
        have xk:=m6
        generalize hT:tR (l2.reverse++c :: o :: c :: r)=T at g5 h1 h3
        simp (disch:=omega) [g0,g4,g5,g6,g8,hge,h1,h3,wrap_i64]
        refine flippedR_r (by omega) a5 fun Z => ?_
        simp (disch:=omega) [g0,g4,g5,g6,g8,hge,h1,h3,ha,wrap_i64]
        refine findR_r (by simp;omega) pr fun F2 hF3 => ?_
        simp [g0,g4,g5,g6,g8]
        refine ⟨l2.length,by omega,⟨⟨x.k+1,r.map fl⟩,l2,F2,⟨allP_fl,okR_fl a5 (okR_tail (okR_tail a6))⟩,a7,by rw [←m3,a9],rfl,?_,?_,?_,hF3,?_,?_,?_⟩⟩
        · simp;omega
        · simp;omega
        · simp;omega
        · simp
        · simp
        · simp
    by_cases hB:chT s i=66
    · have ha:=psh [98,97] (by simp) ((nf (chT s) i).R.map fl) (by simp;omega)
      rw [t2] at ha
      rw [hB] at hsl q65 q66 ⊢
      simp at q65 q66
      generalize hN:nf (chT s) i=N0 at *
      simp (disch:=omega) [f0,f4,f5,f6,hp',vlenT_str,hsl,q65,q66,wrap_i64]
      refine flippedR_r (by omega) hok.1 fun X2 => ?_
      simp (disch:=omega) [f0,f4,f5,f6,ha,wrap_i64]
      refine findR_r (by simp;omega) (allP_cons (Or.inl rfl) (allP_cons (Or.inr rfl) hop.1)) fun F hF => ?_
      simp [f0,f4,f5,f6]
      refine wLoop_m (fun n fr L H'=>(fr 0=.str s∧fr 6=.int .i64 i)∧Mid (N0.stp 66) n fr∧L=[]∧∃X,H'=H++X) (n:=2) ⟨by simp [f0,f6],?_,rfl,_,rfl⟩ ?_
      · refine ⟨N0.untw,[98,97],F,hop,?_,?_,rfl,?_,?_,?_,hF,?_,?_,?_⟩
        · intro w hw;simp at hw;rcases hw with rfl | rfl<;>simp [isP]
        · rfl
        · simp [NF.untw];omega
        · simp [NF.untw];omega
        · simp [NF.untw];omega
        · simp [f4,NF.untw]
        · simp [NF.untw]
        · simp
      rintro n fr' L H' ⟨⟨g0,g6⟩,⟨x,l,F,m1,m2,m3,m4,m5,m6,m7,m8,g4,g5,g8⟩,rfl,Y,rfl⟩
      rcases crs_or (l:=l) (x:=x) m2 m1 with ⟨a1,a2⟩ | ⟨c,l2,o,r,a1,a2,a3,a4,a5,a6,a7,a8,a9⟩
      · have hF2:=fnd_none a1 m8
        subst hF2
        simp (disch:=omega) [g0,g4,g5,g6,g8,wrap_i64]
        rw [←m3,a2]
        exact ⟨hp,⟨rfl,rfl⟩,hp⟩
      · rw [a8] at m8 g5
        have hF2:=fnd_some a1 a6 m8
        subst hF2
        have hge:((0:Int)≤(r.length:Int))=True:=eq_true (by omega)
        have hlen:r.length+3+l2.length=x.R.length+l.length:=by
          have:=congrArg List.length a8
          simp at this;omega
        have hz:(tR (l2.reverse++c :: o :: c :: r)).size=r.length+3+l2.length:=by rw [tR_size];simp;omega
        have h1:vslT (.str (tR (l2.reverse++c :: o :: c :: r))) none (some (.int .i64 (r.length:Int)))=some (.str (tR r)):=by
          have h:=tR_pre (P:=l2.reverse++[c,o,c]) (R:=r)
          simp only [vslT,vbounds,vint,hz]
          rw [if_pos (by omega),if_pos (by omega)]
          simp only [Int.toNat_natCast,Int.toNat_zero]
          have h2:(tR (l2.reverse++c :: o :: c :: r)).extract 0 r.length=tR r:=by
            have e:l2.reverse++c :: o :: c :: r=(l2.reverse++[c,o,c])++r:=by simp
            rw [e];exact h
          first | rw [h2] | simp [e2,h2]
        have h3:vslT (.str (tR (l2.reverse++c :: o :: c :: r))) (some (.int .i64 ((r.length:Int)+3))) none=some (.str (tx l2)):=by
          have h:=tR_suf (P:=l2.reverse) (R:=c :: o :: c :: r)
          simp only [vslT,vbounds,vint,hz]
          rw [if_pos (by omega),if_pos (by omega)]
          have e1:((r.length:Int)+3).toNat=r.length+3:=by omega
          have e2:((r.length:Int)+3+(l2.length:Int)).toNat=r.length+3+l2.length:=by omega
          simp only [e1]
          have h2:(tR (l2.reverse++c :: o :: c :: r)).extract (r.length+3) (r.length+3+l2.length)=tx l2:=by
            rw [List.reverse_reverse] at h
            rw [←h];congr 1;simp;omega
          first | rw [h2] | simp [e2,h2]
        have h4:tR (r.map fl)++tx l2=tR (l2.reverse++r.map fl):=by
          rw [tR,tx_app,tR];simp
        have ha:=vadd_str (a:=tR (r.map fl)) (b:=tx l2) (by rw [tR_size,tx_size];simp;omega)
        rw [h4] at ha
        have pr:allP (l2.reverse++r.map fl):=allP_app (allP_rev a7) allP_fl
        have xk:=m6
        generalize hT:tR (l2.reverse++c :: o :: c :: r)=T at g5 h1 h3
        simp (disch:=omega) [g0,g4,g5,g6,g8,hge,h1,h3,wrap_i64]
        refine flippedR_r (by omega) a5 fun Z => ?_
        simp (disch:=omega) [g0,g4,g5,g6,g8,hge,h1,h3,ha,wrap_i64]
        refine findR_r (by simp;omega) pr fun F2 hF3 => ?_
        simp [g0,g4,g5,g6,g8]
        refine ⟨l2.length,by omega,⟨⟨x.k+1,r.map fl⟩,l2,F2,⟨allP_fl,okR_fl a5 (okR_tail (okR_tail a6))⟩,a7,by rw [←m3,a9],rfl,?_,?_,?_,hF3,?_,?_,?_⟩⟩
        · simp;omega
        · simp;omega
        · simp;omega
        · simp
        · simp
        · simp
    have hc:isP (chT s i):=by rcases hl with h | h | h | h<;>simp_all [isP]
    have hst:(nf (chT s) i).stp (chT s i)=(nf (chT s) i).cross (chT s i):=by
      rcases hc with h | h<;>rw [h]<;>rfl
    have ha:=psh [chT s i] (by simp) (nf (chT s) i).R (by omega)
    simp [hA,hB] at q65 q66
    rw [hst]
    generalize hN:nf (chT s) i=N0 at *
    generalize hC:chT s i=c0 at *
    simp (disch:=omega) [f0,f4,f5,f6,hp',vlenT_str,hsl,q65,q66,ha,wrap_i64]
    refine findR_r (by simp;omega) (allP_cons hc hok.1) fun F hF => ?_
    simp [f0,f4,f5,f6]
    refine wLoop_m (fun n fr L H'=>(fr 0=.str s∧fr 6=.int .i64 i)∧Mid (N0.cross c0) n fr∧L=[]∧∃X,H'=H++X) (n:=1) ⟨by simp [f0,f6],?_,rfl,_,rfl⟩ ?_
    · refine ⟨N0,[c0],F,hok,?_,?_,rfl,?_,?_,?_,hF,?_,?_,?_⟩
      · intro w hw;simp at hw;rw [hw];exact hc
      · rfl
      · simp;omega
      · omega
      · simp;omega
      · simp [f4,f4]
      · simp
      · simp
    rintro n fr' L H' ⟨⟨g0,g6⟩,⟨x,l,F,m1,m2,m3,m4,m5,m6,m7,m8,g4,g5,g8⟩,rfl,Y,rfl⟩
    rcases crs_or (l:=l) (x:=x) m2 m1 with ⟨a1,a2⟩ | ⟨c,l2,o,r,a1,a2,a3,a4,a5,a6,a7,a8,a9⟩
    · have hF2:=fnd_none a1 m8
      subst hF2
      simp (disch:=omega) [g0,g4,g5,g6,g8,wrap_i64]
      rw [←m3,a2]
      exact ⟨hp,⟨rfl,rfl⟩,hp⟩
    · rw [a8] at m8 g5
      have hF2:=fnd_some a1 a6 m8
      subst hF2
      have hge:((0:Int)≤(r.length:Int))=True:=eq_true (by omega)
      have hlen:r.length+3+l2.length=x.R.length+l.length:=by
        have:=congrArg List.length a8
        simp at this;omega
      have hz:(tR (l2.reverse++c :: o :: c :: r)).size=r.length+3+l2.length:=by rw [tR_size];simp;omega
      have h1:vslT (.str (tR (l2.reverse++c :: o :: c :: r))) none (some (.int .i64 (r.length:Int)))=some (.str (tR r)):=by
        have h:=tR_pre (P:=l2.reverse++[c,o,c]) (R:=r)
        simp only [vslT,vbounds,vint,hz]
        rw [if_pos (by omega),if_pos (by omega)]
        simp only [Int.toNat_natCast,Int.toNat_zero]
        have h2:(tR (l2.reverse++c :: o :: c :: r)).extract 0 r.length=tR r:=by
            have e:l2.reverse++c :: o :: c :: r=(l2.reverse++[c,o,c])++r:=by simp
            rw [e];exact h
        first | rw [h2] | simp [h2]
      have h3:vslT (.str (tR (l2.reverse++c :: o :: c :: r))) (some (.int .i64 ((r.length:Int)+3))) none=some (.str (tx l2)):=by
        have h:=tR_suf (P:=l2.reverse) (R:=c :: o :: c :: r)
        simp only [vslT,vbounds,vint,hz]
        rw [if_pos (by omega),if_pos (by omega)]
        have e1:((r.length:Int)+3).toNat=r.length+3:=by omega
        have e2:((r.length:Int)+3+(l2.length:Int)).toNat=r.length+3+l2.length:=by omega
        simp only [e1]
        have h2:(tR (l2.reverse++c :: o :: c :: r)).extract (r.length+3) (r.length+3+l2.length)=tx l2:=by
          rw [List.reverse_reverse] at h
          rw [←h];congr 1;simp;omega
        first | rw [h2] | simp [e2,h2]
      have h4:tR (r.map fl)++tx l2=tR (l2.reverse++r.map fl):=by
        rw [tR,tx_app,tR];simp
      have ha:=vadd_str (a:=tR (r.map fl)) (b:=tx l2) (by rw [tR_size,tx_size];simp;omega)
      rw [h4] at ha
      have pr:allP (l2.reverse++r.map fl):=allP_app (allP_rev a7) allP_fl
      have xk:=m6
      generalize hT:tR (l2.reverse++c :: o :: c :: r)=T at g5 h1 h3
      simp (disch:=omega) [g0,g4,g5,g6,g8,hge,h1,h3,wrap_i64]
      refine flippedR_r (by omega) a5 fun Z => ?_
      simp (disch:=omega) [g0,g4,g5,g6,g8,hge,h1,h3,ha,wrap_i64]
      refine findR_r (by simp;omega) pr fun F2 hF3 => ?_
      simp [g0,g4,g5,g6,g8]
      refine ⟨l2.length,by omega,⟨⟨x.k+1,r.map fl⟩,l2,F2,⟨allP_fl,okR_fl a5 (okR_tail (okR_tail a6))⟩,a7,by rw [←m3,a9],rfl,?_,?_,?_,hF3,?_,?_,?_⟩⟩
      · simp;omega
      · simp;omega
      · simp;omega
      · simp
      · simp
      · simp
  · have hp':((i:Int)<(s.size:Int))=False:=eq_false (by omega)
    have hi:i=s.size:=by omega
    subst hi
    simp [f0,f4,f5,f6,hp',vlenT_str]
    exact hK _
end Go.Proofs.YtalejadhccgckaaDoor.Vm
namespace Go.Proofs.YtalejadhccgckaaDoor.Vm
open Go
set_option maxRecDepth 100000
set_option linter.unusedSimpArgs false
set_option linter.unusedVariables false
attribute [-simp] List.getD_eq_getElem?_getD
theorem normal2_r {H:Hp}{lim:Nat}{s:ByteArray}{K:V→Hp→Prop}(hs:s.size≤1000000)(hK:∀X,K (norV s) (H++X)):VCall tbl lim 46 [.str s] H K:=by
  refine VCall_fn tbl_at46 rfl ?_
  simp [vf46]
  refine valid_r hs ?_
  unfold norV at hK
  cases hv:vld s with
  | false=>simp [hv] at hK ⊢;have:=hK [];simpa using this
  | true =>
    simp [hv] at hK ⊢
    refine normal_r hv fun Y => ?_
    simp
    exact hK _
def mEq (a b:M4):Bool:=decide (a.p=b.p)&&(decide (a.q=b.q)&&(decide (a.r=b.r)&&decide (a.s=b.s)))
theorem mEq_iff {a b:M4}:mEq a b=true↔a=b:=by
  simp only [mEq,Bool.and_eq_true,decide_eq_true_eq]
  constructor
  · rintro ⟨h1,h2,h3,h4⟩;exact M4.ext' h1 h2 h3 h4
  · rintro rfl;exact ⟨rfl,rfl,rfl,rfl⟩
def nEq (x y:NF):Bool:=decide (x.k=y.k)&&decide (x.R=y.R)
theorem nEq_iff {x y:NF}:nEq x y=true↔x=y:=by
  simp only [nEq,Bool.and_eq_true,decide_eq_true_eq]
  constructor
  · rintro ⟨h1,h2⟩;cases x;cases y;simp only at h1 h2;subst h1 h2;rfl
  · rintro rfl;exact ⟨rfl,rfl⟩
def eqv (u v:ByteArray):Bool:=nEq (nf (chT u) u.size) (nf (chT v) v.size)
theorem eqv_mc {u v:ByteArray}(hu:vld u=true)(hv:vld v=true):eqv u v=(mEq (mat (chT u) u.size) (mat (chT v) v.size)&&decide (cntL (chT u) u.size=cntL (chT v) v.size)):=by
  have h:=nf_iff (f:=chT u) (g:=chT v) (n:=u.size) (m:=v.size) (fun i hi=>vld_at hu hi) (fun i hi=>vld_at hv hi)
  rw [Bool.eq_iff_iff,eqv,nEq_iff,h,Bool.and_eq_true,mEq_iff,decide_eq_true_eq]
theorem veqM {neg:Bool}{a b:M4}:veqA neg [.int .i64,.int .i64,.int .i64,.int .i64] (.agg a.V) (.agg b.V)=some (.bool (if neg then !(mEq a b) else mEq a b)):=by
  cases neg<;>simp [veqA,M4.V,eqCells,eqCell,mEq]<;>rfl
theorem veq_tR {R S:List Nat}(hR:allP R)(hS:allP S):vbin .eql (.str (tR R)) (.str (tR S))=some (.bool (decide (R=S))):=by
  have:=veq_tx (allP_rev hR) (allP_rev hS)
  simp only [List.reverse_inj] at this
  exact this
theorem veqNF {x y:NF} (hx:allP x.R) (hy:allP y.R):veqA false [.int .i64,.str] x.V y.V=some (.bool (nEq x y)):=by
  have h:(tR x.R==tR y.R)=decide (x.R=y.R):=by
    show ((tR x.R).data==(tR y.R).data)=_
    by_cases e:x.R=y.R
    · rw [e];simp
    · rw [decide_eq_false e]
      have:(tR x.R).data≠(tR y.R).data:=fun h=>e (tR_inj hx hy (by
        generalize tR x.R=a at h
        generalize tR y.R=b at h
        cases a;cases b;simp at h;subst h;rfl))
      simpa using this
  simp [veqA,NF.V,eqCells,eqCell,nEq,h]
  rfl
def samV (u v:ByteArray):V:=if vld u&&vld v then .tup [.bool (eqv u v),.int .i64 0] else .tup [.bool false,.int .i64 1]
theorem same_t {H:Hp}{lim:Nat}{u v:ByteArray}{K:V→Hp→Prop}(hk:chkU8 H=true)(hlim:lim≤H.length)(hK:∀X,K (samV u v) (H++X)):VCall tbl lim 21 [.str u,.str v] H K:=by
  refine VCall_fn tbl_at21 rfl ?_
  simp [vf21]
  refine valid_t hlim fun X => ?_
  unfold samV at hK
  cases hu:vld u with
  | false=>simp [hu] at hK ⊢;exact hK X
  | true =>
    simp
    refine valid_t (by simp;omega) fun Y => ?_
    cases hv:vld v with
    | false=>simp [hu,hv] at hK ⊢;exact hK _
    | true =>
      simp [hu,hv] at hK ⊢
      refine normal_t (chk_app hk) hu (by simp;omega) fun Z => ?_
      simp
      refine normal_t (chk_app hk) hv (by simp;omega) fun W => ?_
      have e:=veqNF (nf_ok (f:=chT u) u.size).1 (nf_ok (f:=chT v) v.size).1
      simp [e]
      exact hK _
theorem count_r {H:Hp}{lim:Nat}{s:ByteArray}{K:V→Hp→Prop}(hv:vld s=true)(hK:K (.int .i64 (cntL (chT s) s.size)) H):VCall tbl lim 71 [.str s] H K:=by
  have hb:=vld_len hv
  refine VCall_fn tbl_at71 rfl ?_
  simp [vf71]
  refine wLoop_up s.size (fun i fr L H'=>(fr 0=.str s∧fr 3=.int .i64 (cntL (chT s) i)∧fr 4=.int .i64 i)∧L=[]∧H'=H∧i≤s.size) ⟨by simp [cntL],rfl,rfl,by omega⟩ ?_
  rintro i hi fr L H' ⟨⟨f0,f3,f4⟩,rfl,rfl,hle⟩
  by_cases hp:i<s.size
  · have hp':((i:Int)<(s.size:Int))=True:=eq_true (by omega)
    have hl:=vld_at hv hp
    have hx:=idxT hp
    have hc:=cntL_bd (g:=chT s) i
    have hs1:cntL (chT s) (i+1)=if chT s i=97∨chT s i=98 then cntL (chT s) i+1 else cntL (chT s) i-1:=rfl
    rw [hs1]
    generalize cntL (chT s) i=n at f3 hc
    rcases hl with e | e | e | e<;>rw [e] at hx ⊢<;>simp (disch:=omega) [f0,f3,f4,hp',hx,wrap_i64]<;>exact ⟨hp,by omega⟩
  · have hp':((i:Int)<(s.size:Int))=False:=eq_false (by omega)
    have hi:i=s.size:=by omega
    subst hi
    simp [f0,f3,f4,hp']
    exact hK
theorem same_r {H:Hp} {lim:Nat} {u v:ByteArray} {K:V→Hp→Prop} (h1:u.size≤1000000) (h2:v.size≤1000000) (hK:K (samV u v) H):VCall tbl lim 48 [.str u,.str v] H K:=by
  refine VCall_fn tbl_at48 rfl ?_
  simp [vf48]
  refine valid_r h1 ?_
  unfold samV at hK
  cases hu:vld u with
  | false=>simp [hu] at hK ⊢;exact hK
  | true =>
    simp
    refine valid_r h2 ?_
    cases hv:vld v with
    | false=>simp [hu,hv] at hK ⊢;exact hK
    | true =>
      have e:=eqv_mc hu hv
      simp [hu,hv] at hK ⊢
      refine matrix0_r hu ?_
      simp
      refine matrix0_r hv ?_
      have q:=veqM (neg:=false) (a:=mat (chT u) u.size) (b:=mat (chT v) v.size)
      generalize mat (chT u) u.size=a at e q
      generalize mat (chT v) v.size=b at e q
      simp [q]
      cases hm:mEq a b with
      | false =>
        simp [hm] at e
        simp [e] at hK ⊢;exact hK
      | true =>
        simp [hm] at e
        simp
        refine count_r hu ?_
        simp
        refine count_r hv ?_
        simp
        rw [←e];exact hK
def twiV (s:ByteArray):V:=if vld s then .tup [.bool (decide ((nf (chT s) s.size).R=[])),.int .i64 0] else .tup [.bool false,.int .i64 1]
theorem isTwist_t {H:Hp}{lim:Nat}{s:ByteArray}{K:V→Hp→Prop}(hk:chkU8 H=true)(hlim:lim≤H.length)(hK:∀X,K (twiV s) (H++X)):VCall tbl lim 50 [.str s] H K:=by
  refine VCall_fn tbl_at50 rfl ?_
  simp [vf50]
  refine valid_t hlim fun X => ?_
  unfold twiV at hK
  cases hv:vld s with
  | false=>simp [hv] at hK ⊢;exact hK X
  | true =>
    simp [hv] at hK ⊢
    refine normal_t (chk_app hk) hv (by simp;omega) fun Y => ?_
    have e:=veq_tR (R:=(nf (chT s) s.size).R) (S:=[]) (nf_ok (f:=chT s) s.size).1 (fun c hc=>absurd hc (by simp))
    rw [show tR []=⟨[].toArray⟩ from rfl] at e
    generalize nf (chT s) s.size=x at e hK
    simp [NF.V,rd2b,e]
    exact hK _
theorem isTwist_r {H:Hp}{lim:Nat}{s:ByteArray}{K:V→Hp→Prop}(hs:s.size≤1000000)(hK:∀X,K (twiV s) (H++X)):VCall tbl lim 51 [.str s] H K:=by
  refine VCall_fn tbl_at51 rfl ?_
  simp [vf51]
  refine valid_r hs ?_
  unfold twiV at hK
  cases hv:vld s with
  | false=>simp [hv] at hK ⊢;have:=hK [];simpa using this
  | true =>
    simp [hv] at hK ⊢
    refine normal_r hv fun Y => ?_
    have e:=veq_tR (R:=(nf (chT s) s.size).R) (S:=[]) (nf_ok (f:=chT s) s.size).1 (fun c hc=>absurd hc (by simp))
    rw [show tR []=⟨[].toArray⟩ from rfl] at e
    generalize nf (chT s) s.size=x at e hK
    simp [e]
    exact hK _
theorem norV_pair {s:ByteArray}:∃(k:Int) (R:List Nat) (e:Int),allP R∧norV s=.tup [.int .i64 k,.str (tR R),.int .i64 e]:=by
  unfold norV;split
  · exact ⟨_,_,_,(nf_ok (f:=chT s) s.size).1,rfl⟩
  · exact ⟨0,[],1,fun c hc=>absurd hc (by simp),rfl⟩
theorem law_PlaitNormals {H:Hp}{lim:Nat}{s:ByteArray}{K:V→Hp→Prop}(hH:HX glHp H)(hlim:lim≤H.length)(h1:s.size≤maxLen)(hK:∀X,K (.bool true) (H++X)):VCall tbl lim 8 [.str s] H K:=by
  have hc:=chk_of hH
  refine VCall_fn tbl_at8 rfl ?_
  simp [vf8]
  refine long_t ?_
  by_cases hu:200<s.size
  · simp [hu]
    exact known_t hc hlim fun X=>by simp;exact hK X
  simp [hu]
  obtain ⟨k,R,e,hR,hn⟩:=norV_pair (s:=s)
  refine normal2_t hc hlim fun X => ?_
  simp [hn]
  refine normal2_r (by omega) fun Y => ?_
  simp [hn,veq_self]
  exact known_t (chk_app hc) (by simp;omega) fun W=>by simp;exact hK _
end Go.Proofs.YtalejadhccgckaaDoor.Vm
