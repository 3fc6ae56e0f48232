/- The theorem of stage 6: TopPlaits. -/
import Derived.Test.YtalejadhccgckaaDoorPtB
import Derived.Test.YtalejadhccgckaaDoorPmE
namespace Go.Proofs.YtalejadhccgckaaDoor.Vm
open Go
set_option maxRecDepth 100000
set_option maxHeartbeats 1000000
set_option linter.unusedSimpArgs false
set_option linter.unusedVariables false
attribute [-simp] List.getD_eq_getElem?_getD
def M4.cj (m:M4):M4:=⟨m.p,-m.q,-m.r,m.s⟩
theorem cj_step {m:M4}{c:Nat}(h:isLet c):(m.step c).cj=m.cj.step (op c):=by
  rcases h with rfl | rfl | rfl | rfl
  · apply M4.ext'<;>simp [M4.step,M4.cj,op97]<;>omega
  · apply M4.ext'<;>simp [M4.step,M4.cj,op65]<;>omega
  · apply M4.ext'<;>simp [M4.step,M4.cj,op98]<;>omega
  · apply M4.ext'<;>simp [M4.step,M4.cj,op66]<;>omega
theorem cj_mat {l:List Nat}:∀{m:M4},allL l→matL m.cj (l.map op)=(matL m l).cj:=by
  induction l with
  | nil=>intro m _;rfl
  | cons c l ih =>
    intro m h
    show matL (m.cj.step (op c)) (l.map op)=(matL (m.step c) l).cj
    rw [←cj_step (h c (by simp)),ih fun d hd=>h d (by simp [hd])]
theorem op_cnt {l:List Nat}:∀{n:Int},allL l→cntS (-n) (l.map op) = -cntS n l:=by
  induction l with
  | nil=>intro n _;rfl
  | cons c l ih =>
    intro n h
    show cntS (if op c=97∨op c=98 then -n+1 else -n-1) (l.map op) = -cntS (if c=97∨c=98 then n+1 else n-1) l
    have ih2:=fun n=>ih (n:=n) fun d hd=>h d (by simp [hd])
    rcases h c (by simp) with rfl | rfl | rfl | rfl
    · rw [op97,if_neg (by omega),if_pos (by omega),←ih2];congr 1;omega
    · rw [op65,if_pos (by omega),if_neg (by omega),←ih2];congr 1;omega
    · rw [op98,if_neg (by omega),if_pos (by omega),←ih2];congr 1;omega
    · rw [op66,if_pos (by omega),if_neg (by omega),←ih2];congr 1;omega
theorem g_cj {m:M4}:gE m.cj=gE m∧gF m.cj = -gF m∧gG m.cj=gG m:=by
  refine ⟨?_,?_,?_⟩<;>simp only [gE,gF,gG,M4.cj,Int.neg_mul,Int.mul_neg,Int.neg_neg]<;>omega
theorem nf_mirror {u:ByteArray}(hu:vld u=true):(3*(nf (chT (mp oppF u)) u.size).k+(nf (chT (mp oppF u)) u.size).R.length = -(3*(nf (chT u) u.size).k+(nf (chT u) u.size).R.length)) ∧
    ((nf (chT u) u.size).R=[]→(nf (chT (mp oppF u)) u.size).R=[]):=by
  have hv:=vld_opp hu
  have hz:(mp oppF u).size=u.size:=mp_size
  have hal:=allL_vld hu
  have c1:=nf_cnt (f:=chT u) u.size fun i hi=>vld_at hu hi
  have c2:=nf_cnt (f:=chT (mp oppF u)) (mp oppF u).size fun i hi=>vld_at hv hi
  have m1:=nf_mat (f:=chT u) u.size fun i hi=>vld_at hu hi
  have m2:=nf_mat (f:=chT (mp oppF u)) (mp oppF u).size fun i hi=>vld_at hv hi
  rw [mat_all] at m1 m2
  rw [cnt_all] at c1 c2
  rw [lst_opp hu] at m2 c2
  have e1:=cj_mat (m:=.one) hal
  have e2:=op_cnt (n:=0) hal
  have e3:M4.one.cj=M4.one:=rfl
  rw [e3] at e1
  rw [Int.neg_zero] at e2
  rw [e1] at m2
  rw [e2] at c2
  rw [hz] at c2 m2
  obtain ⟨p2,k2⟩:=nf_ok (f:=chT (mp oppF u)) u.size
  generalize nf (chT (mp oppF u)) u.size=y at *
  generalize nf (chT u) u.size=x at *
  refine ⟨by omega,fun hR => ?_⟩
  have g0:gE M4.one=1∧gF M4.one=0∧gG M4.one=1:=by decide
  obtain ⟨a1,a2,a3⟩:=g_tfk (m:=matR y.R) (k:=y.k)
  obtain ⟨b1,b2,b3⟩:=g_tfk (m:=matR x.R) (k:=x.k)
  obtain ⟨d1,d2,d3⟩:=g_cj (m:=matL .one (lst u))
  rw [m2] at a1 a2 a3
  rw [m1] at b1 b2 b3
  rw [hR] at b1 b2 b3
  have e4:matR []=M4.one:=rfl
  rw [e4] at b1 b2 b3
  exact uniq p2 k2 (S:=[]) (fun c hc=>absurd hc (by simp)) trivial (by rw [e4];omega) (by rw [e4];omega) (by rw [e4];omega)
def NF.flN (x:NF):NF:=⟨x.k,x.R.map fl⟩
theorem cross_fl {c:Nat}(hc:isP c){x:NF}(h:allP x.R):(x.flN).cross (fl c)=(x.cross c).flN:=by
  obtain ⟨k,R⟩:=x
  match R,h with
  | [],_=>rfl
  | [_],_=>rfl
  | o :: d :: r,h =>
    have ho:=h o (by simp)
    have hd:=h d (by simp)
    simp only [NF.cross,NF.flN,List.map_cons]
    by_cases hq:d=c∧o≠c
    · rw [if_pos hq,if_pos ⟨by rw [hq.1],fun e=>hq.2 (fl_inj ho hc e)⟩]
    · rw [if_neg hq,if_neg (fun hh=>hq ⟨fl_inj hd hc hh.1,fun e=>hh.2 (by rw [e])⟩)]
      rfl
theorem untw_fl {x:NF}:(x.flN).untw=(x.untw).flN:=rfl
theorem stp_fl {c:Nat}(hc:isLet c){x:NF}(h:x.Ok):(x.flN).stp (ne c)=(x.stp c).flN:=by
  have e1:ne 97=98:=rfl
  have e2:ne 65=66:=rfl
  have e3:ne 98=97:=rfl
  have e4:ne 66=65:=rfl
  have ho:=NF.untw_ok h
  have h97:=NF.cross_ok (c:=97) (Or.inl rfl) ho
  have h98:=NF.cross_ok (c:=98) (Or.inr rfl) ho
  rcases hc with rfl | rfl | rfl | rfl
  · rw [e1];exact cross_fl (c:=97) (Or.inl rfl) h.1
  · rw [e2]
    show ((x.flN.untw).cross 98).cross 97=((x.untw.cross 97).cross 98).flN
    rw [untw_fl]
    have q1:=cross_fl (c:=97) (Or.inl rfl) ho.1
    have q2:=cross_fl (c:=98) (Or.inr rfl) h97.1
    rw [fl97] at q1
    rw [fl98] at q2
    rw [q1,q2]
  · rw [e3];exact cross_fl (c:=98) (Or.inr rfl) h.1
  · rw [e4]
    show ((x.flN.untw).cross 97).cross 98=((x.untw.cross 98).cross 97).flN
    rw [untw_fl]
    have q1:=cross_fl (c:=98) (Or.inr rfl) ho.1
    have q2:=cross_fl (c:=97) (Or.inl rfl) h98.1
    rw [fl98] at q1
    rw [fl97] at q2
    rw [q1,q2]
theorem nfL_fl {l:List Nat}:∀{x:NF},allL l→x.Ok→nfL x.flN (l.map ne)=(nfL x l).flN:=by
  induction l with
  | nil=>intro x _ _;rfl
  | cons c l ih =>
    intro x hl hx
    show nfL (x.flN.stp (ne c)) (l.map ne)=(nfL (x.stp c) l).flN
    rw [stp_fl (hl c (by simp)) hx,ih (fun d hd=>hl d (by simp [hd])) (NF.stp_ok hx)]
theorem nf_flip {u:ByteArray}(hu:vld u=true):nf (chT (mp neiF u)) (mp neiF u).size=(nf (chT u) u.size).flN:=by
  rw [nf_all,nf_all,lst_nei hu]
  have h0:NF.Ok ⟨0,[]⟩:=⟨fun c hc=>absurd hc (by simp),trivial⟩
  exact nfL_fl (allL_vld hu) h0
theorem vld_ltr {s:ByteArray}(h:ltr s)(hb:s.size≤60):vld s=true:=by
  have key:∀n,n≤s.size→allN (letB s) n=true:=by
    intro n
    induction n with
    | zero=>intro _;rfl
    | succ n ih =>
      intro hn
      simp only [allN,ih (by omega),Bool.true_and,letB]
      exact h n (by omega)
  rw [vld,key _ (Nat.le_refl _),Bool.true_and]
  exact decide_eq_true hb
theorem parse_vld {s t:ByteArray} (h:parseP s=some (t,0)):vld t=true:=by
  unfold parseP at h
  split at h
  · split at h
    · rename_i r hr
      obtain ⟨a1,a2,a3,a4,a5⟩:=(read_ok (fuelP s)).1 s 0 0 _ 0 r hr (Nat.zero_le _) (by omega) ltr_nil rfl
      split at h
      · simp at h
      · split at h
        · rename_i h6;simp at h;subst h;exact vld_ltr a3 h6
        · simp at h
    · simp at h
    · cases h
  · simp at h
theorem norV_1 {s:ByteArray}(h:vld s=true):norV s=.tup [.int .i64 (nf (chT s) s.size).k,.str (tR (nf (chT s) s.size).R),.int .i64 0]:=by simp [norV,h]
theorem top_style {H:Hp}{lim:Nat}:True:=trivial
def w2t:ByteArray:=⟨[98,97,98].toArray⟩
def wabAB:ByteArray:=⟨[97,98,65,66].toArray⟩
theorem same_aba:samV wAba w2t=.tup [.bool true,.int .i64 0]:=by
  have v2:vld w2t=true:=by decide
  have e:eqv wAba w2t=true:=eqv_of vld_aba v2 (Act.tw.1 _) (Act.tw.2.1 _)
  simp [samV,vld_aba,v2,e]
theorem ext_rv {s:ByteArray}:rvB s=rvB s:=rfl
theorem law_TopPlaits {H:Hp} {lim:Nat} {s t:ByteArray} {v:V} {l:List Ch} {K:V→Hp→Prop} (hl:LstV chC H v l) (hH:HX glHp H) (hlim:lim≤H.length) (h1:s.size≤maxLen) (h2:t.size≤maxLen) (hK:∀X,K (.bool true) (H++X)):VCall tbl lim 16 [.str s,.str t,v] H K:=by
  have hc:=chk_of hH
  have e1:(⟨#[97,98,97]⟩:ByteArray)=wAba:=rfl
  have e2:(⟨#[98,97,98]⟩:ByteArray)=w2t:=rfl
  have e3:(⟨#[97,98,65,66]⟩:ByteArray)=wabAB:=rfl
  refine VCall_fn tbl_at16 rfl ?_
  simp [vf16,hl.len,hl.stor]
  rw [e1,e2]
  refine same_t hc hlim fun X1 => ?_
  rw [same_aba]
  by_cases hu:200<s.size
  · have hu':((200:Int)<(s.size:Int))=True:=eq_true (by omega)
    simp [hl.len,hl.stor,vlenT_str,hu']
    exact hK X1
  have hu':((200:Int)<(s.size:Int))=False:=eq_false (by omega)
  by_cases hw:2000<t.size
  · have hw':((2000:Int)<(t.size:Int))=True:=eq_true (by omega)
    simp [hl.len,hl.stor,vlenT_str,hu',hw']
    exact hK X1
  have hw':((2000:Int)<(t.size:Int))=False:=eq_false (by omega)
  by_cases hn:60<l.length
  · have hn':((60:Int)<(l.length:Int))=True:=eq_true (by omega)
    simp [hl.len,hl.stor,vlenT_str,hu',hw',hn']
    exact hK X1
  have hn':((60:Int)<(l.length:Int))=False:=eq_false (by omega)
  obtain ⟨u,e,hp⟩:=parseP_some t
  simp [hl.len,hl.stor,vlenT_str,hu',hw',hn']
  refine parse_t (chk_app hc) hp ?_
  by_cases he:e=0
  · subst he
    have hvu:=parse_vld hp
    have hvm0:=vld_opp hvu
    have m1:=norV_1 hvu
    have m2:=norV_1 hvm0
    have hzm:(mp oppF u).size=u.size:=mp_size
    rw [hzm] at m2
    obtain ⟨q1,q2⟩:=nf_mirror hvu
    have bd1:=nf_bd (f:=chT u) u.size
    have bd2:=nf_bd (f:=chT (mp oppF u)) u.size
    have hub:=vld_len hvu
    have wm:=wV_1 (t:=mp oppF u) hvu
    generalize nf (chT (mp oppF u)) u.size=y at m2 q1 q2 bd2
    generalize nf (chT u) u.size=x at m1 q1 q2 bd1
    obtain ⟨k1,R1⟩:=x
    obtain ⟨k2,R2⟩:=y
    simp only at m1 m2 q1 q2 bd1 bd2
    have z1:(tR R1).size=R1.length:=tR_size
    have z2:(tR R2).size=R2.length:=tR_size
    simp
    refine normal2_t (chk_app hc) (by simp;omega) fun X2 => ?_
    rw [m1]
    simp
    refine mirror2_t (chk_app hc) (by simp;omega) fun X3 => ?_
    rw [wm]
    simp
    refine normal2_t (chk_app hc) (by simp;omega) fun X4 => ?_
    rw [m2]
    have wn:IntKind.wrap .i64 (0-k1) = -k1:=by rw [wrap_i64 (by omega) (by omega)];omega
    have wn2:IntKind.wrap .i64 (-k1) = -k1:=wrap_i64 (by omega) (by omega)
    by_cases hR:R1=[]
    · have hR2:=q2 hR
      subst hR hR2
      have hk:k2 = -k1:=by simp at q1;omega
      subst hk
      have zz:(tR []).size=0:=rfl
      simp [vlenT_str,zz,wn,wn2]
      refine valid_t (by simp;omega) fun Y1 => ?_
      cases hv:vld s with
      | false =>
        simp
        exact hK _
      | true =>
        have hb:=vld_len hv
        have hvm:=vld_opp hv
        have hvf:=vld_nei hv
        have hn1:=norV_1 hv
        have hn2:=norV_1 hvf
        rw [nf_flip hv] at hn2
        obtain ⟨o1,o2⟩:=nf_ok (f:=chT s) s.size
        have htw:twiV s=.tup [.bool (decide ((nf (chT s) s.size).R=[])),.int .i64 0]:=by simp [twiV,hv]
        have bd:=nf_bd (f:=chT s) s.size
        simp [hl.len,hl.stor]
        refine law_PlaitChanges (hl.mono ⟨_,rfl⟩) (hH.trans ⟨_,rfl⟩) (by simp;omega) h1 fun Y2 => ?_
        simp
        rw [e3]
        refine law_PlaitSames (hH.trans ⟨_,rfl⟩) (by simp;omega) h1 (show (4:Nat)≤maxLen by decide) fun Y3 => ?_
        simp
        refine inverse2_t (chk_app hc) (by simp;omega) fun Y4 => ?_
        rw [wV_1 hv]
        simp
        refine mirror2_t (chk_app hc) (by simp;omega) fun Y5 => ?_
        rw [wV_1 hv]
        have hmz:(mp oppF s).size=s.size:=mp_size
        generalize hM:mp oppF s=mw at hmz
        simp
        generalize hZ:X1++(X2++(X3++(X4++(Y1++(Y2++(Y3++(Y4++Y5)))))))=Z
        refine wLoop_up s.size (fun i fr L H'=>(fr 0=.str s∧fr 19=.str (rvB mw)∧fr 20=.int .i64 0∧fr 21=.str mw∧fr 22=.int .i64 0∧fr 24=.int .i64 i)∧(∃t,fr 23=.str t∧t.size=i∧∀k,k<i→chT t k=chT mw (i-1-k))∧H'=H++Z∧i≤s.size) ⟨by simp,⟨_,by simp;rfl,rfl,fun k hk=>absurd hk (by omega)⟩,rfl,by omega⟩ ?_
        rintro i hi fr L H' ⟨⟨f0,f19,f20,f21,f22,f24⟩,⟨t',f23,ht,hq⟩,rfl,hle⟩
        by_cases hpp:i<s.size
        · have hp':((i:Int)<(s.size:Int))=True:=eq_true (by omega)
          obtain ⟨c1,c2⟩:=chT_cut (s:=mw) (i:=i) (by omega)
          have hsl:vslT (.str mw) (some (.int .i64 (i:Int))) (some (.int .i64 ((i:Int)+1)))=some (.str (mw.extract i (i+1))):=by
            simp only [vslT,vbounds,vint]
            rw [if_pos (by omega),if_pos (by omega)]
            have e1:((i:Int)+1).toNat=i+1:=by omega
            simp [e1]
          have ha:=vadd_str (a:=mw.extract i (i+1)) (b:=t') (by rw [c1,ht];omega)
          have hsz:(mw.extract i (i+1)++t').size=i+1:=by rw [size_app,c1,ht];omega
          have fin:∀k,k<i+1→chT (mw.extract i (i+1)++t') k=chT mw (i+1-1-k):=by
            intro k hk
            rw [chT_app,c1]
            split
            · have:k=0:=by omega
              subst this
              rw [c2];congr 1
            · rw [hq (k-1) (by omega)];congr 1;omega
          generalize mw.extract i (i+1)++t'=t2 at ha fin hsz
          simp (disch:=omega) [f0,f19,f20,f21,f22,f23,f24,hp',hsl,ha,wrap_i64,vlenT_str,hmz]
          exact ⟨hpp,⟨hsz,by simpa using fin⟩,hpp⟩
        · have hp':((i:Int)<(s.size:Int))=False:=eq_false (by omega)
          have hi:i=s.size:=by omega
          have hrv:t'=rvB mw:=rvB_of (by omega) (fun k hk=>by rw [hq k (by omega)];congr 1;omega)
          subst hrv
          have hcH:chkU8 (H++Z)=true:=chk_app hc
          have hlZ:lim≤(H++Z).length:=by simp;omega
          simp [f0,f19,f20,f21,f22,f23,f24,hp',vlenT_str,hmz]
          refine normal2_t hcH hlZ fun Z1 => ?_
          rw [hn1]
          simp [f0]
          refine isTwist_t (chk_app hc) (by simp;omega) fun Z2 => ?_
          rw [htw]
          simp [f0]
          refine flip2_t (chk_app hc) (by simp;omega) fun Z3 => ?_
          rw [wV_1 hv]
          simp
          refine normal2_t (chk_app hc) (by simp;omega) fun Z4 => ?_
          rw [hn2]
          generalize nf (chT s) s.size=x at o1 o2 bd
          obtain ⟨k,R⟩:=x
          simp only [NF.flN] at o1 o2 bd ⊢
          have hz:(tR R).size=R.length:=tR_size
          have pR:=allP_rev o1
          have gd:∀j,j<R.length→isP (R.reverse.getD j 0):=fun j hj=>getD_P pR (by rw [List.length_reverse];exact hj)
          have ix:∀j:Nat,j<R.length→vidxT (.str (tR R)) (.int .i64 (j:Int))=some (.int .u8 (R.reverse.getD j 0:Nat)):=fun j hj=>by
            rw [idxT (by rw [hz];exact hj)]
            have hb2:R.reverse.getD j 0<256:=by rcases gd j hj with e | e<;>omega
            rw [show chT (tR R) j=R.reverse.getD j 0 from chT_tx (by rw [List.length_reverse];exact hj) hb2]
          simp [f0]
          generalize hW:Z++(Z1++(Z2++(Z3++Z4)))=W
          refine wLoop_up R.length (fun i fr L H'=>(fr 19=.str (rvB mw)∧fr 20=.int .i64 0∧fr 22=.int .i64 0∧fr 23=.str (rvB mw)∧fr 25=.int .i64 k∧fr 26=.str (tR R)∧fr 27=.int .i64 0∧fr 28=.bool (decide (R=[]))∧fr 29=.int .i64 0∧fr 31=.int .i64 0∧fr 32=.int .i64 k∧fr 33=.str (tR (R.map fl))∧fr 34=.int .i64 0∧fr 35=.str (tx ((R.reverse.take i).map fl))∧fr 36=.int .i64 i)∧H'=H++W∧i≤R.length) ⟨by simp [f19,f20,f22,f23];rfl,rfl,by omega⟩ ?_
          rintro j hj fr3 L3 H' ⟨⟨g19,g20,g22,g23,g25,g26,g27,g28,g29,g31,g32,g33,g34,g35,g36⟩,rfl,hle3⟩
          by_cases hj2:j<R.length
          · have hj':((j:Int)<(R.length:Int))=True:=eq_true (by omega)
            have x0:=ix j hj2
            have p0:=gd j hj2
            have tk:(R.reverse.take (j+1)).map fl=(R.reverse.take j).map fl++[fl (R.reverse.getD j 0)]:=by
              rw [List.take_add_one,List.map_append,List.getD_eq_getElem?_getD,List.getElem?_eq_getElem (by rw [List.length_reverse];exact hj2)];rfl
            rw [tk]
            have hlen:((R.reverse.take j).map fl).length≤200:=by simp;omega
            generalize (R.reverse.take j).map fl=A at hlen g35
            generalize R.reverse.getD j 0=c0 at x0 p0
            have a1:=vadd_tx (l:=A) (k:=[98]) (by simp;omega)
            have a2:=vadd_tx (l:=A) (k:=[97]) (by simp;omega)
            rw [show tx [98]=⟨[98].toArray⟩ from rfl] at a1
            rw [show tx [97]=⟨[97].toArray⟩ from rfl] at a2
            rcases p0 with rfl | rfl
            · simp (disch:=omega) [g19,g20,g22,g23,g25,g26,g27,g28,g29,g31,g32,g33,g34,g35,g36,hj',x0,vlenT_str,hz,a1,wrap_i64,fl97]
              exact ⟨hj2,hj2⟩
            · simp (disch:=omega) [g19,g20,g22,g23,g25,g26,g27,g28,g29,g31,g32,g33,g34,g35,g36,hj',x0,vlenT_str,hz,a2,wrap_i64,fl98]
              exact ⟨hj2,hj2⟩
          · have hj':((j:Int)<(R.length:Int))=False:=eq_false (by omega)
            have hjj:j=R.length:=by omega
            subst hjj
            have e4:(R.reverse.take R.length).map fl=(R.map fl).reverse:=by
              rw [List.take_of_length_le (by rw [List.length_reverse];exact Nat.le_refl _),List.map_reverse]
            rw [e4] at g35
            have g35:fr3 35=.str (tR (R.map fl)):=g35
            have qe:=veq_tR (R:=R) (S:=[]) o1 (fun c hc=>absurd hc (by simp))
            rw [show tR []=⟨[].toArray⟩ from rfl] at qe
            simp [g19,g20,g22,g23,g25,g26,g27,g28,g29,g31,g32,g33,g34,g35,g36,hj',vlenT_str,hz,qe,veq_self,veqB]
            exact hK W
    · have hlen : 0<R1.length:=by
        cases R1 with
        | nil=>exact absurd rfl hR
        | cons _ _=>simp
      have g1:((0:Int)<(R1.length:Int))=True:=eq_true (by omega)
      have g2:((R1.length:Int)=0)=False:=eq_false (by omega)
      by_cases hk:0<k1
      · have g3 : ((0:Int)≤k2)=False:=eq_false (by omega)
        simp [vlenT_str,z1,z2,g1,g2,g3,hk,hR,wn,wn2]
        refine valid_t (by simp;omega) fun Y1 => ?_
        cases hv:vld s with
        | false =>
          simp
          exact hK _
        | true =>
          have hb:=vld_len hv
          have hvm:=vld_opp hv
          have hvf:=vld_nei hv
          have hn1:=norV_1 hv
          have hn2:=norV_1 hvf
          rw [nf_flip hv] at hn2
          obtain ⟨o1,o2⟩:=nf_ok (f:=chT s) s.size
          have htw:twiV s=.tup [.bool (decide ((nf (chT s) s.size).R=[])),.int .i64 0]:=by simp [twiV,hv]
          have bd:=nf_bd (f:=chT s) s.size
          simp [hl.len,hl.stor]
          refine law_PlaitChanges (hl.mono ⟨_,rfl⟩) (hH.trans ⟨_,rfl⟩) (by simp;omega) h1 fun Y2 => ?_
          simp
          rw [e3]
          refine law_PlaitSames (hH.trans ⟨_,rfl⟩) (by simp;omega) h1 (show (4:Nat)≤maxLen by decide) fun Y3 => ?_
          simp
          refine inverse2_t (chk_app hc) (by simp;omega) fun Y4 => ?_
          rw [wV_1 hv]
          simp
          refine mirror2_t (chk_app hc) (by simp;omega) fun Y5 => ?_
          rw [wV_1 hv]
          have hmz:(mp oppF s).size=s.size:=mp_size
          generalize hM:mp oppF s=mw at hmz
          simp
          generalize hZ:X1++(X2++(X3++(X4++(Y1++(Y2++(Y3++(Y4++Y5)))))))=Z
          refine wLoop_up s.size (fun i fr L H'=>(fr 0=.str s∧fr 19=.str (rvB mw)∧fr 20=.int .i64 0∧fr 21=.str mw∧fr 22=.int .i64 0∧fr 24=.int .i64 i)∧(∃t,fr 23=.str t∧t.size=i∧∀k,k<i→chT t k=chT mw (i-1-k))∧H'=H++Z∧i≤s.size) ⟨by simp,⟨_,by simp;rfl,rfl,fun k hk=>absurd hk (by omega)⟩,rfl,by omega⟩ ?_
          rintro i hi fr L H' ⟨⟨f0,f19,f20,f21,f22,f24⟩,⟨t',f23,ht,hq⟩,rfl,hle⟩
          by_cases hpp:i<s.size
          · have hp':((i:Int)<(s.size:Int))=True:=eq_true (by omega)
            obtain ⟨c1,c2⟩:=chT_cut (s:=mw) (i:=i) (by omega)
            have hsl:vslT (.str mw) (some (.int .i64 (i:Int))) (some (.int .i64 ((i:Int)+1)))=some (.str (mw.extract i (i+1))):=by
              simp only [vslT,vbounds,vint]
              rw [if_pos (by omega),if_pos (by omega)]
              have e1:((i:Int)+1).toNat=i+1:=by omega
              simp [e1]
            have ha:=vadd_str (a:=mw.extract i (i+1)) (b:=t') (by rw [c1,ht];omega)
            have hsz:(mw.extract i (i+1)++t').size=i+1:=by rw [size_app,c1,ht];omega
            have fin:∀k,k<i+1→chT (mw.extract i (i+1)++t') k=chT mw (i+1-1-k):=by
              intro k hk
              rw [chT_app,c1]
              split
              · have:k=0:=by omega
                subst this
                rw [c2];congr 1
              · rw [hq (k-1) (by omega)];congr 1;omega
            generalize mw.extract i (i+1)++t'=t2 at ha fin hsz
            simp (disch:=omega) [f0,f19,f20,f21,f22,f23,f24,hp',hsl,ha,wrap_i64,vlenT_str,hmz]
            exact ⟨hpp,⟨hsz,by simpa using fin⟩,hpp⟩
          · have hp':((i:Int)<(s.size:Int))=False:=eq_false (by omega)
            have hi:i=s.size:=by omega
            have hrv:t'=rvB mw:=rvB_of (by omega) (fun k hk=>by rw [hq k (by omega)];congr 1;omega)
            subst hrv
            have hcH:chkU8 (H++Z)=true:=chk_app hc
            have hlZ:lim≤(H++Z).length:=by simp;omega
            simp [f0,f19,f20,f21,f22,f23,f24,hp',vlenT_str,hmz]
            refine normal2_t hcH hlZ fun Z1 => ?_
            rw [hn1]
            simp [f0]
            refine isTwist_t (chk_app hc) (by simp;omega) fun Z2 => ?_
            rw [htw]
            simp [f0]
            refine flip2_t (chk_app hc) (by simp;omega) fun Z3 => ?_
            rw [wV_1 hv]
            simp
            refine normal2_t (chk_app hc) (by simp;omega) fun Z4 => ?_
            rw [hn2]
            generalize nf (chT s) s.size=x at o1 o2 bd
            obtain ⟨k,R⟩:=x
            simp only [NF.flN] at o1 o2 bd ⊢
            have hz:(tR R).size=R.length:=tR_size
            have pR:=allP_rev o1
            have gd:∀j,j<R.length→isP (R.reverse.getD j 0):=fun j hj=>getD_P pR (by rw [List.length_reverse];exact hj)
            have ix:∀j:Nat,j<R.length→vidxT (.str (tR R)) (.int .i64 (j:Int))=some (.int .u8 (R.reverse.getD j 0:Nat)):=fun j hj=>by
              rw [idxT (by rw [hz];exact hj)]
              have hb2:R.reverse.getD j 0<256:=by rcases gd j hj with e | e<;>omega
              rw [show chT (tR R) j=R.reverse.getD j 0 from chT_tx (by rw [List.length_reverse];exact hj) hb2]
            simp [f0]
            generalize hW:Z++(Z1++(Z2++(Z3++Z4)))=W
            refine wLoop_up R.length (fun i fr L H'=>(fr 19=.str (rvB mw)∧fr 20=.int .i64 0∧fr 22=.int .i64 0∧fr 23=.str (rvB mw)∧fr 25=.int .i64 k∧fr 26=.str (tR R)∧fr 27=.int .i64 0∧fr 28=.bool (decide (R=[]))∧fr 29=.int .i64 0∧fr 31=.int .i64 0∧fr 32=.int .i64 k∧fr 33=.str (tR (R.map fl))∧fr 34=.int .i64 0∧fr 35=.str (tx ((R.reverse.take i).map fl))∧fr 36=.int .i64 i)∧H'=H++W∧i≤R.length) ⟨by simp [f19,f20,f22,f23];rfl,rfl,by omega⟩ ?_
            rintro j hj fr3 L3 H' ⟨⟨g19,g20,g22,g23,g25,g26,g27,g28,g29,g31,g32,g33,g34,g35,g36⟩,rfl,hle3⟩
            by_cases hj2:j<R.length
            · have hj':((j:Int)<(R.length:Int))=True:=eq_true (by omega)
              have x0:=ix j hj2
              have p0:=gd j hj2
              have tk:(R.reverse.take (j+1)).map fl=(R.reverse.take j).map fl++[fl (R.reverse.getD j 0)]:=by
                rw [List.take_add_one,List.map_append,List.getD_eq_getElem?_getD,List.getElem?_eq_getElem (by rw [List.length_reverse];exact hj2)];rfl
              rw [tk]
              have hlen:((R.reverse.take j).map fl).length≤200:=by simp;omega
              generalize (R.reverse.take j).map fl=A at hlen g35
              generalize R.reverse.getD j 0=c0 at x0 p0
              have a1:=vadd_tx (l:=A) (k:=[98]) (by simp;omega)
              have a2:=vadd_tx (l:=A) (k:=[97]) (by simp;omega)
              rw [show tx [98]=⟨[98].toArray⟩ from rfl] at a1
              rw [show tx [97]=⟨[97].toArray⟩ from rfl] at a2
              rcases p0 with rfl | rfl
              · simp (disch:=omega) [g19,g20,g22,g23,g25,g26,g27,g28,g29,g31,g32,g33,g34,g35,g36,hj',x0,vlenT_str,hz,a1,wrap_i64,fl97]
                exact ⟨hj2,hj2⟩
              · simp (disch:=omega) [g19,g20,g22,g23,g25,g26,g27,g28,g29,g31,g32,g33,g34,g35,g36,hj',x0,vlenT_str,hz,a2,wrap_i64,fl98]
                exact ⟨hj2,hj2⟩
            · have hj':((j:Int)<(R.length:Int))=False:=eq_false (by omega)
              have hjj:j=R.length:=by omega
              subst hjj
              have e4:(R.reverse.take R.length).map fl=(R.map fl).reverse:=by
                rw [List.take_of_length_le (by rw [List.length_reverse];exact Nat.le_refl _),List.map_reverse]
              rw [e4] at g35
              have g35:fr3 35=.str (tR (R.map fl)):=g35
              have qe:=veq_tR (R:=R) (S:=[]) o1 (fun c hc=>absurd hc (by simp))
              rw [show tR []=⟨[].toArray⟩ from rfl] at qe
              simp [g19,g20,g22,g23,g25,g26,g27,g28,g29,g31,g32,g33,g34,g35,g36,hj',vlenT_str,hz,qe,veq_self,veqB]
              exact hK W
      · simp [vlenT_str,z1,z2,g1,g2,hk,hR,wn,wn2]
        refine valid_t (by simp;omega) fun Y1 => ?_
        cases hv:vld s with
        | false =>
          simp
          exact hK _
        | true =>
          have hb:=vld_len hv
          have hvm:=vld_opp hv
          have hvf:=vld_nei hv
          have hn1:=norV_1 hv
          have hn2:=norV_1 hvf
          rw [nf_flip hv] at hn2
          obtain ⟨o1,o2⟩:=nf_ok (f:=chT s) s.size
          have htw:twiV s=.tup [.bool (decide ((nf (chT s) s.size).R=[])),.int .i64 0]:=by simp [twiV,hv]
          have bd:=nf_bd (f:=chT s) s.size
          simp [hl.len,hl.stor]
          refine law_PlaitChanges (hl.mono ⟨_,rfl⟩) (hH.trans ⟨_,rfl⟩) (by simp;omega) h1 fun Y2 => ?_
          simp
          rw [e3]
          refine law_PlaitSames (hH.trans ⟨_,rfl⟩) (by simp;omega) h1 (show (4:Nat)≤maxLen by decide) fun Y3 => ?_
          simp
          refine inverse2_t (chk_app hc) (by simp;omega) fun Y4 => ?_
          rw [wV_1 hv]
          simp
          refine mirror2_t (chk_app hc) (by simp;omega) fun Y5 => ?_
          rw [wV_1 hv]
          have hmz:(mp oppF s).size=s.size:=mp_size
          generalize hM:mp oppF s=mw at hmz
          simp
          generalize hZ:X1++(X2++(X3++(X4++(Y1++(Y2++(Y3++(Y4++Y5)))))))=Z
          refine wLoop_up s.size (fun i fr L H'=>(fr 0=.str s∧fr 19=.str (rvB mw)∧fr 20=.int .i64 0∧fr 21=.str mw∧fr 22=.int .i64 0∧fr 24=.int .i64 i)∧(∃t,fr 23=.str t∧t.size=i∧∀k,k<i→chT t k=chT mw (i-1-k))∧H'=H++Z∧i≤s.size) ⟨by simp,⟨_,by simp;rfl,rfl,fun k hk=>absurd hk (by omega)⟩,rfl,by omega⟩ ?_
          rintro i hi fr L H' ⟨⟨f0,f19,f20,f21,f22,f24⟩,⟨t',f23,ht,hq⟩,rfl,hle⟩
          by_cases hpp:i<s.size
          · have hp':((i:Int)<(s.size:Int))=True:=eq_true (by omega)
            obtain ⟨c1,c2⟩:=chT_cut (s:=mw) (i:=i) (by omega)
            have hsl:vslT (.str mw) (some (.int .i64 (i:Int))) (some (.int .i64 ((i:Int)+1)))=some (.str (mw.extract i (i+1))):=by
              simp only [vslT,vbounds,vint]
              rw [if_pos (by omega),if_pos (by omega)]
              have e1:((i:Int)+1).toNat=i+1:=by omega
              simp [e1]
            have ha:=vadd_str (a:=mw.extract i (i+1)) (b:=t') (by rw [c1,ht];omega)
            have hsz:(mw.extract i (i+1)++t').size=i+1:=by rw [size_app,c1,ht];omega
            have fin:∀k,k<i+1→chT (mw.extract i (i+1)++t') k=chT mw (i+1-1-k):=by
              intro k hk
              rw [chT_app,c1]
              split
              · have:k=0:=by omega
                subst this
                rw [c2];congr 1
              · rw [hq (k-1) (by omega)];congr 1;omega
            generalize mw.extract i (i+1)++t'=t2 at ha fin hsz
            simp (disch:=omega) [f0,f19,f20,f21,f22,f23,f24,hp',hsl,ha,wrap_i64,vlenT_str,hmz]
            exact ⟨hpp,⟨hsz,by simpa using fin⟩,hpp⟩
          · have hp':((i:Int)<(s.size:Int))=False:=eq_false (by omega)
            have hi:i=s.size:=by omega
            have hrv:t'=rvB mw:=rvB_of (by omega) (fun k hk=>by rw [hq k (by omega)];congr 1;omega)
            subst hrv
            have hcH:chkU8 (H++Z)=true:=chk_app hc
            have hlZ:lim≤(H++Z).length:=by simp;omega
            simp [f0,f19,f20,f21,f22,f23,f24,hp',vlenT_str,hmz]
            refine normal2_t hcH hlZ fun Z1 => ?_
            rw [hn1]
            simp [f0]
            refine isTwist_t (chk_app hc) (by simp;omega) fun Z2 => ?_
            rw [htw]
            simp [f0]
            refine flip2_t (chk_app hc) (by simp;omega) fun Z3 => ?_
            rw [wV_1 hv]
            simp
            refine normal2_t (chk_app hc) (by simp;omega) fun Z4 => ?_
            rw [hn2]
            generalize nf (chT s) s.size=x at o1 o2 bd
            obtain ⟨k,R⟩:=x
            simp only [NF.flN] at o1 o2 bd ⊢
            have hz:(tR R).size=R.length:=tR_size
            have pR:=allP_rev o1
            have gd:∀j,j<R.length→isP (R.reverse.getD j 0):=fun j hj=>getD_P pR (by rw [List.length_reverse];exact hj)
            have ix:∀j:Nat,j<R.length→vidxT (.str (tR R)) (.int .i64 (j:Int))=some (.int .u8 (R.reverse.getD j 0:Nat)):=fun j hj=>by
              rw [idxT (by rw [hz];exact hj)]
              have hb2:R.reverse.getD j 0<256:=by rcases gd j hj with e | e<;>omega
              rw [show chT (tR R) j=R.reverse.getD j 0 from chT_tx (by rw [List.length_reverse];exact hj) hb2]
            simp [f0]
            generalize hW:Z++(Z1++(Z2++(Z3++Z4)))=W
            refine wLoop_up R.length (fun i fr L H'=>(fr 19=.str (rvB mw)∧fr 20=.int .i64 0∧fr 22=.int .i64 0∧fr 23=.str (rvB mw)∧fr 25=.int .i64 k∧fr 26=.str (tR R)∧fr 27=.int .i64 0∧fr 28=.bool (decide (R=[]))∧fr 29=.int .i64 0∧fr 31=.int .i64 0∧fr 32=.int .i64 k∧fr 33=.str (tR (R.map fl))∧fr 34=.int .i64 0∧fr 35=.str (tx ((R.reverse.take i).map fl))∧fr 36=.int .i64 i)∧H'=H++W∧i≤R.length) ⟨by simp [f19,f20,f22,f23];rfl,rfl,by omega⟩ ?_
            rintro j hj fr3 L3 H' ⟨⟨g19,g20,g22,g23,g25,g26,g27,g28,g29,g31,g32,g33,g34,g35,g36⟩,rfl,hle3⟩
            by_cases hj2:j<R.length
            · have hj':((j:Int)<(R.length:Int))=True:=eq_true (by omega)
              have x0:=ix j hj2
              have p0:=gd j hj2
              have tk:(R.reverse.take (j+1)).map fl=(R.reverse.take j).map fl++[fl (R.reverse.getD j 0)]:=by
                rw [List.take_add_one,List.map_append,List.getD_eq_getElem?_getD,List.getElem?_eq_getElem (by rw [List.length_reverse];exact hj2)];rfl
              rw [tk]
              have hlen:((R.reverse.take j).map fl).length≤200:=by simp;omega
              generalize (R.reverse.take j).map fl=A at hlen g35
              generalize R.reverse.getD j 0=c0 at x0 p0
              have a1:=vadd_tx (l:=A) (k:=[98]) (by simp;omega)
              have a2:=vadd_tx (l:=A) (k:=[97]) (by simp;omega)
              rw [show tx [98]=⟨[98].toArray⟩ from rfl] at a1
              rw [show tx [97]=⟨[97].toArray⟩ from rfl] at a2
              rcases p0 with rfl | rfl
              · simp (disch:=omega) [g19,g20,g22,g23,g25,g26,g27,g28,g29,g31,g32,g33,g34,g35,g36,hj',x0,vlenT_str,hz,a1,wrap_i64,fl97]
                exact ⟨hj2,hj2⟩
              · simp (disch:=omega) [g19,g20,g22,g23,g25,g26,g27,g28,g29,g31,g32,g33,g34,g35,g36,hj',x0,vlenT_str,hz,a2,wrap_i64,fl98]
                exact ⟨hj2,hj2⟩
            · have hj':((j:Int)<(R.length:Int))=False:=eq_false (by omega)
              have hjj:j=R.length:=by omega
              subst hjj
              have e4:(R.reverse.take R.length).map fl=(R.map fl).reverse:=by
                rw [List.take_of_length_le (by rw [List.length_reverse];exact Nat.le_refl _),List.map_reverse]
              rw [e4] at g35
              have g35:fr3 35=.str (tR (R.map fl)):=g35
              have qe:=veq_tR (R:=R) (S:=[]) o1 (fun c hc=>absurd hc (by simp))
              rw [show tR []=⟨[].toArray⟩ from rfl] at qe
              simp [g19,g20,g22,g23,g25,g26,g27,g28,g29,g31,g32,g33,g34,g35,g36,hj',vlenT_str,hz,qe,veq_self,veqB]
              exact hK W
  · have he':(e=0)=False:=eq_false he
    simp [he']
    refine valid_t (by simp;omega) fun Y1 => ?_
    cases hv:vld s with
    | false =>
      simp
      exact hK _
    | true =>
      have hb:=vld_len hv
      have hvm:=vld_opp hv
      have hvf:=vld_nei hv
      have hn1:=norV_1 hv
      have hn2:=norV_1 hvf
      rw [nf_flip hv] at hn2
      obtain ⟨o1,o2⟩:=nf_ok (f:=chT s) s.size
      have htw:twiV s=.tup [.bool (decide ((nf (chT s) s.size).R=[])),.int .i64 0]:=by simp [twiV,hv]
      have bd:=nf_bd (f:=chT s) s.size
      simp [hl.len,hl.stor]
      refine law_PlaitChanges (hl.mono ⟨_,rfl⟩) (hH.trans ⟨_,rfl⟩) (by simp;omega) h1 fun Y2 => ?_
      simp
      rw [e3]
      refine law_PlaitSames (hH.trans ⟨_,rfl⟩) (by simp;omega) h1 (show (4:Nat)≤maxLen by decide) fun Y3 => ?_
      simp
      refine inverse2_t (chk_app hc) (by simp;omega) fun Y4 => ?_
      rw [wV_1 hv]
      simp
      refine mirror2_t (chk_app hc) (by simp;omega) fun Y5 => ?_
      rw [wV_1 hv]
      have hmz:(mp oppF s).size=s.size:=mp_size
      generalize hM:mp oppF s=mw at hmz
      simp
      generalize hZ:X1++(Y1++(Y2++(Y3++(Y4++Y5))))=Z
      refine wLoop_up s.size (fun i fr L H'=>(fr 0=.str s∧fr 19=.str (rvB mw)∧fr 20=.int .i64 0∧fr 21=.str mw∧fr 22=.int .i64 0∧fr 24=.int .i64 i)∧(∃t,fr 23=.str t∧t.size=i∧∀k,k<i→chT t k=chT mw (i-1-k))∧H'=H++Z∧i≤s.size) ⟨by simp,⟨_,by simp;rfl,rfl,fun k hk=>absurd hk (by omega)⟩,rfl,by omega⟩ ?_
      rintro i hi fr L H' ⟨⟨f0,f19,f20,f21,f22,f24⟩,⟨t',f23,ht,hq⟩,rfl,hle⟩
      by_cases hpp:i<s.size
      · have hp':((i:Int)<(s.size:Int))=True:=eq_true (by omega)
        obtain ⟨c1,c2⟩:=chT_cut (s:=mw) (i:=i) (by omega)
        have hsl:vslT (.str mw) (some (.int .i64 (i:Int))) (some (.int .i64 ((i:Int)+1)))=some (.str (mw.extract i (i+1))):=by
          simp only [vslT,vbounds,vint]
          rw [if_pos (by omega),if_pos (by omega)]
          have e1:((i:Int)+1).toNat=i+1:=by omega
          simp [e1]
        have ha:=vadd_str (a:=mw.extract i (i+1)) (b:=t') (by rw [c1,ht];omega)
        have hsz:(mw.extract i (i+1)++t').size=i+1:=by rw [size_app,c1,ht];omega
        have fin:∀k,k<i+1→chT (mw.extract i (i+1)++t') k=chT mw (i+1-1-k):=by
          intro k hk
          rw [chT_app,c1]
          split
          · have:k=0:=by omega
            subst this
            rw [c2];congr 1
          · rw [hq (k-1) (by omega)];congr 1;omega
        generalize mw.extract i (i+1)++t'=t2 at ha fin hsz
        simp (disch:=omega) [f0,f19,f20,f21,f22,f23,f24,hp',hsl,ha,wrap_i64,vlenT_str,hmz]
        exact ⟨hpp,⟨hsz,by simpa using fin⟩,hpp⟩
      · have hp':((i:Int)<(s.size:Int))=False:=eq_false (by omega)
        have hi:i=s.size:=by omega
        have hrv:t'=rvB mw:=rvB_of (by omega) (fun k hk=>by rw [hq k (by omega)];congr 1;omega)
        subst hrv
        have hcH:chkU8 (H++Z)=true:=chk_app hc
        have hlZ:lim≤(H++Z).length:=by simp;omega
        simp [f0,f19,f20,f21,f22,f23,f24,hp',vlenT_str,hmz]
        refine normal2_t hcH hlZ fun Z1 => ?_
        rw [hn1]
        simp [f0]
        refine isTwist_t (chk_app hc) (by simp;omega) fun Z2 => ?_
        rw [htw]
        simp [f0]
        refine flip2_t (chk_app hc) (by simp;omega) fun Z3 => ?_
        rw [wV_1 hv]
        simp
        refine normal2_t (chk_app hc) (by simp;omega) fun Z4 => ?_
        rw [hn2]
        generalize nf (chT s) s.size=x at o1 o2 bd
        obtain ⟨k,R⟩:=x
        simp only [NF.flN] at o1 o2 bd ⊢
        have hz:(tR R).size=R.length:=tR_size
        have pR:=allP_rev o1
        have gd:∀j,j<R.length→isP (R.reverse.getD j 0):=fun j hj=>getD_P pR (by rw [List.length_reverse];exact hj)
        have ix:∀j:Nat,j<R.length→vidxT (.str (tR R)) (.int .i64 (j:Int))=some (.int .u8 (R.reverse.getD j 0:Nat)):=fun j hj=>by
          rw [idxT (by rw [hz];exact hj)]
          have hb2:R.reverse.getD j 0<256:=by rcases gd j hj with e | e<;>omega
          rw [show chT (tR R) j=R.reverse.getD j 0 from chT_tx (by rw [List.length_reverse];exact hj) hb2]
        simp [f0]
        generalize hW:Z++(Z1++(Z2++(Z3++Z4)))=W
        refine wLoop_up R.length (fun i fr L H'=>(fr 19=.str (rvB mw)∧fr 20=.int .i64 0∧fr 22=.int .i64 0∧fr 23=.str (rvB mw)∧fr 25=.int .i64 k∧fr 26=.str (tR R)∧fr 27=.int .i64 0∧fr 28=.bool (decide (R=[]))∧fr 29=.int .i64 0∧fr 31=.int .i64 0∧fr 32=.int .i64 k∧fr 33=.str (tR (R.map fl))∧fr 34=.int .i64 0∧fr 35=.str (tx ((R.reverse.take i).map fl))∧fr 36=.int .i64 i)∧H'=H++W∧i≤R.length) ⟨by simp [f19,f20,f22,f23];rfl,rfl,by omega⟩ ?_
        rintro j hj fr3 L3 H' ⟨⟨g19,g20,g22,g23,g25,g26,g27,g28,g29,g31,g32,g33,g34,g35,g36⟩,rfl,hle3⟩
        by_cases hj2:j<R.length
        · have hj':((j:Int)<(R.length:Int))=True:=eq_true (by omega)
          have x0:=ix j hj2
          have p0:=gd j hj2
          have tk:(R.reverse.take (j+1)).map fl=(R.reverse.take j).map fl++[fl (R.reverse.getD j 0)]:=by
            rw [List.take_add_one,List.map_append,List.getD_eq_getElem?_getD,List.getElem?_eq_getElem (by rw [List.length_reverse];exact hj2)];rfl
          rw [tk]
          have hlen:((R.reverse.take j).map fl).length≤200:=by simp;omega
          generalize (R.reverse.take j).map fl=A at hlen g35
          generalize R.reverse.getD j 0=c0 at x0 p0
          have a1:=vadd_tx (l:=A) (k:=[98]) (by simp;omega)
          have a2:=vadd_tx (l:=A) (k:=[97]) (by simp;omega)
          rw [show tx [98]=⟨[98].toArray⟩ from rfl] at a1
          rw [show tx [97]=⟨[97].toArray⟩ from rfl] at a2
          rcases p0 with rfl | rfl
          · simp (disch:=omega) [g19,g20,g22,g23,g25,g26,g27,g28,g29,g31,g32,g33,g34,g35,g36,hj',x0,vlenT_str,hz,a1,wrap_i64,fl97]
            exact ⟨hj2,hj2⟩
          · simp (disch:=omega) [g19,g20,g22,g23,g25,g26,g27,g28,g29,g31,g32,g33,g34,g35,g36,hj',x0,vlenT_str,hz,a2,wrap_i64,fl98]
            exact ⟨hj2,hj2⟩
        · have hj':((j:Int)<(R.length:Int))=False:=eq_false (by omega)
          have hjj:j=R.length:=by omega
          subst hjj
          have e4:(R.reverse.take R.length).map fl=(R.map fl).reverse:=by
            rw [List.take_of_length_le (by rw [List.length_reverse];exact Nat.le_refl _),List.map_reverse]
          rw [e4] at g35
          have g35:fr3 35=.str (tR (R.map fl)):=g35
          have qe:=veq_tR (R:=R) (S:=[]) o1 (fun c hc=>absurd hc (by simp))
          rw [show tR []=⟨[].toArray⟩ from rfl] at qe
          simp [g19,g20,g22,g23,g25,g26,g27,g28,g29,g31,g32,g33,g34,g35,g36,hj',vlenT_str,hz,qe,veq_self,veqB]
          exact hK W
end Go.Proofs.YtalejadhccgckaaDoor.Vm
