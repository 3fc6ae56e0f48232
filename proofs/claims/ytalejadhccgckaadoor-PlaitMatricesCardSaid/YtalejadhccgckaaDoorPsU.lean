/- The parser of styles over the machine: what it reads, and where it panics. -/
import Derived.Test.YtalejadhccgckaaDoorPsT
namespace Go.Proofs.YtalejadhccgckaaDoor.Vm.T0
open Go Go.Proofs.YtalejadhccgckaaDoor.Vm
set_option maxRecDepth 100000
set_option linter.unusedSimpArgs false
set_option linter.unusedVariables false
attribute [-simp] List.getD_eq_getElem?_getD
theorem hmix:Tryd.prog.follows .mixedOrders=true:=by kernel_rfl
theorem pan_regw {lim:Nat}{nt:Nat}{pre post:List VOper}{s:St}{d x:Nat}{f:FuncId}(Q:V→Hp→Prop)(hent:entAt (pre++⟨some d,.call f [.t x],none,[]⟩ :: post)=none)
    (h:wCode tbl lim (.reg pre) (fun e s1=>e=.normal∧Q (s1.fr x) s1.H) s) (hQ:∀v H,Q v H→stor v=true∧PanAt Tryd.prog lim f [v] H):PanC Tryd.prog lim [] nt (.reg (pre++⟨some d,.call f [.t x],none,[]⟩ :: post)) s:=by
  obtain ⟨n,e,s',he,rfl,hq⟩:=wCode_sound h
  cases n with
  | zero=>simp [evCode] at he
  | succ n =>
    simp only [evCode] at he
    split at he
    case h_2=>cases he
    rename_i s2 he2
    cases he
    obtain ⟨h1,h2⟩:=hQ _ _ hq
    refine pan_reg (args:=[s'.fr x]) hmix tblOk hent he2 rfl ?_ h2
    simp only [evOp,opds,opd,allStor,h1,Bool.and_true,if_true]
theorem next_pan {H:Hp}{lim b i:Nat}{s:ByteArray}{d:Int}(h:H[b]? = some (pr s i d))(hl:lim≤b)(hi:i=s.size):PanAt Tryd.prog lim 104 [.ptr b 0] H:=by
  refine pan_fn Tryd.func104 slim104 (by kernel_rfl) (by decide) rfl ?_
  have hne:((i:Int)=(s.size:Int))=True:=eq_true (by omega)
  refine pan_seq2 hmix tblOk (wCode_sound ?_)
  simp
  refine pan_seq1 (pan_seq2 hmix tblOk (wCode_sound ?_))
  simp [ld0 h,ld1 h,hne]
  refine pan_cond (t:=true) (by simp) ?_
  simp only [if_true]
  refine pan_own (pre:=[⟨some 13,.build [] [],none,[]⟩]) (post:=[]) (n:=1) hmix tblOk Tryd.underlying79 (fun i h=>by cases h) rfl (s1 := ?_) ?_
  rotate_left
  · rfl
def itB:VCode:=match vf75.body with
  | .seq _ (.seq _ (.seq (.block _ (.loop b)) _))=>b
  | _=>.skip
def A1 (s:ByteArray)(b lim m:Nat):Prop:=∀(i d:Nat) (w:ByteArray) (n:Nat) (r:Rd),itemsF m s i d w n=some (some r)→i≤s.size→d≤8→ltr w→w.size=min n 61 →
  ∀(H:Hp) (fr:Fr) (Q:VExit→St→Prop),chkU8 H=true→H[b]? = some (pr s i d)→fr 0=.ptr b 0→fr 3=.str w→(∀fr2 X,fr2 0=.ptr b 0→fr2 3=.str r.w→Q (.exit 0) ⟨fr2,[],H.set b (pr s r.j d)++X⟩)→wCode tbl lim (.loop itB) Q ⟨fr,[],H⟩
def B1 (s:ByteArray)(b lim m:Nat):Prop:=∀(i d:Nat) (r:Rd),itemF m s i d=some (some r)→i≤s.size→d≤8 →
  ∀(H:Hp) (K:V→Hp→Prop),chkU8 H=true→H[b]? = some (pr s i d)→(∀X,K (.str r.w) (H.set b (pr s r.j d)++X))→VCall tbl lim 89 [.ptr b 0] H K
def C1 (s:ByteArray)(b lim m:Nat):Prop:=∀(i d:Nat) (r:Rd),groupF m s i d=some (some r)→i≤s.size→d≤8 →
  ∀(H:Hp) (K:V→Hp→Prop),chkU8 H=true→H[b]? = some (pr s i d)→(∀X,K (.str r.w) (H.set b (pr s r.j d)++X))→VCall tbl lim 105 [.ptr b 0] H K
def A2 (s:ByteArray)(b lim m:Nat):Prop:=∀(i d:Nat) (w:ByteArray) (n:Nat),itemsF m s i d w n=some none→i≤s.size→d≤8→ltr w→w.size=min n 61 →
  ∀(H:Hp) (fr:Fr),chkU8 H=true→H[b]? = some (pr s i d)→fr 0=.ptr b 0→fr 3=.str w→∃k,PanL Tryd.prog tbl lim [] Tryd.f75.ntmps itB k ⟨fr,[],H⟩
def B2 (s:ByteArray)(b lim m:Nat):Prop:=∀(i d:Nat),itemF m s i d=some none→i≤s.size→d≤8 →
  ∀(H:Hp),chkU8 H=true→H[b]? = some (pr s i d)→PanAt Tryd.prog lim 89 [.ptr b 0] H
def C2 (s:ByteArray)(b lim m:Nat):Prop:=∀(i d:Nat),groupF m s i d=some none→i≤s.size→d≤8 →
  ∀(H:Hp),chkU8 H=true→H[b]? = some (pr s i d)→PanAt Tryd.prog lim 105 [.ptr b 0] H
set_option linter.unusedSectionVars false
section
variable {s:ByteArray}{b lim m:Nat}(hb:2≤b)(hl:lim≤b)(hs:s.size≤10000)
include hb hl hs
theorem items_call (hA:A1 s b lim m){i d:Nat}{r:Rd}(h:itemsF m s i d ⟨#[]⟩ 0=some (some r))(hi:i≤s.size)(hd:d≤8){H:Hp}{K:V→Hp→Prop}(hc:chkU8 H=true)(hH:H[b]? = some (pr s i d))(hK:∀X,K (.str r.w) (H.set b (pr s r.j d)++X)) :
    VCall tbl lim 75 [.ptr b 0] H K:=by
  refine VCall_fn tbl_at75 rfl ?_
  simp [vf75]
  refine hA i d ⟨#[]⟩ 0 r h hi hd ltr_nil rfl H _ _ hc hH (by simp) (by simp) fun fr2 X h0 h3 => ?_
  simp [h3]
  exact hK X
theorem items_pan (hA:A2 s b lim m){i d:Nat}(h:itemsF m s i d ⟨#[]⟩ 0=some none)(hi:i≤s.size)(hd:d≤8){H:Hp}(hc:chkU8 H=true)(hH:H[b]? = some (pr s i d)):PanAt Tryd.prog lim 75 [.ptr b 0] H:=by
  refine pan_fn Tryd.func75 slim75 (by kernel_rfl) (by decide) rfl ?_
  refine pan_seq2 hmix tblOk (wCode_sound ?_)
  simp
  refine pan_seq2 hmix tblOk (wCode_sound ?_)
  simp
  obtain ⟨k,hk⟩:=hA i d ⟨#[]⟩ 0 h hi hd ltr_nil rfl H (upd (upd (fr0 [.ptr b 0]) 2 (.str ⟨#[]⟩)) 3 (.str ⟨#[]⟩)) hc hH (by simp) (by simp)
  exact pan_seq1 (pan_block (pan_loop hmix tblOk hk))
theorem set_same {H:Hp}{b:Nat}{x:Blk}(h:H[b]? = some x):H.set b x++[]=H:=by
  rw [List.append_nil]
  apply List.ext_getElem?
  intro k
  rw [List.getElem?_set]
  split
  · rename_i e;subst e
    split
    · exact h.symm
    · rename_i hn;rw [List.getElem?_eq_none (by omega)]
  · rfl
omit hb hl hs in
theorem roundX {H:Hp}{fr:Fr}{Q:VExit→St→Prop}{w:ByteArray}{i d:Nat}(hs:s.size≤10000)(hH:H[b]? = some (pr s i d))(f0:fr 0=.ptr b 0)(f3:fr 3=.str w)(hne:¬(i<s.size∧chT s i≠41))(hi:i≤s.size)(hQ:∀fr2,fr2 0=.ptr b 0→fr2 3=.str w→Q (.exit 0) ⟨fr2,[],H⟩) :
    wCode tbl lim itB Q ⟨fr,[],H⟩:=by
  by_cases hlt:i<s.size
  · have hlt':((i:Int)<(s.size:Int))=True:=eq_true (by omega)
    have hx:=idxT hlt
    have h41:chT s i=41:=by
      by_cases h:chT s i=41
      · exact h
      · exact absurd ⟨hlt,h⟩ hne
    rw [h41] at hx
    simp [itB,vf75,f0,f3,ld0 hH,ld1 hH,hlt',hx]
    exact hQ _ (by simp [f0]) (by simp [f3])
  · have hlt':((i:Int)<(s.size:Int))=False:=eq_false (by omega)
    simp [itB,vf75,f0,f3,ld0 hH,ld1 hH,hlt']
    exact hQ _ (by simp [f0]) (by simp [f3])
omit hb hl hs in
theorem roundN {H:Hp}{fr:Fr}{Q:VExit→St→Prop}{w w1:ByteArray}{i d j:Nat}(hs:s.size≤10000)(hH:H[b]? = some (pr s i d))(f0:fr 0=.ptr b 0)(f3:fr 3=.str w)(hlt:i<s.size)(h41:chT s i≠41)(hw:w.size≤61)(hw1:w1.size≤61)
    (hB:∀K:V→Hp→Prop,(∀X,K (.str w1) (H.set b (pr s j d)++X))→VCall tbl lim 89 [.ptr b 0] H K)
    (hQ:∀fr2 X,fr2 0=.ptr b 0→fr2 3=.str (cutW (w++w1))→Q .normal ⟨fr2,[],H.set b (pr s j d)++X⟩) :
    wCode tbl lim itB Q ⟨fr,[],H⟩:=by
  have hlt':((i:Int)<(s.size:Int))=True:=eq_true (by omega)
  have hx:=idxT hlt
  have h41':(((chT s i:Nat):Int)=41)=False:=eq_false (by omega)
  have ha:=vadd_str (a:=w) (b:=w1) (by omega)
  simp [itB,vf75,f0,f3,ld0 hH,ld1 hH,hlt',hx,h41']
  refine hB _ fun X => ?_
  simp [f0,f3,ha]
  refine short_t (by rw [size_app];omega) ?_
  simp
  exact hQ _ X (by simp [f0]) (by simp)
theorem stepA1 (hA:A1 s b lim m)(hB:B1 s b lim m):A1 s b lim (m+1):=by
  intro i d w n r h hi hd hw hn H fr Q hc hH f0 f3 hQ
  refine wLoop_round ?_
  simp only [itemsF] at h
  have hsz:w.size≤61:=by omega
  by_cases hlt:i<s.size∧chT s i≠41
  · rw [if_pos hlt] at h
    split at h
    · rename_i r1 h1
      obtain ⟨⟨a1,a2,a3,a4,a5⟩,a6⟩:=(read_ok m).2.1 s i d r1 h1 hi hd
      refine roundN hs hH f0 f3 hlt.1 hlt.2 hsz (by omega) (fun K hK=>hB i d r1 h1 hi hd H K hc hH hK) fun fr2 X g0 g3 => ?_
      refine hA r1.j d _ _ r h a2 hd (cutW_ltr (ltr_app hw a3)) (by rw [cutW_size,size_app];omega) _ fr2 Q (chk_set hc hb) (hset hH) g0 g3 fun fr3 Y k0 k3 => ?_
      rw [hset2 hH]
      exact hQ fr3 _ k0 k3
    · rename_i hne
      exact absurd h (hne r)
  · rw [if_neg hlt] at h
    cases h
    refine roundX hs hH f0 f3 hlt hi fun fr2 g0 g3 => ?_
    have:=hQ fr2 [] g0 g3
    rw [set_same hb hl hs hH] at this
    exact this
theorem stepA2 (hA:A2 s b lim m)(hB1:B1 s b lim m)(hB2:B2 s b lim m):A2 s b lim (m+1):=by
  intro i d w n h hi hd hw hn H fr hc hH f0 f3
  simp only [itemsF] at h
  have hsz:w.size≤61:=by omega
  split at h
  case isFalse=>cases h
  rename_i hlt
  split at h
  · rename_i r1 h1
    obtain ⟨⟨a1,a2,a3,a4,a5⟩,a6⟩:=(read_ok m).2.1 s i d r1 h1 hi hd
    have key:wSem tbl lim itB (fun e s'=>e=.normal∧∃k,PanL Tryd.prog tbl lim [] Tryd.f75.ntmps itB k s') ⟨fr,[],H⟩:=by
      refine wCode_sound (roundN hs hH f0 f3 hlt.1 hlt.2 hsz (by omega) (fun K hK=>hB1 i d r1 h1 hi hd H K hc hH hK) fun fr2 X g0 g3=>⟨rfl,?_⟩)
      exact hA r1.j d _ _ h a2 hd (cutW_ltr (ltr_app hw a3)) (by rw [cutW_size,size_app];omega) _ fr2 (chk_set hc hb) (hset hH) g0 g3
    obtain ⟨k1,e,s',he,rfl,k,hk⟩:=key
    exact ⟨k+1,k1,.normal,s',he,rfl,hk⟩
  · refine ⟨0,?_⟩
    have hbad:itemF m s i d=some none:=h
    have hlt':((i:Int)<(s.size:Int))=True:=eq_true (by omega)
    have hx:=idxT hlt.1
    have h41':(((chT s i:Nat):Int)=41)=False:=eq_false (by omega)
    have hp:=hB2 i d hbad hi hd H hc hH
    show PanC Tryd.prog lim [] Tryd.f75.ntmps itB ⟨fr,[],H⟩
    refine pan_seq2 hmix tblOk (wCode_sound ?_)
    simp [f0,f3,ld0 hH,ld1 hH,hlt',hx,h41']
    refine pan_block (pan_seq1 ?_)
    refine pan_regw (pre:=[⟨some 27,.move (.t 0),none,[]⟩]) (post:=[⟨some 4,.move (.t 28),none,[]⟩]) (fun v H1=>v=.ptr b 0∧H1=H) rfl ?_ ?_
    · simp [f0]
    · rintro v H1 ⟨rfl,rfl⟩
      exact ⟨rfl,hp⟩
omit hb hl hs in
theorem map_some {f:ByteArray→ByteArray}{o:Option (Option Rd)}{r:Rd}(h:Rd.map f o=some (some r)):∃r1,o=some (some r1)∧r=⟨f r1.w,r1.j,r1.n⟩:=by
  unfold Rd.map at h
  split at h
  · rename_i r1;cases h;exact ⟨r1,rfl,rfl⟩
  · rename_i hne;exact absurd h (hne r)
omit hb hl hs in
theorem map_bad {f:ByteArray→ByteArray}{o:Option (Option Rd)}(h:Rd.map f o=some none):o=some none:=by
  unfold Rd.map at h
  split at h
  · cases h
  · exact h
theorem size_gt {s:ByteArray}{i:Nat}(h:¬i<s.size)(hi:i≤s.size):i=s.size:=by omega
theorem stepB1 (hB:B1 s b lim m)(hC:C1 s b lim m):B1 s b lim (m+1):=by
  intro i d r h hi hd H K hc hH hK
  simp only [itemF] at h
  split at h
  case isFalse=>cases h
  rename_i hlt
  have h1:=hset0 hH (i':=((i+1:Nat):Int)) (d':=(d:Int))
  have hc1:chkU8 (H.set b (pr s ((i+1:Nat):Int) d))=true:=by
    have:=chk_set (X:=[]) hc hb (x:=pr s ((i+1:Nat):Int) d)
    simpa using this
  have hlen:lim≤H.length:=by
    have:=(List.getElem?_eq_some_iff.1 hH).1
    omega
  refine VCall_fn tbl_at89 rfl ?_
  simp [vf89]
  refine next_ok hH hl (by omega) hlt ?_
  have hh:∀X:Hp,(H.set b (pr s ((i+1:Nat):Int) d)).set b (pr s r.j d)++X=H.set b (pr s r.j d)++X:=fun X=>by rw [List.set_set]
  have ew:∀c:Nat,c=97∨c=65∨c=98∨c=66→Utf8.encode (c:Int)=oneC c:=by
    rintro c (rfl | rfl | rfl | rfl)<;>rfl
  by_cases hL:isL (chT s i)=true
  · rw [if_pos hL] at h
    cases h
    have hL2:chT s i=97∨chT s i=65∨chT s i=98∨chT s i=66:=by
      simp only [isL,Bool.or_eq_true,decide_eq_true_eq] at hL;omega
    have:=hK []
    rw [List.append_nil] at this
    have w1:IntKind.wrap .i32 97=97:=rfl
    have w2:IntKind.wrap .i32 65=65:=rfl
    have w3:IntKind.wrap .i32 98=98:=rfl
    have w4:IntKind.wrap .i32 66=66:=rfl
    have ew:=ew _ hL2
    rcases hL2 with e | e | e | e<;>rw [e] at this ew ⊢<;>simp at ew this<;>simp [w1,w2,w3,w4,ew]<;>exact this
  · rw [if_neg hL] at h
    by_cases e33:chT s i=33
    · rw [if_pos e33] at h
      obtain ⟨r1,q1,rfl⟩:=map_some h
      obtain ⟨⟨a1,a2,a3,a4,a5⟩,a6⟩:=(read_ok m).2.1 s (i+1) d r1 q1 hlt hd
      rw [e33]
      simp
      refine hB (i+1) d r1 q1 hlt hd _ _ hc1 h1 fun X => ?_
      simp
      refine inverseL_t (chk_set hc hb) (by simp;omega) (by omega) a3 fun Y => ?_
      simp
      have:=hK (X++Y)
      simpa [hh,inW,moW,flW] using this
    rw [if_neg e33] at h
    by_cases e126:chT s i=126
    · rw [if_pos e126] at h
      obtain ⟨r1,q1,rfl⟩:=map_some h
      obtain ⟨⟨a1,a2,a3,a4,a5⟩,a6⟩:=(read_ok m).2.1 s (i+1) d r1 q1 hlt hd
      rw [e126]
      simp
      refine hB (i+1) d r1 q1 hlt hd _ _ hc1 h1 fun X => ?_
      simp
      refine mirrorL_t (chk_set hc hb) (by omega) a3 ?_
      simp
      have:=hK X
      simpa [hh,inW,moW,flW] using this
    rw [if_neg e126] at h
    by_cases e37:chT s i=37
    · rw [if_pos e37] at h
      obtain ⟨r1,q1,rfl⟩:=map_some h
      obtain ⟨⟨a1,a2,a3,a4,a5⟩,a6⟩:=(read_ok m).2.1 s (i+1) d r1 q1 hlt hd
      rw [e37]
      simp
      refine hB (i+1) d r1 q1 hlt hd _ _ hc1 h1 fun X => ?_
      simp
      refine flipL_t (chk_set hc hb) (by omega) a3 ?_
      simp
      have:=hK X
      simpa [hh,inW,moW,flW] using this
    rw [if_neg e37] at h
    by_cases e40:chT s i=40
    · rw [if_pos e40] at h
      rw [e40]
      simp
      refine hC (i+1) d r h hlt hd _ _ hc1 h1 fun X => ?_
      simp
      have:=hK X
      simpa [hh] using this
    rw [if_neg e40] at h
    cases h
def itmB:VCode:=match vf89.body with
  | .seq _ (.seq (.seq _ (.seq _ b)) _)=>b
  | _=>.skip
theorem stepB2 (hB:B2 s b lim m)(hC:C2 s b lim m):B2 s b lim (m+1):=by
  intro i d h hi hd H hc hH
  simp only [itemF] at h
  refine pan_fn Tryd.func89 slim89 (by kernel_rfl) (by decide) rfl ?_
  refine pan_seq2 hmix tblOk (wCode_sound ?_)
  simp
  by_cases hlt:i<s.size
  case neg =>
    have hp:=next_pan hH hl (lim:=lim) (by omega)
    refine pan_seq1 (pan_seq1 ?_)
    refine pan_regw (pre:=[⟨some 4,.move (.t 0),none,[]⟩]) (post:=[⟨some 3,.move (.t 5),none,[]⟩]) (fun v H1=>v=.ptr b 0∧H1=H) rfl ?_ ?_
    · simp
    · rintro v H1 ⟨rfl,rfl⟩
      exact ⟨rfl,hp⟩
  rw [if_pos hlt] at h
  have h1:=hset0 hH (i':=((i+1:Nat):Int)) (d':=(d:Int))
  have hc1:chkU8 (H.set b (pr s ((i+1:Nat):Int) d))=true:=by
    have:=chk_set (X:=[]) hc hb (x:=pr s ((i+1:Nat):Int) d)
    simpa using this
  by_cases hL:isL (chT s i)=true
  · rw [if_pos hL] at h;cases h
  rw [if_neg hL] at h
  have hgo:PanC Tryd.prog lim [] Tryd.f89.ntmps itmB ⟨upd (upd (upd (upd (upd (fr0 [.ptr b 0]) 2 (.str ⟨#[]⟩)) 4 (.ptr b 0)) 5 (.int .u8 (chT s i:Nat))) 3 (.int .u8 (chT s i:Nat))) 6 (.int .u8 (chT s i:Nat)),[],H.set b (pr s ((i+1:Nat):Int) d)⟩ →
      PanC Tryd.prog lim [] Tryd.f89.ntmps (.seq (.seq (.reg [⟨some 4,.move (.t 0),none,[]⟩,⟨some 5,.call 104 [.t 4],none,[]⟩,⟨some 3,.move (.t 5),none,[]⟩]) (.seq (.reg [⟨some 6,.move (.t 3),none,[]⟩]) itmB)) (.reg [⟨some 34,.build [] [],none,[]⟩,⟨some 35,.x (.mkI 79) [.t 34],none,[]⟩,⟨none,.x .pan [.t 35],none,[]⟩])) ⟨upd (fr0 [.ptr b 0]) 2 (.str ⟨#[]⟩),[],H⟩:=by
    intro hh
    refine pan_seq1 (pan_seq2 hmix tblOk (wCode_sound ?_))
    simp
    refine next_ok hH hl (by omega) hlt ?_
    simp
    refine pan_seq2 hmix tblOk (wCode_sound ?_)
    simp
    exact hh
  by_cases e33:chT s i=33
  · rw [if_pos e33] at h
    have q1:=map_bad h
    have hp:=hB (i+1) d q1 hlt hd _ hc1 h1
    rw [e33] at hgo
    refine hgo ?_
    refine pan_block ?_
    refine pan_seq2 hmix tblOk (wCode_sound ?_)
    simp
    refine pan_cond (t:=false) (by simp) ?_
    simp only [Bool.false_eq_true,if_false]
    refine pan_seq2 hmix tblOk (wCode_sound ?_)
    simp
    refine pan_cond (t:=true) (by simp) ?_
    simp only [if_true]
    refine pan_seq1 ?_
    refine pan_regw (pre:=[⟨some 17,.move (.t 0),none,[]⟩]) (post:=[⟨some 19,.call 61 [.t 18],none,[]⟩,⟨some 2,.move (.t 19),none,[]⟩]) (fun v H1=>v=.ptr b 0∧H1=H.set b (pr s ((i+1:Nat):Int) d)) rfl ?_ ?_
    · simp
    · rintro v H1 ⟨rfl,rfl⟩
      exact ⟨rfl,hp⟩
  rw [if_neg e33] at h
  by_cases e126:chT s i=126
  · rw [if_pos e126] at h
    have q1:=map_bad h
    have hp:=hB (i+1) d q1 hlt hd _ hc1 h1
    rw [e126] at hgo
    refine hgo ?_
    refine pan_block ?_
    refine pan_seq2 hmix tblOk (wCode_sound ?_)
    simp
    refine pan_cond (t:=false) (by simp) ?_
    simp only [Bool.false_eq_true,if_false]
    refine pan_seq2 hmix tblOk (wCode_sound ?_)
    simp
    refine pan_cond (t:=false) (by simp) ?_
    simp only [Bool.false_eq_true,if_false]
    refine pan_seq2 hmix tblOk (wCode_sound ?_)
    simp
    refine pan_cond (t:=true) (by simp) ?_
    simp only [if_true]
    refine pan_seq1 ?_
    refine pan_regw (pre:=[⟨some 22,.move (.t 0),none,[]⟩]) (post:=[⟨some 24,.call 65 [.t 23],none,[]⟩,⟨some 2,.move (.t 24),none,[]⟩]) (fun v H1=>v=.ptr b 0∧H1=H.set b (pr s ((i+1:Nat):Int) d)) rfl ?_ ?_
    · simp
    · rintro v H1 ⟨rfl,rfl⟩
      exact ⟨rfl,hp⟩
  rw [if_neg e126] at h
  by_cases e37:chT s i=37
  · rw [if_pos e37] at h
    have q1:=map_bad h
    have hp:=hB (i+1) d q1 hlt hd _ hc1 h1
    rw [e37] at hgo
    refine hgo ?_
    refine pan_block ?_
    refine pan_seq2 hmix tblOk (wCode_sound ?_)
    simp
    refine pan_cond (t:=false) (by simp) ?_
    simp only [Bool.false_eq_true,if_false]
    refine pan_seq2 hmix tblOk (wCode_sound ?_)
    simp
    refine pan_cond (t:=false) (by simp) ?_
    simp only [Bool.false_eq_true,if_false]
    refine pan_seq2 hmix tblOk (wCode_sound ?_)
    simp
    refine pan_cond (t:=false) (by simp) ?_
    simp only [Bool.false_eq_true,if_false]
    refine pan_seq2 hmix tblOk (wCode_sound ?_)
    simp
    refine pan_cond (t:=true) (by simp) ?_
    simp only [if_true]
    refine pan_seq1 ?_
    refine pan_regw (pre:=[⟨some 27,.move (.t 0),none,[]⟩]) (post:=[⟨some 29,.call 66 [.t 28],none,[]⟩,⟨some 2,.move (.t 29),none,[]⟩]) (fun v H1=>v=.ptr b 0∧H1=H.set b (pr s ((i+1:Nat):Int) d)) rfl ?_ ?_
    · simp
    · rintro v H1 ⟨rfl,rfl⟩
      exact ⟨rfl,hp⟩
  rw [if_neg e37] at h
  by_cases e40:chT s i=40
  · rw [if_pos e40] at h
    have hp:=hC (i+1) d h hlt hd _ hc1 h1
    rw [e40] at hgo
    refine hgo ?_
    refine pan_block ?_
    refine pan_seq2 hmix tblOk (wCode_sound ?_)
    simp
    refine pan_cond (t:=false) (by simp) ?_
    simp only [Bool.false_eq_true,if_false]
    refine pan_seq2 hmix tblOk (wCode_sound ?_)
    simp
    refine pan_cond (t:=false) (by simp) ?_
    simp only [Bool.false_eq_true,if_false]
    refine pan_seq2 hmix tblOk (wCode_sound ?_)
    simp
    refine pan_cond (t:=false) (by simp) ?_
    simp only [Bool.false_eq_true,if_false]
    refine pan_seq2 hmix tblOk (wCode_sound ?_)
    simp
    refine pan_cond (t:=false) (by simp) ?_
    simp only [Bool.false_eq_true,if_false]
    refine pan_seq2 hmix tblOk (wCode_sound ?_)
    simp
    refine pan_cond (t:=true) (by simp) ?_
    simp only [if_true]
    refine pan_seq1 ?_
    refine pan_regw (pre:=[⟨some 32,.move (.t 0),none,[]⟩]) (post:=[⟨some 2,.move (.t 33),none,[]⟩]) (fun v H1=>v=.ptr b 0∧H1=H.set b (pr s ((i+1:Nat):Int) d)) rfl ?_ ?_
    · simp
    · rintro v H1 ⟨rfl,rfl⟩
      exact ⟨rfl,hp⟩
  rw [if_neg e40] at h
  have hLn:chT s i≠97∧chT s i≠65∧chT s i≠98∧chT s i≠66:=by
    simp only [isL,Bool.or_eq_true,decide_eq_true_eq] at hL;omega
  have x1:(((chT s i:Nat):Int)=97)=False:=eq_false (by omega)
  have x2:(((chT s i:Nat):Int)=65)=False:=eq_false (by omega)
  have x3:(((chT s i:Nat):Int)=98)=False:=eq_false (by omega)
  have x4:(((chT s i:Nat):Int)=66)=False:=eq_false (by omega)
  have x5:(((chT s i:Nat):Int)=33)=False:=eq_false (by omega)
  have x6:(((chT s i:Nat):Int)=126)=False:=eq_false (by omega)
  have x7:(((chT s i:Nat):Int)=37)=False:=eq_false (by omega)
  have x8:(((chT s i:Nat):Int)=40)=False:=eq_false (by omega)
  refine pan_seq2 hmix tblOk (wCode_sound ?_)
  simp
  refine next_ok hH hl (by omega) hlt ?_
  simp [x1,x2,x3,x4,x5,x6,x7,x8]
  refine pan_own (pre:=[⟨some 34,.build [] [],none,[]⟩]) (post:=[]) (n:=1) hmix tblOk Tryd.underlying79 (fun i h=>by cases h) rfl (s1 := ?_) ?_
  rotate_left
  · rfl
theorem grp_some {o:Option (Option Rd)}{r:Rd}(h:grpF s o=some (some r)):∃r1,o=some (some r1)∧r1.j<s.size ∧
    ((r1.j+1<s.size∧48≤chT s (r1.j+1)∧chT s (r1.j+1)≤57∧r=⟨cutW (rep r1.w (chT s (r1.j+1)-48)),r1.j+2,(chT s (r1.j+1)-48)*r1.n⟩) ∨
     (¬(r1.j+1<s.size∧48≤chT s (r1.j+1)∧chT s (r1.j+1)≤57)∧r=⟨cutW (rep r1.w 1),r1.j+1,r1.n⟩)):=by
  unfold grpF at h
  split at h
  · rename_i r1
    split at h
    · rename_i hj
      split at h
      · rename_i hd;cases h;exact ⟨r1,rfl,hj,Or.inl ⟨hd.1,hd.2.1,hd.2.2,rfl⟩⟩
      · rename_i hd;cases h;exact ⟨r1,rfl,hj,Or.inr ⟨hd,rfl⟩⟩
    · cases h
  · rename_i hne;exact absurd h (hne r)
theorem stepC1 (hA:A1 s b lim m):C1 s b lim (m+1):=by
  intro i d r h hi hd H K hc hH hK
  simp only [groupF] at h
  split at h
  · cases h
  rename_i hd8
  obtain ⟨r1,q1,hj,hcase⟩:=grp_some hb hl hs h
  obtain ⟨a1,a2,a3,a4,a5⟩:=(read_ok m).1 s i (d+1) _ 0 r1 q1 hi (by omega) ltr_nil rfl
  have h1:(H.set b (pr s i ((d:Int)+1)))[b]? = some (pr s i ((d:Int)+1)):=hset0 hH
  have hc1:chkU8 (H.set b (pr s i ((d:Int)+1)))=true:=by
    have:=chk_set (X:=[]) hc hb (x:=pr s i ((d:Int)+1))
    simpa using this
  have g8:((8:Int)<(d:Int)+1)=False:=eq_false (by omega)
  refine VCall_fn tbl_at105 rfl ?_
  simp (disch:=omega) [vf105,ld2 hH,st2 hH hl,ld2 h1,g8,wrap_i64]
  refine items_call hb hl hs hA q1 hi (by omega) hc1 h1 fun X => ?_
  have e0:((d+1:Nat):Int)=(d:Int)+1:=by omega
  rw [e0,List.set_set]
  have h2:(H.set b (pr s r1.j ((d:Int)+1))++X)[b]? = some (pr s r1.j ((d:Int)+1)):=hset hH
  have hc2:chkU8 (H.set b (pr s r1.j ((d:Int)+1))++X)=true:=chk_set hc hb
  have hx2:∀(p q:Int),(H.set b (pr s r1.j ((d:Int)+1))++X).set b (pr s p q)=H.set b (pr s p q)++X:=fun p q=>hset3 hH
  simp
  refine next_ok h2 hl (by omega) hj ?_
  rw [hx2]
  have h3:(H.set b (pr s ((r1.j+1:Nat):Int) ((d:Int)+1))++X)[b]? = some (pr s ((r1.j+1:Nat):Int) ((d:Int)+1)):=hset hH
  have hx3:∀(p q:Int),(H.set b (pr s ((r1.j+1:Nat):Int) ((d:Int)+1))++X).set b (pr s p q)=H.set b (pr s p q)++X:=fun p q=>hset3 hH
  have h4:(H.set b (pr s ((r1.j+1:Nat):Int) (d:Int))++X)[b]? = some (pr s ((r1.j+1:Nat):Int) (d:Int)):=hset hH
  have hx4:∀(p q:Int),(H.set b (pr s ((r1.j+1:Nat):Int) (d:Int))++X).set b (pr s p q)=H.set b (pr s p q)++X:=fun p q=>hset3 hH
  have hsz1:r1.w.size≤61:=by omega
  generalize hJ:r1.j+1=J at *
  have plain:r=⟨cutW (rep r1.w 1),J,r1.n⟩→∀Y,K (.str (cutW (rep r1.w 1))) (H.set b (pr s J d)++Y):=by
    rintro rfl;exact hK
  by_cases hJ2:J<s.size
  · have hJ':((J:Int)<(s.size:Int))=True:=eq_true (by omega)
    have hx:=idxT hJ2
    by_cases h48:48≤chT s J
    · have h48':((48:Int)≤((chT s J:Nat):Int))=True:=eq_true (by omega)
      by_cases h57:chT s J≤57
      · have h57':(((chT s J:Nat):Int)≤57)=True:=eq_true (by omega)
        have hr:r=⟨cutW (rep r1.w (chT s J-48)),J+1,(chT s J-48)*r1.n⟩:=by
          rcases hcase with ⟨_,_,_,e⟩ | ⟨hn,_⟩
          · rw [e];congr 1;omega
          · exact absurd ⟨hJ2,h48,h57⟩ hn
        have wu:IntKind.wrap .u8 (((chT s J:Nat):Int)-48)=((chT s J-48:Nat):Int):=by
          simp [IntKind.wrap,IntKind.bits,IntKind.signed];omega
        have wi:IntKind.wrap .i64 ((chT s J-48:Nat):Int)=((chT s J-48:Nat):Int):=wrap_i64 (by omega) (by omega)
        simp (disch:=omega) [ld2 h3,st2 h3 hl,hx3,ld0 h4,ld1 h4,hJ',hx,h48',h57',wrap_i64]
        refine next_ok h4 hl (by omega) hJ2 ?_
        rw [hx4]
        have hks:chT s J-48≤9:=by omega
        have fin:=hK
        rw [hr] at fin
        simp only at fin
        generalize chT s J-48=c at wu wi hks fin
        simp [wu,wi]
        refine repeat_t hsz1 (by omega) ?_
        have hz:(rep r1.w c).size≤1000000:=by
          rw [rep_size]
          exact Nat.le_trans (Nat.mul_le_mul hks hsz1) (by omega)
        simp
        refine short_t hz ?_
        simp
        exact fin X
      · have h57':(((chT s J:Nat):Int)≤57)=False:=eq_false (by omega)
        have hr:r=⟨cutW (rep r1.w 1),J,r1.n⟩:=by
          rcases hcase with ⟨_,_,h,e⟩ | ⟨_,e⟩
          · exact absurd h h57
          · exact e
        simp (disch:=omega) [ld2 h3,st2 h3 hl,hx3,ld0 h4,ld1 h4,hJ',hx,h48',h57',wrap_i64]
        refine repeat_t (c:=1) hsz1 (by omega) ?_
        simp
        refine short_t (by rw [rep_size];omega) ?_
        simp
        exact plain hr X
    · have h48':((48:Int)≤((chT s J:Nat):Int))=False:=eq_false (by omega)
      have hr:r=⟨cutW (rep r1.w 1),J,r1.n⟩:=by
        rcases hcase with ⟨_,h,_,e⟩ | ⟨_,e⟩
        · exact absurd h h48
        · exact e
      simp (disch:=omega) [ld2 h3,st2 h3 hl,hx3,ld0 h4,ld1 h4,hJ',hx,h48',wrap_i64]
      refine repeat_t (c:=1) hsz1 (by omega) ?_
      simp
      refine short_t (by rw [rep_size];omega) ?_
      simp
      exact plain hr X
  · have hJ':((J:Int)<(s.size:Int))=False:=eq_false (by omega)
    have hr:r=⟨cutW (rep r1.w 1),J,r1.n⟩:=by
      rcases hcase with ⟨h,_,_,e⟩ | ⟨_,e⟩
      · exact absurd h hJ2
      · exact e
    simp (disch:=omega) [ld2 h3,st2 h3 hl,hx3,ld0 h4,ld1 h4,hJ',wrap_i64]
    refine repeat_t (c:=1) hsz1 (by omega) ?_
    simp
    refine short_t (by rw [rep_size];omega) ?_
    simp
    exact plain hr X
theorem grp_bad {o:Option (Option Rd)}(h:grpF s o=some none):o=some none∨∃r1,o=some (some r1)∧¬r1.j<s.size:=by
  unfold grpF at h
  split at h
  · rename_i r1
    split at h
    · split at h<;>cases h
    · rename_i hj;exact Or.inr ⟨r1,rfl,hj⟩
  · exact Or.inl h
theorem stepC2 (hA1:A1 s b lim m) (hA2:A2 s b lim m):C2 s b lim (m+1):=by
  intro i d h hi hd H hc hH
  simp only [groupF] at h
  have h1:(H.set b (pr s i ((d:Int)+1)))[b]? = some (pr s i ((d:Int)+1)):=hset0 hH
  have hc1:chkU8 (H.set b (pr s i ((d:Int)+1)))=true:=by
    have:=chk_set (X:=[]) hc hb (x:=pr s i ((d:Int)+1))
    simpa using this
  have e0:((d+1:Nat):Int)=(d:Int)+1:=by omega
  refine pan_fn Tryd.func105 slim105 (by kernel_rfl) (by decide) rfl ?_
  refine pan_seq2 hmix tblOk (wCode_sound ?_)
  simp
  refine pan_seq2 hmix tblOk (wCode_sound ?_)
  simp (disch:=omega) [ld2 hH,st2 hH hl,wrap_i64]
  split at h
  · rename_i hd8
    have g8:((8:Int)<(d:Int)+1)=True:=eq_true (by omega)
    refine pan_seq1 (pan_seq2 hmix tblOk (wCode_sound ?_))
    simp [ld2 h1,g8]
    refine pan_cond (t:=true) (by simp) ?_
    simp only [if_true]
    refine pan_own (pre:=[⟨some 17,.build [] [],none,[]⟩]) (post:=[]) (n:=1) hmix tblOk Tryd.underlying79 (fun i h=>by cases h) rfl (s1 := ?_) ?_
    rotate_left
    · rfl
  · rename_i hd8
    have g8:((8:Int)<(d:Int)+1)=False:=eq_false (by omega)
    refine pan_seq2 hmix tblOk (wCode_sound ?_)
    simp [ld2 h1,g8]
    rcases grp_bad hb hl hs h with q1 | ⟨r1,q1,hj⟩
    · have hp:=items_pan hb hl hs hA2 q1 hi (by omega) hc1 h1
      refine pan_seq1 ?_
      refine pan_regw (pre:=[⟨some 19,.move (.t 0),none,[]⟩]) (post:=[⟨some 3,.move (.t 20),none,[]⟩]) (fun v H1=>v=.ptr b 0∧H1=H.set b (pr s i ((d:Int)+1))) rfl ?_ ?_
      · simp
      · rintro v H1 ⟨rfl,rfl⟩
        exact ⟨rfl,hp⟩
    · obtain ⟨a1,a2,a3,a4,a5⟩:=(read_ok m).1 s i (d+1) _ 0 r1 q1 hi (by omega) ltr_nil rfl
      refine pan_seq2 hmix tblOk (wCode_sound ?_)
      simp
      refine items_call hb hl hs hA1 q1 hi (by omega) hc1 h1 fun X => ?_
      rw [e0,List.set_set]
      have h2:(H.set b (pr s r1.j ((d:Int)+1))++X)[b]? = some (pr s r1.j ((d:Int)+1)):=hset hH
      have hp:=next_pan h2 hl (lim:=lim) (by omega)
      simp
      refine pan_seq1 ?_
      refine pan_regw (pre:=[⟨some 21,.move (.t 0),none,[]⟩]) (post:=[]) (fun v H1=>v=.ptr b 0∧H1=H.set b (pr s r1.j ((d:Int)+1))++X) rfl ?_ ?_
      · simp
      · rintro v H1 ⟨rfl,rfl⟩
        exact ⟨rfl,hp⟩
theorem all_steps:∀m,A1 s b lim m∧B1 s b lim m∧C1 s b lim m∧A2 s b lim m∧B2 s b lim m∧C2 s b lim m
  | 0=>⟨fun i d w n r h=>by simp [itemsF] at h,fun i d r h=>by simp [itemF] at h,fun i d r h=>by simp [groupF] at h,fun i d w n h=>by simp [itemsF] at h,fun i d h=>by simp [itemF] at h,fun i d h=>by simp [groupF] at h⟩
  | m+1=>by
    obtain ⟨p1,p2,p3,p4,p5,p6⟩:=all_steps m
    exact ⟨stepA1 hb hl hs p1 p2,stepB1 hb hl hs p2 p3,stepC1 hb hl hs p1,stepA2 hb hl hs p4 p2 p5,stepB2 hb hl hs p5 p6,stepC2 hb hl hs p1 p4⟩
end
end Go.Proofs.YtalejadhccgckaaDoor.Vm.T0
