/- The reference's reader of styles over the machine; the law PlaitStyles. -/
import Derived.Test.YtalejadhccgckaaDoorPtA
namespace Go.Proofs.YtalejadhccgckaaDoor.Vm
open Go
set_option maxRecDepth 100000
set_option linter.unusedSimpArgs false
set_option linter.unusedVariables false
set_option linter.unusedSectionVars false
attribute [-simp] List.getD_eq_getElem?_getD
def itV (j n:Int)(w:ByteArray)(ok:Bool):List V:=[.int .i64 j,.int .i64 n,.str w,.bool ok]
def zIt:List V:=itV 0 0 ⟨#[]⟩ false
def itO:Option Rd→List V
  | some r=>itV r.j r.n r.w true
  | none=>zIt
def itR:VCode:=match vf76.body with
  | .seq _ (.seq _ (.seq (.block _ (.loop b)) _))=>b
  | _=>.skip
section
variable {a b c d e:V}{j n:Int}{w:ByteArray}{ok:Bool}
theorem rq0:rd none [a,b,c,d] 0=some a:=rfl
theorem rq1:rd none [a,b,c,d] 1=some b:=rfl
theorem rq2:rd none [a,b,c,d] 2=some c:=rfl
theorem rq3:rd none [a,b,c,d] 3=some d:=rfl
theorem rq4:rd (some 4) [a,b,c,d] 0=some (.agg [a,b,c,d]):=rfl
theorem i0:rd none (itV j n w ok) 0=some (.int .i64 j):=rfl
theorem i1:rd none (itV j n w ok) 1=some (.int .i64 n):=rfl
theorem i2:rd none (itV j n w ok) 2=some (.str w):=rfl
theorem i3:rd none (itV j n w ok) 3=some (.bool ok):=rfl
theorem i4:rd (some 4) (itV j n w ok) 0=some (.agg (itV j n w ok)):=rfl
theorem iL:(itV j n w ok).length=4:=rfl
theorem iS {j' n':Int}{w':ByteArray}{ok':Bool}:splice (itV j n w ok) 0 (itV j' n' w' ok')=itV j' n' w' ok':=rfl
theorem iz:([.int .i64 0,.int .i64 0,.str ⟨#[]⟩,.bool false]:List V)=zIt:=rfl
end
def OneR (s:ByteArray)(m:Nat):Prop:=∀(i d:Nat) (o:Option Rd),itemF m s i d=some o→i<s.size→d≤8→∀(lim:Nat) (H:Hp) (K:V→Hp→Prop),(∀X,K (.agg (itO o)) (H++X))→VCall tbl lim 91 [.str s,.int .i64 i,.int .i64 d] H K
def ItsR (s:ByteArray)(m:Nat):Prop:=∀(i d:Nat) (o:Option Rd),itemsF m s i d ⟨#[]⟩ 0=some o→i≤s.size→d≤8→∀(lim:Nat) (H:Hp) (K:V→Hp→Prop),(∀X,K (.agg (itO o)) (H++X))→VCall tbl lim 76 [.str s,.int .i64 i,.int .i64 d] H K
def LoopR (s:ByteArray)(m:Nat):Prop:=∀(i d:Nat) (w:ByteArray) (n:Nat) (o:Option Rd),itemsF m s i d w n=some o→i≤s.size→d≤8→ltr w→w.size=min n 61→n+(s.size-i)*9 ^ (8-d)≤1000000000000 →
  ∀(lim:Nat) (H:Hp) (fr:Fr) (X:List (List V)) (Q:VExit→St→Prop),fr 0=.str s→fr 2=.int .i64 d→fr 6=.lp 0 0→fr 7=.lp 1 0 →
  (∀r,o=some r→∀fr2 Y H2,fr2 6=.lp 0 0→fr2 7=.lp 1 0→Q (.exit 0) ⟨fr2,zIt :: itV r.j r.n r.w true :: Y,H++H2⟩) →
  (o=none→∀fr2 Y H2,fr2 6=.lp 0 0→Q .ret ⟨fr2,zIt :: Y,H++H2⟩)→wCode tbl lim (.loop itR) Q ⟨fr,zIt :: itV i n w true :: X,H⟩
theorem sub9 {lo mid hi:Nat}(h1:lo≤mid)(h2:mid≤hi)(p:Nat):(mid-lo)*p+(hi-mid)*p=(hi-lo)*p:=by
  rw [←Nat.add_mul];congr 1;omega
theorem nine {n d:Nat}(h:n≤4000):n*9 ^ (8-d)≤1000000000000:=by
  have h1:9 ^ (8-d)≤9 ^ 8:=Nat.pow_le_pow_right (by omega) (by omega)
  have h2:n*9 ^ (8-d)≤4000*9 ^ 8:=Nat.mul_le_mul h h1
  have h3:4000*9 ^ 8≤1000000000000:=by decide
  omega
section
variable {s:ByteArray}{m:Nat}(hs:s.size≤4000)
include hs
theorem itemsR (hL:LoopR s m):ItsR s m:=by
  intro i d o h hi hd lim H K hK
  refine VCall_fn tbl_at76 rfl ?_
  have q:=nine (d:=d) (n:=s.size-i) (by omega)
  have e0:itV (i:Int) ((0:Nat):Int) ⟨#[]⟩ true=[.int .i64 (i:Int),.int .i64 0,.str ⟨#[]⟩,.bool true]:=rfl
  simp [vf76,splice]
  refine hL i d ⟨#[]⟩ 0 o h hi hd ltr_nil rfl (by omega) lim H _ [] _ (by simp) (by simp) (by simp) (by simp) (fun r hr fr2 Y H2 g6 g7 => ?_) (fun hr fr2 Y H2 g6 => ?_)
  · subst hr
    have:=hK H2
    simp only [itO] at this
    simp [g6,g7,i4,iL,iS,zIt]
    exact this
  · subst hr
    have:=hK H2
    simp only [itO] at this
    simp [g6,i4,iL,zIt] at this ⊢
    exact this
theorem stepLoop (hL:LoopR s m) (hO:OneR s m):LoopR s (m+1):=by
  intro i d w n o h hi hd hw hn hbd lim H fr X Q f0 f2 f6 f7 hQ1 hQ2
  refine wLoop_round ?_
  simp only [itemsF] at h
  have hsz:w.size≤61:=by omega
  by_cases hlt:i<s.size
  · have hlt':((i:Int)<(s.size:Int))=True:=eq_true (by omega)
    have hx:=idxT hlt
    by_cases h41:chT s i=41
    · rw [if_neg (by simp [h41])] at h
      cases h
      rw [h41] at hx
      simp [itR,vf76,f0,f2,f6,f7,i0,hlt',hx,vlenT_str]
      have q:=fun fr2 g6 g7=>hQ1 _ rfl fr2 X [] g6 g7
      simp only [List.append_nil] at q
      exact q _ (by simp [f6]) (by simp [f7])
    · rw [if_pos ⟨hlt,h41⟩] at h
      have h41':(((chT s i:Nat):Int)=41)=False:=eq_false (by omega)
      obtain ⟨o1,h1⟩:∃o1,itemF m s i d=some o1:=by
        cases hq:itemF m s i d with
        | none=>rw [hq] at h;cases h
        | some o1=>exact ⟨o1,rfl⟩
      rw [h1] at h
      simp [itR,vf76,f0,f2,f6,f7,i0,hlt',hx,vlenT_str,h41']
      refine hO i d o1 h1 hlt hd lim H _ fun Z => ?_
      cases o1 with
      | none =>
        cases h
        simp [f0,f2,f6,f7,i0,i1,i2,i3,i4,iL,iS,iz,itO,zIt,lastO,lastS]
        exact hQ2 rfl _ _ Z (by simp [f6])
      | some r1 =>
        simp only at h
        obtain ⟨⟨a1,a2,a3,a4,a5⟩,a6⟩:=(read_ok m).2.1 s i d r1 h1 hi hd
        have hb1:n+r1.n≤1000000000000:=by
          have:=sub9 a1 a2 (9 ^ (8-d))
          omega
        have ha:=vadd_str (a:=w) (b:=r1.w) (by omega)
        simp (disch:=omega) [f0,f2,f6,f7,i0,i1,i2,i3,i4,iL,iS,iz,itO,zIt,lastO,lastS,wrap_i64,ha]
        refine cut_r (by rw [size_app];omega) ?_
        simp (disch:=omega) [f0,f2,f6,f7,itV,splice,lastO,lastS]
        have e1:(n:Int)+(r1.n:Int)=((n+r1.n:Nat):Int):=by omega
        rw [e1]
        refine hL r1.j d _ _ o h a2 hd (cutW_ltr (ltr_app hw a3)) (by rw [cutW_size,size_app];omega) (by have:=sub9 a1 a2 (9 ^ (8-d));omega) lim (H++Z) _ _ Q (by simp [f0]) (by simp [f2]) (by simp [f6]) (by simp [f7]) (fun r hr fr2 Y H2 g6 g7 => ?_) (fun hr fr2 Y H2 g6 => ?_)
        · rw [List.append_assoc];exact hQ1 r hr fr2 Y _ g6 g7
        · rw [List.append_assoc];exact hQ2 hr fr2 Y _ g6
  · have hlt':((i:Int)<(s.size:Int))=False:=eq_false (by omega)
    rw [if_neg (fun hh=>hlt hh.1)] at h
    cases h
    simp [itR,vf76,f0,f2,f6,f7,i0,hlt',vlenT_str]
    have q:=fun fr2 g6 g7=>hQ1 _ rfl fr2 X [] g6 g7
    simp only [List.append_nil] at q
    exact q _ (by simp [f6]) (by simp [f7])
omit hs in
theorem one_cut {i:Nat}(h:i<s.size):vslT (.str s) (some (.int .i64 (i:Int))) (some (.int .i64 ((i:Int)+1)))=some (.str (oneC (chT s i))):=by
  simp only [vslT,vbounds,vint]
  rw [if_pos (by omega),if_pos (by omega)]
  have e1:((i:Int)+1).toNat=i+1:=by omega
  simp only [Int.toNat_natCast,e1]
  obtain ⟨a,b⟩:=chT_cut h
  congr 2
  refine ba_ext (by rw [a,oneC_size]) fun k hk => ?_
  have:k=0:=by omega
  subst this
  rw [b,chT_oneC chT_lt]
omit hs in
theorem stop_at {m i d:Nat}{o:Option Rd}(h:itemF m s i d=some o)(hi:¬i<s.size∨chT s i=41):o=none:=by
  cases m with
  | zero=>simp [itemF] at h
  | succ m =>
    simp only [itemF] at h
    split at h
    · rename_i hlt
      rcases hi with hi | hi
      · exact absurd hlt hi
      · simp [hi,isL] at h;exact h.symm
    · cases h;rfl
def wO:Option Rd→ByteArray
  | some r=>r.w
  | none=>⟨#[]⟩
def jO:Option Rd→Nat
  | some r=>r.j
  | none=>0
def nO:Option Rd→Nat
  | some r=>r.n
  | none=>0
omit hs in
theorem itO_eq {o:Option Rd}:itO o=itV (jO o) (nO o) (wO o) o.isSome:=by
  cases o<;>rfl
omit hs in
theorem map_opt {f:ByteArray→ByteArray}(hf:f ⟨#[]⟩=⟨#[]⟩){x:Option (Option Rd)}{o:Option Rd}(h:Rd.map f x=some o):∃o1,x=some o1∧itO o=itV (jO o1) (nO o1) (f (wO o1)) o1.isSome:=by
  unfold Rd.map at h
  split at h
  · rename_i r;cases h;exact ⟨some r,rfl,rfl⟩
  · rename_i hne
    refine ⟨o,h,?_⟩
    cases o with
    | none=>simp only [itO,zIt,jO,nO,wO,hf];rfl
    | some r=>exact absurd h (hne r)
omit hs in
theorem inW0:inW ⟨#[]⟩=⟨#[]⟩:=rfl
omit hs in
theorem moW0:moW ⟨#[]⟩=⟨#[]⟩:=rfl
omit hs in
theorem flW0:flW ⟨#[]⟩=⟨#[]⟩:=rfl
theorem stepOne (hO:OneR s m) (hI:∀k,m=k+1→ItsR s k):OneR s (m+1):=by
  intro i d o h hlt hd lim H K hK
  simp only [itemF,if_pos hlt] at h
  have hx:=idxT hlt
  have lf:∀c:Nat,isL c=false→((c:Int)=97)=False∧((c:Int)=65)=False∧((c:Int)=98)=False∧((c:Int)=66)=False:=by
    intro c hc
    simp only [isL,Bool.or_eq_false_iff,decide_eq_false_iff_not] at hc
    exact ⟨eq_false (by omega),eq_false (by omega),eq_false (by omega),eq_false (by omega)⟩
  refine VCall_fn tbl_at91 rfl ?_
  simp [vf91,hx]
  refine isLetter_t ?_
  cases hL:isL (chT s i) with
  | true =>
    rw [if_pos hL] at h
    cases h
    have:=hK []
    rw [List.append_nil] at this
    simp (disch:=omega) [one_cut hlt,wrap_i64,splice,rq0,rq1,rq2,rq3,rq4]
    simp [itO,itV] at this
    exact this
  | false =>
    rw [if_neg (by simp [hL])] at h
    have pre:∀o1,itemF m s (i+1) d=some o1→((i:Int)+1=(s.size:Int))∨((i:Int)+1<(s.size:Int)∧chT s (i+1)=41)→o1=none:=by
      intro o1 h1 h2
      refine stop_at h1 ?_
      rcases h2 with h2 | h2
      · left;omega
      · right;exact h2.2
    have wok:∀o1,itemF m s (i+1) d=some o1→ltr (wO o1)∧(wO o1).size≤61:=by
      intro o1 h1
      cases o1 with
      | none=>exact ⟨ltr_nil,show (0:Nat)≤61 by omega⟩
      | some r =>
        obtain ⟨⟨a1,a2,a3,a4,a5⟩,a6⟩:=(read_ok m).2.1 s (i+1) d r h1 hlt hd
        exact ⟨a3,by simp only [wO];omega⟩
    by_cases e33:chT s i=33
    · rw [if_pos e33] at h
      obtain ⟨o1,h1,ho⟩:=map_opt inW0 h
      rw [ho] at hK
      rw [e33]
      by_cases hend:i+1=s.size
      · have:=pre o1 h1 (Or.inl (by omega))
        subst this
        have h2:((i:Int)+1=(s.size:Int))=True:=eq_true (by omega)
        have:=hK []
        rw [List.append_nil] at this
        simp [jO,nO,wO,inW0,itV] at this
        simp (disch:=omega) [wrap_i64,vlenT_str,h2,splice,rq0,rq1,rq2,rq3,rq4]
        exact this
      have hlt2:i+1<s.size:=by omega
      have h2:((i:Int)+1=(s.size:Int))=False:=eq_false (by omega)
      have hx2:vidxT (.str s) (.int .i64 ((i:Int)+1))=some (.int .u8 (chT s (i+1):Nat)):=idxT (i:=i+1) hlt2
      by_cases h41:chT s (i+1)=41
      · have:=pre o1 h1 (Or.inr ⟨by omega,h41⟩)
        subst this
        rw [h41] at hx2
        have:=hK []
        rw [List.append_nil] at this
        simp [jO,nO,wO,inW0,itV] at this
        simp (disch:=omega) [wrap_i64,vlenT_str,h2,hx2,splice,rq0,rq1,rq2,rq3,rq4]
        exact this
      have h41':(((chT s (i+1):Nat):Int)=41)=False:=eq_false (by omega)
      obtain ⟨wl,ws⟩:=wok o1 h1
      simp (disch:=omega) [wrap_i64,vlenT_str,h2,hx2,h41']
      refine hO (i+1) d o1 h1 hlt2 hd lim H _ fun X => ?_
      rw [itO_eq]
      generalize hw:wO o1=w1 at wl ws hK
      simp [i0,i1,i2,i3,i4,iL,iS,iz,zIt]
      refine swappedL_r (by omega) wl fun Y => ?_
      simp
      refine backwardL_r (by rw [mp_size];omega) ?_
      simp [itV,splice,rq0,rq1,rq2,rq3,rq4]
      have:=hK (X++Y)
      simp [itV,inW] at this
      exact this
    rw [if_neg e33] at h
    have n33:(((chT s i:Nat):Int)=33)=False:=eq_false (by omega)
    by_cases e126:chT s i=126
    · rw [if_pos e126] at h
      obtain ⟨o1,h1,ho⟩:=map_opt moW0 h
      rw [ho] at hK
      rw [e126]
      by_cases hend:i+1=s.size
      · have:=pre o1 h1 (Or.inl (by omega))
        subst this
        have h2:((i:Int)+1=(s.size:Int))=True:=eq_true (by omega)
        have:=hK []
        rw [List.append_nil] at this
        simp [jO,nO,wO,moW0,itV] at this
        simp (disch:=omega) [wrap_i64,vlenT_str,h2,splice,rq0,rq1,rq2,rq3,rq4]
        exact this
      have hlt2:i+1<s.size:=by omega
      have h2:((i:Int)+1=(s.size:Int))=False:=eq_false (by omega)
      have hx2:vidxT (.str s) (.int .i64 ((i:Int)+1))=some (.int .u8 (chT s (i+1):Nat)):=idxT (i:=i+1) hlt2
      by_cases h41:chT s (i+1)=41
      · have:=pre o1 h1 (Or.inr ⟨by omega,h41⟩)
        subst this
        rw [h41] at hx2
        have:=hK []
        rw [List.append_nil] at this
        simp [jO,nO,wO,moW0,itV] at this
        simp (disch:=omega) [wrap_i64,vlenT_str,h2,hx2,splice,rq0,rq1,rq2,rq3,rq4]
        exact this
      have h41':(((chT s (i+1):Nat):Int)=41)=False:=eq_false (by omega)
      obtain ⟨wl,ws⟩:=wok o1 h1
      simp (disch:=omega) [wrap_i64,vlenT_str,h2,hx2,h41']
      refine hO (i+1) d o1 h1 hlt2 hd lim H _ fun X => ?_
      rw [itO_eq]
      generalize hw:wO o1=w1 at wl ws hK
      simp [i0,i1,i2,i3,i4,iL,iS,iz,zIt]
      refine swappedL_r (by omega) wl fun Y => ?_
      simp [itV,splice,rq0,rq1,rq2,rq3,rq4]
      have:=hK (X++Y)
      simp [itV,moW] at this
      exact this
    rw [if_neg e126] at h
    have n126:(((chT s i:Nat):Int)=126)=False:=eq_false (by omega)
    by_cases e37:chT s i=37
    · rw [if_pos e37] at h
      obtain ⟨o1,h1,ho⟩:=map_opt flW0 h
      rw [ho] at hK
      rw [e37]
      by_cases hend:i+1=s.size
      · have:=pre o1 h1 (Or.inl (by omega))
        subst this
        have h2:((i:Int)+1=(s.size:Int))=True:=eq_true (by omega)
        have:=hK []
        rw [List.append_nil] at this
        simp [jO,nO,wO,flW0,itV] at this
        simp (disch:=omega) [wrap_i64,vlenT_str,h2,splice,rq0,rq1,rq2,rq3,rq4]
        exact this
      have hlt2:i+1<s.size:=by omega
      have h2:((i:Int)+1=(s.size:Int))=False:=eq_false (by omega)
      have hx2:vidxT (.str s) (.int .i64 ((i:Int)+1))=some (.int .u8 (chT s (i+1):Nat)):=idxT (i:=i+1) hlt2
      by_cases h41:chT s (i+1)=41
      · have:=pre o1 h1 (Or.inr ⟨by omega,h41⟩)
        subst this
        rw [h41] at hx2
        have:=hK []
        rw [List.append_nil] at this
        simp [jO,nO,wO,flW0,itV] at this
        simp (disch:=omega) [wrap_i64,vlenT_str,h2,hx2,splice,rq0,rq1,rq2,rq3,rq4]
        exact this
      have h41':(((chT s (i+1):Nat):Int)=41)=False:=eq_false (by omega)
      obtain ⟨wl,ws⟩:=wok o1 h1
      simp (disch:=omega) [wrap_i64,vlenT_str,h2,hx2,h41']
      refine hO (i+1) d o1 h1 hlt2 hd lim H _ fun X => ?_
      rw [itO_eq]
      generalize hw:wO o1=w1 at wl ws hK
      simp [i0,i1,i2,i3,i4,iL,iS,iz,zIt]
      refine flippedL_r (by omega) wl fun Y => ?_
      simp [itV,splice,rq0,rq1,rq2,rq3,rq4]
      have:=hK (X++Y)
      simp [itV,flW] at this
      exact this
    rw [if_neg e37] at h
    have n37:(((chT s i:Nat):Int)=37)=False:=eq_false (by omega)
    by_cases e40:chT s i=40
    · rw [if_pos e40] at h
      rw [e40]
      have n40:(((40:Nat):Int)=40)=True:=eq_true rfl
      cases hmk:m with
      | zero=>rw [hmk] at h;simp [groupF] at h
      | succ k =>
      rw [hmk] at h
      simp only [groupF] at h
      have zero:o=none→K (.agg [.int .i64 0,.int .i64 0,.str ⟨#[]⟩,.bool false]) H:=by
        rintro rfl
        have:=hK []
        rw [List.append_nil] at this
        exact this
      by_cases h8:8<d+1
      · rw [if_pos h8] at h
        cases h
        have e8:((d:Int)=8)=True:=eq_true (by omega)
        simp [e8,splice,rq0,rq1,rq2,rq3,rq4]
        exact zero rfl
      rw [if_neg h8] at h
      have e8:((d:Int)=8)=False:=eq_false (by omega)
      obtain ⟨o1,h1⟩:∃o1,itemsF k s (i+1) (d+1) ⟨#[]⟩ 0=some o1:=by
        cases hq:itemsF k s (i+1) (d+1) ⟨#[]⟩ 0 with
        | none=>rw [hq] at h;simp [grpF] at h
        | some o1=>exact ⟨o1,rfl⟩
      rw [h1] at h
      have e9:((d+1:Nat):Int)=(d:Int)+1:=by omega
      have e10:((i+1:Nat):Int)=(i:Int)+1:=by omega
      have its:=hI k hmk (i+1) (d+1) o1 h1 hlt (by omega) lim H
      rw [e9,e10] at its
      simp (disch:=omega) [e8,wrap_i64]
      refine its _ fun X => ?_
      cases o1 with
      | none =>
        simp [grpF] at h
        have:=hK X
        rw [←h] at this
        simp [itO,zIt,itV] at this ⊢
        simp [splice,rq0,rq1,rq2,rq3,rq4]
        exact this
      | some r1 =>
        obtain ⟨a1,a2,a3,a4,a5⟩:=(read_ok k).1 s (i+1) (d+1) _ 0 r1 h1 hlt (by omega) ltr_nil rfl
        have hnb:r1.n≤1000000000000:=by
          have:=nine (d:=d+1) (n:=r1.j-(i+1)) (by omega)
          omega
        have hz1:r1.w.size≤61:=by omega
        simp only [grpF] at h
        simp only [itO,iz]
        by_cases hj:r1.j<s.size
        case neg =>
          rw [if_neg hj] at h
          cases h
          have ej:((r1.j:Int)=(s.size:Int))=True:=eq_true (by omega)
          have:=hK X
          simp [itO,zIt,itV] at this
          simp [itV,zIt,splice,rq0,rq1,rq2,rq3,rq4,vlenT_str,ej]
          exact this
        rw [if_pos hj] at h
        have ej:((r1.j:Int)=(s.size:Int))=False:=eq_false (by omega)
        have plain:o=some ⟨cutW (rep r1.w 1),r1.j+1,r1.n⟩→∀Y,K (.agg [.int .i64 ((r1.j:Int)+1),.int .i64 r1.n,.str r1.w,.bool true]) (H++Y):=by
          rintro rfl Y
          have:=hK Y
          rw [rep_one,cut_id hz1] at this
          exact this
        by_cases hj2:r1.j+1<s.size
        case neg =>
          rw [if_neg (fun hh=>hj2 hh.1)] at h
          have ej2:((r1.j:Int)+1=(s.size:Int))=True:=eq_true (by omega)
          simp (disch:=omega) [itV,zIt,splice,rq0,rq1,rq2,rq3,rq4,vlenT_str,ej,ej2,wrap_i64]
          exact plain (Option.some.inj h).symm X
        have ej2:((r1.j:Int)+1=(s.size:Int))=False:=eq_false (by omega)
        have hx3:vidxT (.str s) (.int .i64 ((r1.j:Int)+1))=some (.int .u8 (chT s (r1.j+1):Nat)):=idxT (i:=r1.j+1) hj2
        by_cases h48:48≤chT s (r1.j+1)
        case neg =>
          rw [if_neg (fun hh=>h48 hh.2.1)] at h
          have f48:(((chT s (r1.j+1):Nat):Int)<48)=True:=eq_true (by omega)
          simp (disch:=omega) [itV,zIt,splice,rq0,rq1,rq2,rq3,rq4,vlenT_str,ej,ej2,hx3,f48,wrap_i64]
          exact plain (Option.some.inj h).symm X
        have f48:(((chT s (r1.j+1):Nat):Int)<48)=False:=eq_false (by omega)
        by_cases h57:chT s (r1.j+1)≤57
        case neg =>
          rw [if_neg (fun hh=>h57 hh.2.2)] at h
          have f57:((57:Int)<((chT s (r1.j+1):Nat):Int))=True:=eq_true (by omega)
          simp (disch:=omega) [itV,zIt,splice,rq0,rq1,rq2,rq3,rq4,vlenT_str,ej,ej2,hx3,f48,f57,wrap_i64]
          exact plain (Option.some.inj h).symm X
        have f57:((57:Int)<((chT s (r1.j+1):Nat):Int))=False:=eq_false (by omega)
        rw [if_pos ⟨hj2,h48,h57⟩] at h
        have wu:IntKind.wrap .u8 (((chT s (r1.j+1):Nat):Int)-48)=((chT s (r1.j+1)-48:Nat):Int):=by
          simp [IntKind.wrap,IntKind.bits,IntKind.signed];omega
        have hks:chT s (r1.j+1)-48≤9:=by omega
        have fin:=hK
        rw [←Option.some.inj h] at fin
        generalize chT s (r1.j+1)-48=c at wu hks fin
        have wi:IntKind.wrap .i64 (c:Int)=(c:Int):=wrap_i64 (by omega) (by omega)
        simp (disch:=omega) [itV,zIt,splice,rq0,rq1,rq2,rq3,rq4,vlenT_str,ej,ej2,hx3,f48,f57,wu,wi,wrap_i64]
        have hmul:(c:Int)*(r1.n:Int)=((c*r1.n:Nat):Int):=by simp
        have hmb:c*r1.n≤9*1000000000000:=Nat.mul_le_mul hks hnb
        have wm:IntKind.wrap .i64 ((c:Int)*(r1.n:Int))=((c*r1.n:Nat):Int):=by rw [hmul,wrap_i64 (by omega) (by omega)]
        refine wLoop_up c (fun q fr L H'=>(fr 6=.lp 0 0∧fr 9=.lp 1 0∧fr 10=.int .i64 c∧fr 11=.str (cutW (rep r1.w q))∧fr 12=.int .i64 q)∧L=[[.int .i64 0,.int .i64 0,.str ⟨#[]⟩,.bool false],[.int .i64 ((r1.j:Int)+1),.int .i64 r1.n,.str r1.w,.bool true]]∧H'=H++X∧q≤c) ⟨by simp [rep_zero];rfl,rfl,rfl,by omega⟩ ?_
        rintro q hq fr L H' ⟨⟨f6,f9,f10,f11,f12⟩,rfl,rfl,hle⟩
        by_cases hqc:q<c
        · have hqc':((q:Int)<(c:Int))=True:=eq_true (by omega)
          have hcz:=cutW_size (w:=rep r1.w q)
          have ha:=vadd_str (a:=cutW (rep r1.w q)) (b:=r1.w) (by omega)
          simp [f6,f9,f10,f11,f12,hqc',rq0,rq1,rq2,rq3,ha]
          refine cut_r (by rw [size_app];omega) ?_
          rw [cut_cut,rep_succ]
          simp (disch:=omega) [f6,f9,f10,f11,f12,wrap_i64]
          first | exact ⟨hqc,hqc⟩ | exact hqc
        · have hqc':((q:Int)<(c:Int))=False:=eq_false (by omega)
          have:q=c:=by omega
          subst this
          have fin:=fin X
          simp only [itO,itV] at fin
          have e2:((r1.j+2:Nat):Int)=(r1.j:Int)+1+1:=by omega
          rw [e2] at fin
          simp (disch:=omega) [f6,f9,f10,f11,f12,hqc',rq0,rq1,rq2,rq3,rq4,wm,splice,wrap_i64]
          exact fin
    · rw [if_neg e40] at h
      cases h
      have n40:(((chT s i:Nat):Int)=40)=False:=eq_false (by omega)
      have:=hK []
      rw [List.append_nil] at this
      simp [itO,zIt,itV] at this
      simp [n33,n126,n37,n40,splice,rq0,rq1,rq2,rq3,rq4]
      exact this
theorem all_read:∀m,∀k,k≤m→LoopR s k∧OneR s k
  | 0,k,hk=>by
    obtain rfl:k=0:=by omega
    exact ⟨fun i d w n o h=>by simp [itemsF] at h,fun i d o h=>by simp [itemF] at h⟩
  | m + 1,k,hk=>by
    have ih:=all_read m
    by_cases e:k=m+1
    · subst e
      obtain ⟨a,b⟩:=ih m (Nat.le_refl _)
      exact ⟨stepLoop hs a b,stepOne hs b fun k hk=>itemsR hs (ih k (by omega)).1⟩
    · exact ih k (by omega)
theorem items_r {o:Option Rd}(h:readP s=some o){lim:Nat}{H:Hp}{K:V→Hp→Prop}(hK:∀X,K (.agg (itO o)) (H++X)):VCall tbl lim 76 [.str s,.int .i64 0,.int .i64 0] H K :=
  itemsR hs (all_read hs (fuelP s) _ (Nat.le_refl _)).1 0 0 o h (Nat.zero_le _) (by omega) lim H K hK
end
theorem parse_r {H:Hp} {lim:Nat} {s t:ByteArray} {e:Int} {K:V→Hp→Prop} (hs:s.size≤100000) (h:parseP s=some (t,e)) (hK:∀X,K (.tup [.str t,.int .i64 e]) (H++X)):VCall tbl lim 53 [.str s] H K:=by
  refine VCall_fn tbl_at53 rfl ?_
  unfold parseP at h
  by_cases h4:s.size≤4000
  case neg =>
    rw [if_neg h4] at h
    cases h
    have h4':((4000:Int)<(s.size:Int))=True:=eq_true (by omega)
    have:=hK []
    rw [List.append_nil] at this
    simp [vf53,vlenT_str,h4']
    exact this
  rw [if_pos h4] at h
  have h4':((4000:Int)<(s.size:Int))=False:=eq_false (by omega)
  obtain ⟨o,ho⟩:=readP_some s
  rw [ho] at h
  simp [vf53,vlenT_str,h4']
  refine items_r h4 ho fun X => ?_
  cases o with
  | none =>
    cases h
    simp [itO,itV,zIt,splice,rq0,rq1,rq2,rq3]
    exact hK X
  | some r =>
    simp only at h
    obtain ⟨a1,a2,a3,a4,a5⟩:=(read_ok (fuelP s)).1 s 0 0 _ 0 r ho (Nat.zero_le _) (by omega) ltr_nil rfl
    by_cases hj:r.j<s.size
    · rw [if_pos hj] at h
      cases h
      have hj':((r.j:Int)<(s.size:Int))=True:=eq_true (by omega)
      simp [itO,itV,zIt,splice,rq0,rq1,rq2,rq3,hj',vlenT_str]
      exact hK X
    · rw [if_neg hj] at h
      have hj':((r.j:Int)<(s.size:Int))=False:=eq_false (by omega)
      by_cases h6:r.w.size≤60
      · rw [if_pos h6] at h
        cases h
        have h6':((60:Int)<(r.n:Int))=False:=eq_false (by omega)
        simp [itO,itV,zIt,splice,rq0,rq1,rq2,rq3,hj',h6',vlenT_str]
        exact hK X
      · rw [if_neg h6] at h
        cases h
        have h6':((60:Int)<(r.n:Int))=True:=eq_true (by omega)
        simp [itO,itV,zIt,splice,rq0,rq1,rq2,rq3,hj',h6',vlenT_str]
        exact hK X
theorem parse_t {H:Hp}{lim:Nat}{s t:ByteArray}{e:Int}{K:V→Hp→Prop}(hc:chkU8 H=true)(h:parseP s=some (t,e))(hK:K (.tup [.str t,.int .i64 e]) H):VCall tbl lim 52 [.str s] H K:=by
  refine VCall_prim (g:=pParse) (bs:=[]) tbl_at52 rfl rfl (v:=.tup [.str t,.int .i64 e]) ?_ (by simpa using hK)
  simp [pParse,flatP,hc,flatV,gParse,flatT,h]
theorem law_PlaitStyles {H:Hp}{lim:Nat}{s:ByteArray}{K:V→Hp→Prop}(hH:HX glHp H)(hlim:lim≤H.length)(h1:s.size≤maxLen)(hK:∀X,K (.bool true) (H++X)):VCall tbl lim 14 [.str s] H K:=by
  have hc:=chk_of hH
  refine VCall_fn tbl_at14 rfl ?_
  by_cases hu:5000<s.size
  · have hu':((5000:Int)<(s.size:Int))=True:=eq_true (by omega)
    simp [vf14,vlenT_str,hu']
    exact known_t hc hlim fun X=>by simp;exact hK X
  have hu':((5000:Int)<(s.size:Int))=False:=eq_false (by omega)
  obtain ⟨t,e,hp⟩:=parseP_some s
  simp [vf14,vlenT_str,hu']
  refine parse_t hc hp ?_
  simp
  refine parse_r (by omega) hp fun X => ?_
  simp [veq_self]
  exact known_t (chk_app hc) (by simp;omega) fun W=>by simp;exact hK _
end Go.Proofs.YtalejadhccgckaaDoor.Vm
