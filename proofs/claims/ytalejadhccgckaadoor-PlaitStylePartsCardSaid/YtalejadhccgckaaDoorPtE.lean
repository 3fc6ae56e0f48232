/- Styles in parts: the pure reader over a text in two parts; the law PlaitStyleParts. -/
import Derived.Test.YtalejadhccgckaaDoorPtB
import Derived.Test.YtalejadhccgckaaDoorPmE
namespace Go.Proofs.YtalejadhccgckaaDoor.Vm
open Go
set_option maxRecDepth 100000
set_option linter.unusedSimpArgs false
set_option linter.unusedVariables false
attribute [-simp] List.getD_eq_getElem?_getD
def itS (c:Nat)(x g:Option (Option Rd))(i:Nat):Option (Option Rd) :=
  if isL c=true then some (some ⟨oneC c,i+1,1⟩)
  else if c=33 then Rd.map inW x
  else if c=126 then Rd.map moW x
  else if c=37 then Rd.map flW x
  else if c=40 then g
  else some none
theorem itemF_eq {m i d:Nat}{s:ByteArray}(h:i<s.size):itemF (m+1) s i d=itS (chT s i) (itemF m s (i+1) d) (groupF m s (i+1) d) i:=by
  simp only [itemF,if_pos h,itS]
theorem itemF_end {m i d:Nat}{s:ByteArray}(h:¬i<s.size):itemF (m+1) s i d=some none:=by
  simp only [itemF,if_neg h]
theorem map_mono {f:ByteArray→ByteArray}{x x':Option (Option Rd)}{o:Option Rd}(h:Rd.map f x=some o)(hx:∀o,x=some o→x'=some o):Rd.map f x'=some o:=by
  cases hq:x with
  | none=>rw [hq] at h;simp [Rd.map] at h
  | some o1=>rw [hx o1 hq,←hq];exact h
theorem itS_mono {c i:Nat}{x g x' g':Option (Option Rd)}{o:Option Rd}(h:itS c x g i=some o)(hx:∀o,x=some o→x'=some o)(hg:∀o,g=some o→g'=some o):itS c x' g' i=some o:=by
  unfold itS at h ⊢
  by_cases h1:isL c=true
  · rw [if_pos h1] at h ⊢;exact h
  rw [if_neg h1] at h ⊢
  by_cases h2:c=33
  · rw [if_pos h2] at h ⊢;exact map_mono h hx
  rw [if_neg h2] at h ⊢
  by_cases h3:c=126
  · rw [if_pos h3] at h ⊢;exact map_mono h hx
  rw [if_neg h3] at h ⊢
  by_cases h4:c=37
  · rw [if_pos h4] at h ⊢;exact map_mono h hx
  rw [if_neg h4] at h ⊢
  by_cases h5:c=40
  · rw [if_pos h5] at h ⊢;exact hg _ h
  rw [if_neg h5] at h ⊢;exact h
theorem grp_mono {s:ByteArray}{x x':Option (Option Rd)}{o:Option Rd}(h:grpF s x=some o)(hx:∀o,x=some o→x'=some o):grpF s x'=some o:=by
  cases hq:x with
  | none=>rw [hq] at h;simp [grpF] at h
  | some o1=>rw [hx o1 hq,←hq];exact h
theorem read_mono:∀m:Nat,(∀(s:ByteArray) (i d:Nat) (w:ByteArray) (n:Nat) (o:Option Rd),itemsF m s i d w n=some o→∀k,itemsF (m+k) s i d w n=some o) ∧
    (∀(s:ByteArray) (i d:Nat) (o:Option Rd),itemF m s i d=some o→∀k,itemF (m+k) s i d=some o) ∧
    (∀(s:ByteArray) (i d:Nat) (o:Option Rd),groupF m s i d=some o→∀k,groupF (m+k) s i d=some o)
  | 0=>⟨fun s i d w n o h=>by simp [itemsF] at h,fun s i d o h=>by simp [itemF] at h,fun s i d o h=>by simp [groupF] at h⟩
  | m + 1 => by
    obtain ⟨hA,hB,hC⟩:=read_mono m
    refine ⟨fun s i d w n o h k => ?_,fun s i d o h k => ?_,fun s i d o h k => ?_⟩
    all_goals rw [show m+1+k=(m+k)+1 by omega]
    · simp only [itemsF] at h ⊢
      by_cases hc:i<s.size∧chT s i≠41
      · rw [if_pos hc] at h ⊢
        cases hq:itemF m s i d with
        | none=>rw [hq] at h;cases h
        | some o1 =>
          rw [hq] at h
          rw [hB _ _ _ _ hq k]
          cases o1 with
          | none=>exact h
          | some r1=>exact hA _ _ _ _ _ _ h k
      · rw [if_neg hc] at h ⊢;exact h
    · by_cases hc:i<s.size
      · rw [itemF_eq hc] at h ⊢
        exact itS_mono h (fun o ho=>hB _ _ _ _ ho k) (fun o ho=>hC _ _ _ _ ho k)
      · rw [itemF_end hc] at h ⊢;exact h
    · simp only [groupF] at h ⊢
      split at h
      · rename_i hd;rw [if_pos hd];exact h
      · rename_i hd;rw [if_neg hd];exact grp_mono h fun o ho=>hA _ _ _ _ _ _ ho k
section
variable {x y:ByteArray}
theorem app_lo {i:Nat}(h:i<x.size):chT (x++y) i=chT x i:=by rw [chT_app,if_pos h]
theorem app_hi {i:Nat}:chT (x++y) (x.size+i)=chT y i:=by rw [chT_app,if_neg (by omega)];congr 1;omega
def dig (y:ByteArray):Prop:=0<y.size∧48≤chT y 0∧chT y 0≤57
theorem map_ok {f:ByteArray→ByteArray}{x x':Option (Option Rd)}{r:Rd}(h:Rd.map f x=some (some r))(hx:∀r,x=some (some r)→x'=some (some r)):Rd.map f x'=some (some r):=by
  unfold Rd.map at h
  split at h
  · rename_i r1;rw [hx r1 rfl];exact h
  · rename_i hne;exact absurd h (hne r)
theorem itS_ok {c i:Nat}{x g x' g':Option (Option Rd)}{r:Rd}(h:itS c x g i=some (some r))(hx:∀r,x=some (some r)→x'=some (some r))(hg:∀r,g=some (some r)→g'=some (some r)):itS c x' g' i=some (some r):=by
  unfold itS at h ⊢
  by_cases h1:isL c=true
  · rw [if_pos h1] at h ⊢;exact h
  rw [if_neg h1] at h ⊢
  by_cases h2:c=33
  · rw [if_pos h2] at h ⊢;exact map_ok h hx
  rw [if_neg h2] at h ⊢
  by_cases h3:c=126
  · rw [if_pos h3] at h ⊢;exact map_ok h hx
  rw [if_neg h3] at h ⊢
  by_cases h4:c=37
  · rw [if_pos h4] at h ⊢;exact map_ok h hx
  rw [if_neg h4] at h ⊢
  by_cases h5:c=40
  · rw [if_pos h5] at h ⊢;exact hg _ h
  rw [if_neg h5] at h ⊢;exact h
theorem read_first (hy:¬dig y):∀m:Nat,(∀(i d:Nat) (w:ByteArray) (n:Nat) (r:Rd),itemsF m x i d w n=some (some r)→r.j<x.size→itemsF m (x++y) i d w n=some (some r)) ∧
    (∀(i d:Nat) (r:Rd),itemF m x i d=some (some r)→itemF m (x++y) i d=some (some r)) ∧
    (∀(i d:Nat) (r:Rd),groupF m x i d=some (some r)→groupF m (x++y) i d=some (some r))
  | 0=>⟨fun i d w n r h=>by simp [itemsF] at h,fun i d r h=>by simp [itemF] at h,fun i d r h=>by simp [groupF] at h⟩
  | m + 1 => by
    obtain ⟨hA,hB,hC⟩:=read_first hy m
    have hsz:(x++y).size=x.size+y.size:=size_app
    refine ⟨fun i d w n r h hj => ?_,fun i d r h => ?_,fun i d r h => ?_⟩
    · simp only [itemsF] at h ⊢
      by_cases hc:i<x.size∧chT x i≠41
      · rw [if_pos hc] at h
        rw [if_pos ⟨by omega,by rw [app_lo hc.1];exact hc.2⟩]
        cases hq:itemF m x i d with
        | none=>rw [hq] at h;cases h
        | some o1 =>
          rw [hq] at h
          cases o1 with
          | none=>cases h
          | some r1 =>
            rw [hB _ _ _ hq]
            exact hA _ _ _ _ _ h hj
      · rw [if_neg hc] at h
        cases h
        have hj:i<x.size:=hj
        rw [if_neg (fun hh=>hc ⟨hj,by rw [←app_lo (y:=y) hj];exact hh.2⟩)]
    · by_cases hc:i<x.size
      · rw [itemF_eq hc] at h
        rw [itemF_eq (by omega),app_lo hc]
        exact itS_ok h (fun r hr=>hB _ _ _ hr) (fun r hr=>hC _ _ _ hr)
      · rw [itemF_end hc] at h;cases h
    · simp only [groupF] at h ⊢
      split at h
      · cases h
      rename_i hd
      rw [if_neg hd]
      cases hq:itemsF m x i (d+1) ⟨#[]⟩ 0 with
      | none=>rw [hq] at h;simp [grpF] at h
      | some o1 =>
        rw [hq] at h
        cases o1 with
        | none=>simp [grpF] at h
        | some r1 =>
          simp only [grpF] at h
          split at h
          case isFalse=>cases h
          rename_i hj
          rw [hA _ _ _ _ _ hq hj]
          simp only [grpF]
          rw [if_pos (by omega)]
          by_cases hj2:r1.j+1<x.size
          · rw [app_lo hj2,←h]
            congr 1
            simp only [hj2,show r1.j+1<(x++y).size by omega]
          · rw [if_neg (fun hh=>hj2 hh.1)] at h
            rw [if_neg ?_]
            · exact h
            · rintro ⟨a,b,c⟩
              have e:r1.j+1=x.size+0:=by omega
              rw [e,app_hi] at b c
              exact hy ⟨by omega,b,c⟩
def shR (a:Nat):Option (Option Rd)→Option (Option Rd)
  | some (some r)=>some (some ⟨r.w,a+r.j,r.n⟩)
  | r=>r
theorem map_sh {a:Nat}{f:ByteArray→ByteArray}{x:Option (Option Rd)}:Rd.map f (shR a x)=shR a (Rd.map f x):=by
  match x with
  | none=>rfl
  | some none=>rfl
  | some (some r)=>rfl
theorem itS_sh {a c i:Nat}{x g:Option (Option Rd)}:itS c (shR a x) (shR a g) (a+i)=shR a (itS c x g i):=by
  unfold itS
  by_cases h1:isL c=true
  · rw [if_pos h1,if_pos h1];rfl
  rw [if_neg h1,if_neg h1]
  by_cases h2:c=33
  · rw [if_pos h2,if_pos h2];exact map_sh
  rw [if_neg h2,if_neg h2]
  by_cases h3:c=126
  · rw [if_pos h3,if_pos h3];exact map_sh
  rw [if_neg h3,if_neg h3]
  by_cases h4:c=37
  · rw [if_pos h4,if_pos h4];exact map_sh
  rw [if_neg h4,if_neg h4]
  by_cases h5:c=40
  · rw [if_pos h5,if_pos h5]
  rw [if_neg h5,if_neg h5];rfl
theorem grp_sh {o:Option (Option Rd)}:grpF (x++y) (shR x.size o)=shR x.size (grpF y o):=by
  have hsz:(x++y).size=x.size+y.size:=size_app
  match o with
  | none=>rfl
  | some none=>rfl
  | some (some r) =>
    simp only [shR,grpF]
    by_cases h1:r.j<y.size
    · rw [if_pos h1,if_pos (by omega),show x.size+r.j+1=x.size+(r.j+1) by omega,app_hi]
      by_cases h2:r.j+1<y.size∧48≤chT y (r.j+1)∧chT y (r.j+1)≤57
      · rw [if_pos h2,if_pos ⟨by omega,h2.2⟩];rfl
      · rw [if_neg h2,if_neg (fun hh=>h2 ⟨by omega,hh.2⟩)]
    · rw [if_neg h1,if_neg (by omega)]
theorem read_shift:∀m:Nat,(∀(i d:Nat) (w:ByteArray) (n:Nat),itemsF m (x++y) (x.size+i) d w n=shR x.size (itemsF m y i d w n)) ∧
    (∀(i d:Nat),itemF m (x++y) (x.size+i) d=shR x.size (itemF m y i d)) ∧
    (∀(i d:Nat),groupF m (x++y) (x.size+i) d=shR x.size (groupF m y i d))
  | 0=>⟨fun i d w n=>by simp [itemsF,shR],fun i d=>by simp [itemF,shR],fun i d=>by simp [groupF,shR]⟩
  | m + 1=>by
    obtain ⟨hA,hB,hC⟩:=read_shift m
    have hsz:(x++y).size=x.size+y.size:=size_app
    refine ⟨fun i d w n => ?_,fun i d => ?_,fun i d => ?_⟩
    · simp only [itemsF,app_hi]
      by_cases hc:i<y.size∧chT y i≠41
      · rw [if_pos hc,if_pos ⟨by omega,hc.2⟩,hB]
        match itemF m y i d with
        | none=>rfl
        | some none=>rfl
        | some (some r)=>exact hA _ _ _ _
      · rw [if_neg hc,if_neg (fun hh=>hc ⟨by omega,hh.2⟩)];rfl
    · by_cases hc:i<y.size
      · rw [itemF_eq hc,itemF_eq (by omega),app_hi,Nat.add_assoc,hB,hC,itS_sh]
      · rw [itemF_end hc,itemF_end (by omega)];rfl
    · simp only [groupF]
      split
      · rfl
      · rw [hA,grp_sh]
end
def accR (a:ByteArray)(na:Nat):Option (Option Rd)→Option (Option Rd)
  | some (some r)=>some (some ⟨cutW (a++r.w),r.j,na+r.n⟩)
  | r=>r
theorem cut_in {a b:ByteArray}:cutW (a++cutW b)=cutW (a++b):=by
  by_cases h:b.size≤61
  · rw [cut_id h]
  · have e:cutW b=b.extract 0 61:=by unfold cutW;rw [if_neg h]
    have hz:(b.extract 0 61).size=61:=by rw [ByteArray.size_extract];omega
    refine ba_ext (by rw [cutW_size,cutW_size,size_app,size_app,e,hz];omega) fun i hi => ?_
    rw [cutW_size,size_app,e,hz] at hi
    have g:∀x:ByteArray,i<x.size→chT (cutW x) i=chT x i:=by
      intro x hx
      unfold cutW
      split
      · rfl
      · exact get_cut (by omega)
    rw [g _ (by rw [size_app,e,hz];omega),g _ (by rw [size_app];omega),chT_app,chT_app,e]
    split
    · rfl
    · exact get_cut (by omega)
theorem read_acc {a:ByteArray} {na:Nat}:∀(m:Nat) (s:ByteArray) (i d:Nat) (w:ByteArray) (n:Nat),itemsF m s i d (cutW (a++w)) (na+n)=accR a na (itemsF m s i d w n)
  | 0,_,_,_,_,_=>by simp [itemsF,accR]
  | m + 1,s,i,d,w,n=>by
    simp only [itemsF]
    by_cases hc:i<s.size∧chT s i≠41
    · rw [if_pos hc,if_pos hc]
      match itemF m s i d with
      | none=>rfl
      | some none=>rfl
      | some (some r) =>
        simp only
        rw [←read_acc m,cut_in,cut_cut,ByteArray.append_assoc,Nat.add_assoc]
    · rw [if_neg hc,if_neg hc];rfl
section
variable {x y:ByteArray}
theorem read_on (hy:¬dig y):∀(m i d:Nat) (w:ByteArray) (n:Nat) (r:Rd),itemsF m x i d w n=some (some r)→¬r.j<x.size→i≤x.size→d≤8→∃m',m'≠0∧∀k,itemsF (m+k) (x++y) i d w n=itemsF (m'+k) (x++y) x.size d r.w r.n
  | 0,i,d,w,n,r,h=>by simp [itemsF] at h
  | m + 1,i,d,w,n,r,h=>by
    intro hj hi hd
    have hsz:(x++y).size=x.size+y.size:=size_app
    have h':=h
    simp only [itemsF] at h
    by_cases hc:i<x.size∧chT x i≠41
    · rw [if_pos hc] at h
      cases hq:itemF m x i d with
      | none=>rw [hq] at h;cases h
      | some o1 =>
        rw [hq] at h
        cases o1 with
        | none=>cases h
        | some r1 =>
          obtain ⟨⟨a1,a2,a3,a4,a5⟩,a6⟩:=(read_ok m).2.1 x i d r1 hq hi hd
          obtain ⟨m',h0,hm⟩:=read_on hy m _ _ _ _ r h hj a2 hd
          refine ⟨m',h0,fun k => ?_⟩
          rw [show m+1+k=(m+k)+1 by omega]
          simp only [itemsF]
          rw [if_pos ⟨by omega,by rw [app_lo hc.1];exact hc.2⟩,(read_mono m).2.1 _ _ _ _ ((read_first hy m).2.1 _ _ _ hq) k]
          exact hm k
    · rw [if_neg hc] at h
      cases h
      have hj:¬i<x.size:=hj
      have e:i=x.size:=by omega
      subst e
      exact ⟨m+1,by omega,fun k=>rfl⟩
end
theorem fuel_eq {s w:ByteArray}{m m' i d n:Nat}{o o':Option Rd}(h:itemsF m s i d w n=some o)(h':itemsF m' s i d w n=some o'):o=o':=by
  have a:=(read_mono m).1 _ _ _ _ _ _ h m'
  have b:=(read_mono m').1 _ _ _ _ _ _ h' m
  rw [Nat.add_comm,b] at a
  cases a;rfl
theorem readP_of {s:ByteArray}{m:Nat}{o:Option Rd}(h:itemsF m s 0 0 ⟨#[]⟩ 0=some o):readP s=some o:=by
  obtain ⟨o',ho⟩:=readP_some s
  rw [ho,fuel_eq h ho]
theorem app_nil {a:ByteArray}:a++(⟨#[]⟩:ByteArray)=a:=ByteArray.append_empty
theorem nil_app {a:ByteArray}:(⟨#[]⟩:ByteArray)++a=a:=ByteArray.empty_append
theorem read_two {x y:ByteArray}(hy:¬dig y){m m2 d:Nat}{r r2:Rd}(hd:d≤8)(h:itemsF m x 0 d ⟨#[]⟩ 0=some (some r))(hj:¬r.j<x.size)(hr:r.w.size≤61)(h2:itemsF m2 y 0 d ⟨#[]⟩ 0=some (some r2)) :
    ∃M,itemsF M (x++y) 0 d ⟨#[]⟩ 0=some (some ⟨cutW (r.w++r2.w),x.size+r2.j,r.n+r2.n⟩):=by
  obtain ⟨m',h0,hm⟩:=read_on hy m 0 d _ _ r h hj (by omega) hd
  refine ⟨m+m2,?_⟩
  rw [hm m2]
  have e1:=(read_mono m2).1 _ _ _ _ _ _ h2 m'
  have e2:=read_acc (a:=r.w) (na:=r.n) (m2+m') y 0 d ⟨#[]⟩ 0
  rw [e1,app_nil,cut_id hr] at e2
  have e3:=(read_shift (x:=x) (y:=y) (m2+m')).1 0 d r.w r.n
  rw [show r.n=r.n+0 by omega] at e3
  rw [Nat.add_zero,e2] at e3
  rw [Nat.add_comm m' m2]
  exact e3
theorem read_word {u:ByteArray} (hu:ltr u) (hz:u.size≤61) {d:Nat}:∀k i:Nat,i+k=u.size→itemsF (k+1+1) u i d (u.extract 0 i) i=some (some ⟨u,u.size,u.size⟩)
  | 0,i,h=>by
    simp only [itemsF]
    rw [if_neg (by omega)]
    have:i=u.size:=by omega
    subst this
    rw [ByteArray.extract_zero_size]
  | k + 1,i,h=>by
    have hi:i<u.size:=by omega
    have hl:=hu i hi
    have hc:chT u i≠41:=by intro e;rw [e] at hl;cases hl
    rw [itemsF]
    rw [if_pos ⟨hi,hc⟩,itemF_eq hi]
    unfold itS
    rw [if_pos hl]
    simp only
    have e:u.extract 0 i++oneC (chT u i)=u.extract 0 (i+1):=by
      have z:(u.extract 0 i).size=i:=by rw [ByteArray.size_extract];omega
      refine ba_ext (by rw [size_app,z,oneC_size,ByteArray.size_extract];omega) fun j hj => ?_
      rw [size_app,z,oneC_size] at hj
      rw [chT_app,z,show chT (u.extract 0 (i+1)) j=chT u j from get_cut (by omega)]
      split
      · rename_i hlt;exact get_cut hlt
      · have:j=i:=by omega
        subst this
        rw [Nat.sub_self,chT_oneC chT_lt]
    rw [e,cut_id (by rw [ByteArray.size_extract];omega)]
    exact read_word hu hz k (i+1) (by omega)
theorem read_self {u:ByteArray}(hu:ltr u)(hz:u.size≤61)(d:Nat):∃m,itemsF m u 0 d ⟨#[]⟩ 0=some (some ⟨u,u.size,u.size⟩):=by
  have h:=read_word hu hz (d:=d) u.size 0 (by omega)
  have e:u.extract 0 0=⟨#[]⟩:=by
    have z:(u.extract 0 0).size=0:=by rw [ByteArray.size_extract];omega
    exact ba_ext (by rw [z];rfl) fun i hi=>by omega
  rw [e] at h
  exact ⟨_,h⟩
theorem parse_of {s:ByteArray}{m:Nat}{r:Rd}(h:itemsF m s 0 0 ⟨#[]⟩ 0=some (some r))(hj:¬r.j<s.size)(hs:s.size≤4000):parseP s=some (if r.w.size≤60 then (r.w,0) else (⟨#[]⟩,4)):=by
  unfold parseP
  rw [if_pos hs,readP_of h]
  simp only
  rw [if_neg hj]
  split<;>rfl
theorem parse_inv {s t:ByteArray} (h:parseP s=some (t,0)):s.size≤4000∧t.size≤60∧ltr t∧∃m r,itemsF m s 0 0 ⟨#[]⟩ 0=some (some r)∧¬r.j<s.size∧r.w=t:=by
  unfold parseP at h
  split at h
  case isFalse=>cases h
  rename_i hs
  obtain ⟨o,ho⟩:=readP_some s
  rw [ho] at h
  cases o with
  | none=>cases h
  | some r =>
    simp only at h
    obtain ⟨a1,a2,a3,a4,a5⟩:=(read_ok (fuelP s)).1 s 0 0 _ 0 r ho (Nat.zero_le _) (by omega) ltr_nil rfl
    split at h
    · cases h
    · rename_i hj
      split at h
      · rename_i hz
        cases h
        exact ⟨hs,hz,a3,_,r,ho,hj,rfl⟩
      · cases h
theorem ndig {c:Nat}{y:ByteArray}(hc:c<256)(h:c<48∨57<c):¬dig (oneC c++y):=by
  rintro ⟨-,a,b⟩
  have e:=app_lo (x:=oneC c) (y:=y) (i:=0) (by rw [oneC_size];omega)
  rw [e,chT_oneC hc] at a b
  omega
theorem at_one {c:Nat}{y:ByteArray}(hc:c<256):chT (oneC c++y) 0=c:=by
  rw [app_lo (by rw [oneC_size];omega),chT_oneC hc]
theorem at_sec {c i:Nat}{y:ByteArray}:chT (oneC c++y) (1+i)=chT y i:=app_hi
theorem read_br {u z:ByteArray}(hu:ltr u)(hz:u.size≤61){k q:Nat}(hq:(q=1∧k=1∧z.size=0)∨(q=2∧k≤9∧z=oneC (48+k))):∃m,itemF m (oneC 40++(u++(oneC 41++z))) 0 0=some (some ⟨cutW (rep u k),u.size+1+q,k*u.size⟩):=by
  obtain ⟨m,hm⟩:=read_self hu hz 1
  have hz2:(oneC 41++z).size=1+z.size:=by rw [size_app,oneC_size]
  obtain ⟨m',h0,h1⟩:=read_on (x:=u) (y:=oneC 41++z) (ndig (by omega) (by omega)) m 0 1 _ _ _ hm (by simp) (by omega) (by omega)
  have h2:itemsF (m'+0) (u++(oneC 41++z)) u.size 1 u u.size=some (some ⟨u,u.size,u.size⟩):=by
    obtain ⟨p,rfl⟩:∃p,m'=p+1:=⟨m'-1,by omega⟩
    rw [Nat.add_zero,itemsF]
    have e:chT (u++(oneC 41++z)) u.size=41:=by
      have:=app_hi (x:=u) (y:=oneC 41++z) (i:=0)
      rw [Nat.add_zero] at this
      rw [this,at_one (by omega)]
    rw [if_neg (fun hh=>hh.2 e)]
  have h3:=h1 0
  rw [h2] at h3
  have h4:=(read_shift (x:=oneC 40) (y:=u++(oneC 41++z)) (m+0)).1 0 1 ⟨#[]⟩ 0
  rw [h3] at h4
  simp only [shR,oneC_size,Nat.add_zero] at h4
  refine ⟨m+1+1,?_⟩
  have hs:(oneC 40++(u++(oneC 41++z))).size=1+(u.size+(1+z.size)):=by rw [size_app,size_app,hz2,oneC_size]
  rw [itemF_eq (by omega),at_one (by omega)]
  unfold itS
  rw [if_neg (by decide),if_neg (by decide),if_neg (by decide),if_neg (by decide),if_pos rfl,groupF,if_neg (by decide)]
  show grpF _ (itemsF m _ 1 1 ⟨#[]⟩ 0)=_
  rw [h4]
  simp only [grpF]
  rw [if_pos (by omega)]
  have e2:chT (oneC 40++(u++(oneC 41++z))) (1+u.size+1)=chT z 0:=by
    have e3:=at_sec (c:=40) (i:=u.size+(1+0)) (y:=u++(oneC 41++z))
    rw [show 1+u.size+1=1+(u.size+(1+0)) by omega]
    exact e3.trans (app_hi.trans at_sec)
  rw [e2]
  rcases hq with ⟨rfl,rfl,h0⟩ | ⟨rfl,hk,rfl⟩
  · rw [if_neg (by omega),Nat.one_mul]
    congr 3;omega
  · rw [chT_oneC (by omega),oneC_size] at *
    rw [if_pos ⟨by omega,by omega,by omega⟩,show 48+k-48=k by omega]
    congr 3;omega
theorem read_one {s:ByteArray}{m n:Nat}{w:ByteArray}(hs:0<s.size)(h41:chT s 0≠41)(h:itemF m s 0 0=some (some ⟨w,s.size,n⟩)):∃M,itemsF M s 0 0 ⟨#[]⟩ 0=some (some ⟨cutW w,s.size,n⟩):=by
  refine ⟨m+1+1,?_⟩
  rw [itemsF,if_pos ⟨hs,h41⟩,(read_mono m).2.1 _ _ _ _ h 1]
  simp only
  rw [itemsF,if_neg (by omega),nil_app,Nat.zero_add]
theorem read_sg {c:Nat}{g w:ByteArray}{m n j:Nat}{f:ByteArray→ByteArray}(hc:(c=33∧f=inW)∨(c=126∧f=moW)∨(c=37∧f=flW))(h:itemF m g 0 0=some (some ⟨w,j,n⟩)):itemF (m+1) (oneC c++g) 0 0=some (some ⟨f w,1+j,n⟩):=by
  have hs:(oneC c++g).size=1+g.size:=by rw [size_app,oneC_size]
  have e:=(read_shift (x:=oneC c) (y:=g) m).2.1 0 0
  rw [h] at e
  simp only [shR,oneC_size,Nat.add_zero] at e
  rw [itemF_eq (by omega),at_one (by omega)]
  unfold itS
  show (if _ then _ else if _ then Rd.map inW (itemF m _ 1 0) else if _ then Rd.map moW (itemF m _ 1 0) else if _ then Rd.map flW (itemF m _ 1 0) else _)=_
  rw [e]
  rcases hc with ⟨rfl,rfl⟩ | ⟨rfl,rfl⟩ | ⟨rfl,rfl⟩
  · rw [if_neg (by decide),if_pos rfl];rfl
  · rw [if_neg (by decide),if_neg (by decide),if_pos rfl];rfl
  · rw [if_neg (by decide),if_neg (by decide),if_neg (by decide),if_pos rfl];rfl
theorem sg_size {c:Nat}{f:ByteArray→ByteArray}(hc:(c=33∧f=inW)∨(c=126∧f=moW)∨(c=37∧f=flW)){w:ByteArray}:(f w).size=w.size:=by
  rcases hc with ⟨-,rfl⟩ | ⟨-,rfl⟩ | ⟨-,rfl⟩
  · rw [inW,rvB_size,mp_size]
  · exact mp_size
  · exact mp_size
theorem parse_sg {c:Nat}{f:ByteArray→ByteArray}(hc:(c=33∧f=inW)∨(c=126∧f=moW)∨(c=37∧f=flW)){u:ByteArray}(hu:ltr u)(hz:u.size≤60):parseP (oneC c++(oneC 40++(u++oneC 41)))=some (f u,0):=by
  obtain ⟨m,h⟩:=read_br (u:=u) (z:=⟨#[]⟩) (k:=1) (q:=1) hu (by omega) (.inl ⟨rfl,rfl,rfl⟩)
  rw [app_nil,rep_one,cut_id (by omega)] at h
  have h2:=read_sg hc h
  have hs:(oneC c++(oneC 40++(u++oneC 41))).size=1+(u.size+1+1):=by rw [size_app,size_app,size_app,oneC_size,oneC_size,oneC_size];omega
  rw [←hs] at h2
  obtain ⟨M,h3⟩:=read_one (by omega) (by rw [at_one (by omega)];omega) h2
  have fs:=sg_size hc (w:=u)
  rw [cut_id (by omega)] at h3
  rw [parse_of h3 (by simp) (by omega)]
  simp only
  rw [if_pos (by omega)]
theorem parse_br {u:ByteArray}(hu:ltr u)(hz:u.size≤60){k:Nat}(hk:k≤9):parseP (oneC 40++(u++(oneC 41++oneC (48+k))))=some (if k*u.size≤60 then (rep u k,0) else (⟨#[]⟩,4)):=by
  obtain ⟨m,h⟩:=read_br (u:=u) (z:=oneC (48+k)) (k:=k) (q:=2) hu (by omega) (.inr ⟨rfl,hk,rfl⟩)
  have hs:(oneC 40++(u++(oneC 41++oneC (48+k)))).size=u.size+1+2:=by rw [size_app,size_app,size_app,oneC_size,oneC_size,oneC_size];omega
  rw [←hs] at h
  obtain ⟨M,h3⟩:=read_one (by omega) (by rw [at_one (by omega)];omega) h
  rw [parse_of h3 (by simp) (by omega)]
  simp only
  have z:(cutW (cutW (rep u k))).size=min (min (k*u.size) 61) 61:=by rw [cutW_size,cutW_size,rep_size]
  by_cases h6:k*u.size≤60
  · rw [if_pos (by omega),if_pos h6,cut_id (by rw [cutW_size];omega),cut_id (by rw [rep_size];omega)]
  · rw [if_neg (by omega),if_neg h6]
theorem parse_two {x y u v:ByteArray}(hy:¬dig y)(hx:parseP x=some (u,0))(hv:parseP y=some (v,0))(hs:x.size+y.size≤4000):parseP (x++y)=some (if u.size+v.size≤60 then (u++v,0) else (⟨#[]⟩,4)):=by
  obtain ⟨-,z1,l1,m1,r1,h1,j1,rfl⟩:=parse_inv hx
  obtain ⟨-,z2,l2,m2,r2,h2,j2,rfl⟩:=parse_inv hv
  obtain ⟨M,h⟩:=read_two hy (by omega) h1 j1 (by omega) h2
  rw [parse_of h (by rw [size_app];simp only;omega) (by rw [size_app];exact hs)]
  simp only
  have z:(cutW (r1.w++r2.w)).size=min (r1.w.size+r2.w.size) 61:=by rw [cutW_size,size_app]
  by_cases h6:r1.w.size+r2.w.size≤60
  · rw [if_pos (by omega),if_pos h6,cut_id (by rw [size_app];omega)]
  · rw [if_neg (by omega),if_neg h6]
theorem parse_self {u:ByteArray}(hu:ltr u)(hz:u.size≤60):parseP u=some (u,0):=by
  obtain ⟨m,h⟩:=read_self hu (by omega) 0
  rw [parse_of h (by simp) (by omega)]
  simp only
  rw [if_pos hz]
def digB (y:ByteArray):Bool:=decide (0<y.size)&&(decide (48≤chT y 0)&&decide (chT y 0≤57))
theorem digB_iff {y:ByteArray}:digB y=true↔dig y:=by simp [digB,dig]
theorem neq_self {a:ByteArray}:vbin .neq (.str a) (.str a)=some (.bool false):=by simp [vbin]
theorem neq_nil {a:ByteArray}:vbin .neq (.str a) (.str ⟨#[]⟩)=some (.bool (decide (0<a.size))):=by
  by_cases h:a.size=0
  · rw [size0 h,neq_self];rfl
  · have:(a.toList==(⟨#[]⟩:ByteArray).toList)=false:=by
      rw [Lib.toList_data,Lib.toList_data]
      have hne:a.data.toList≠[]:=fun e=>h (by
        have:=congrArg List.length e
        simpa using this)
      simpa using hne
    rw [decide_eq_true (show 0<a.size by omega)]
    simp [vbin] at this ⊢
    exact this
theorem digit_t {H:Hp}{lim:Nat}{y:ByteArray}{K:V→Hp→Prop}(hK:K (.bool (digB y)) H):VCall tbl lim 54 [.str y] H K:=by
  refine VCall_fn tbl_at54 rfl ?_
  unfold digB at hK
  by_cases h:0<y.size
  · have hx:=idxT h
    have a1:((48:Int)≤((chT y 0:Nat):Int))=(48≤chT y 0):=propext (by omega)
    have a2:(((chT y 0:Nat):Int)≤57)=(chT y 0≤57):=propext (by omega)
    have hx:vidxT (.str y) (.int .i64 0)=some (.int .u8 (chT y 0:Nat)):=hx
    by_cases h1:48≤chT y 0
    · simp [vf54,neq_nil,h,hx,a1,a2,h1] at hK ⊢;exact hK
    · simp [vf54,neq_nil,h,hx,a1,a2,h1] at hK ⊢;exact hK
  · simp [vf54,neq_nil,h] at hK ⊢;exact hK
theorem ltr_vld' {s:ByteArray}(h:ltr s)(hz:s.size≤60):vld s=true:=by
  have key:∀m,m≤s.size→allN (letB s) m=true:=by
    intro m
    induction m with
    | zero=>intro _;rfl
    | succ m ih =>
      intro hm
      simp only [allN,ih (by omega),Bool.true_and,letB]
      exact h m (by omega)
  rw [vld,key _ (Nat.le_refl _),Bool.true_and]
  exact decide_eq_true hz
theorem cut_dig {c:Nat}(h:c≤7):vslT (.str ⟨#[48,49,50,51,52,53,54,55]⟩) (some (.int .i64 (c:Int))) (some (.int .i64 ((c:Int)+1)))=some (.str (oneC (48+c))):=by
  have hz:(⟨#[48,49,50,51,52,53,54,55]⟩:ByteArray).size=8:=rfl
  rw [one_cut (by omega)]
  congr 3
  match c,h with
  | 0,_=>rfl
  | 1,_=>rfl
  | 2,_=>rfl
  | 3,_=>rfl
  | 4,_=>rfl
  | 5,_=>rfl
  | 6,_=>rfl
  | 7,_=>rfl
theorem law_PlaitStyleParts {H:Hp} {lim:Nat} {x y:ByteArray} {n:Int} {K:V→Hp→Prop} (hH:HX glHp H) (hlim:lim≤H.length) (h1:x.size≤maxLen) (h2:y.size≤maxLen) (hn:I64 n) (hK:∀X,K (.bool true) (H++X)):VCall tbl lim 15 [.str x,.str y,.int .i64 n] H K:=by
  have hc:=chk_of hH
  refine VCall_fn tbl_at15 rfl ?_
  have hml:maxLen=9223372036854775807:=by decide
  rw [hml] at h1 h2
  obtain ⟨W,hW⟩:∃W,IntKind.wrap .i64 ((x.size:Int)+(y.size:Int))=W:=⟨_,rfl⟩
  simp [vf15,vlenT_str,hW]
  by_cases hu:1000<W
  · simp [hu]
    exact known_t hc hlim fun X=>by simp;exact hK X
  simp [hu]
  obtain ⟨u,e,hp⟩:=parseP_some x
  obtain ⟨v,f,hq⟩:=parseP_some y
  refine parse_t hc hp ?_
  simp
  refine parse_t hc hq ?_
  by_cases he:e=0
  case neg =>
    simp [he]
    exact known_t hc hlim fun X=>by simp;exact hK X
  by_cases hf:f=0
  case neg =>
    simp [he,hf]
    exact known_t hc hlim fun X=>by simp;exact hK X
  subst he hf
  obtain ⟨sx,zu,lu,-⟩:=parse_inv hp
  obtain ⟨sy,zv,lv,-⟩:=parse_inv hq
  have hsum:x.size+y.size≤1000:=by
    rw [wrap_i64 (by omega) (by omega)] at hW
    omega
  have vu:=ltr_vld' lu zu
  have vv:=ltr_vld' lv zv
  have pu:=parse_self lu zu
  have hxy:=vadd_str (a:=x) (b:=y) (by omega)
  obtain ⟨t,g,hb⟩:=parseP_some (x++y)
  obtain ⟨jw,je,hj,hdd⟩:∃jw je,joinV u v=.tup [.str jw,.int .i64 je]∧(digB y=true∨(digB y=false∧t=jw∧g=je)):=by
    have hj:joinV u v=ckdV (u++v):=by simp [joinV,vu,vv]
    rw [hj]
    cases hd:digB y with
    | true =>
      unfold ckdV
      split
      · exact ⟨_,_,rfl,.inl rfl⟩
      · exact ⟨_,_,rfl,.inl rfl⟩
    | false =>
      have hnd:¬dig y:=fun h=>by rw [digB_iff.2 h] at hd;cases hd
      have h3:=parse_two hnd hp hq (by omega)
      rw [hb] at h3
      unfold ckdV
      rw [size_app]
      by_cases h6:u.size+v.size≤60
      · rw [if_pos h6] at h3 ⊢;cases h3
        exact ⟨_,_,rfl,.inr ⟨rfl,rfl,rfl⟩⟩
      · rw [if_neg h6] at h3 ⊢;cases h3
        exact ⟨_,_,rfl,.inr ⟨rfl,rfl,rfl⟩⟩
  obtain ⟨c,hcn,hc7⟩:∃c:Nat,(n % 8).toNat=c∧c≤7:=⟨_,rfl,by omega⟩
  have a7:=and7 (n:=n)
  rw [hcn] at a7
  have hcut:=cut_dig hc7
  obtain ⟨b1,hb1⟩:∃b,b=oneC 40++u:=⟨_,rfl⟩
  obtain ⟨b2,hb2⟩:∃b,b=b1++oneC 41:=⟨_,rfl⟩
  obtain ⟨b3,hb3⟩:∃b,b=b2++oneC (48+c):=⟨_,rfl⟩
  have o1:∀{c},(oneC c).size=1:=rfl
  have z1:b1.size=1+u.size:=by rw [hb1,size_app,o1]
  have z2:b2.size=1+u.size+1:=by rw [hb2,size_app,o1,z1]
  have k1:vbin .add (.str ⟨#[40]⟩) (.str u)=some (.str b1):=by rw [hb1];exact vadd_str (a:=oneC 40) (by rw [o1];omega)
  have k2:vbin .add (.str b1) (.str ⟨#[41]⟩)=some (.str b2):=by rw [hb2];exact vadd_str (b:=oneC 41) (by rw [o1];omega)
  have k3:vbin .add (.str b2) (.str (oneC (48+c)))=some (.str b3):=by rw [hb3];exact vadd_str (by rw [o1];omega)
  have hpow:parseP b3=some (if c*u.size≤60 then (rep u c,0) else (⟨#[]⟩,4)):=by
    rw [hb3,hb2,hb1,ByteArray.append_assoc,ByteArray.append_assoc]
    exact parse_br lu zu (by omega)
  have hpv:powV u (c:Int)=ckdV (rep u c):=by
    rw [powV_small vu (by omega),bas_pos,show (c:Int).natAbs=c by omega]
  obtain ⟨pw,pe,p1,p2⟩:∃pw pe,parseP b3=some (pw,pe)∧powV u (c:Int)=.tup [.str pw,.int .i64 pe]:=by
    rw [hpow,hpv]
    unfold ckdV
    rw [rep_size]
    by_cases h6:c*u.size≤60
    · rw [if_pos h6,if_pos h6];exact ⟨_,_,rfl,rfl⟩
    · rw [if_neg h6,if_neg h6];exact ⟨_,_,rfl,rfl⟩
  have sg:∀(q:Nat) (f:ByteArray→ByteArray) (l:ByteArray),l=oneC q++oneC 40→((q=33∧f=inW)∨(q=126∧f=moW)∨(q=37∧f=flW))→∃d1 d2,vbin .add (.str l) (.str u)=some (.str d1)∧vbin .add (.str d1) (.str ⟨#[41]⟩)=some (.str d2)∧parseP d2=some (f u,0):=by
    intro q f l hl hq
    have lz:l.size=2:=by rw [hl,size_app,o1,o1]
    refine ⟨l++u,l++u++oneC 41,vadd_str (by omega),vadd_str (b:=oneC 41) (by rw [size_app,o1];omega),?_⟩
    rw [hl,ByteArray.append_assoc,ByteArray.append_assoc]
    exact parse_sg hq lu zu
  obtain ⟨i1,i2,j1,j2,j3⟩:=sg 33 inW ⟨#[33,40]⟩ (by decide) (.inl ⟨rfl,rfl⟩)
  obtain ⟨m1,m2,l1,l2,l3⟩:=sg 126 moW ⟨#[126,40]⟩ (by decide) (.inr (.inl ⟨rfl,rfl⟩))
  obtain ⟨f1,f2,g1,g2,g3⟩:=sg 37 flW ⟨#[37,40]⟩ (by decide) (.inr (.inr ⟨rfl,rfl⟩))
  have w1:wV u (rvB (mp oppF u))=.tup [.str (inW u),.int .i64 0]:=wV_1 vu
  have w2:wV u (mp oppF u)=.tup [.str (moW u),.int .i64 0]:=wV_1 vu
  have w3:wV u (mp neiF u)=.tup [.str (flW u),.int .i64 0]:=wV_1 vu
  generalize inW u=iw at w1 j3
  generalize moW u=mw at w2 l3
  generalize flW u=fw at w3 g3
  simp
  refine parse_t hc pu ?_
  simp [hxy]
  refine parse_t hc hb ?_
  simp
  refine join_t hlim fun X1 => ?_
  rcases hdd with hd | ⟨hd,rfl,rfl⟩
  all_goals
    simp [hj,neq_self]
    refine digit_t ?_
    simp [hd,neq_self,a7]
    simp (disch:=omega) [wrap_i64,hcut,k1,k2,k3]
    refine parse_t (chk_app hc) p1 ?_
    simp
    refine power_t (chk_app hc) (by simp;omega) (by constructor<;>omega) fun X2 => ?_
    simp [p2,neq_self,j1,j2]
    refine parse_t (chk_app hc) j3 ?_
    simp [l1,l2]
    refine parse_t (chk_app hc) l3 ?_
    simp [g1,g2]
    refine parse_t (chk_app hc) g3 ?_
    simp
    refine inverse2_t (chk_app hc) (by simp;omega) fun X3 => ?_
    simp [w1]
    refine mirror2_t (chk_app hc) (by simp;omega) fun X4 => ?_
    simp [w2]
    refine flip2_t (chk_app hc) (by simp;omega) fun X5 => ?_
    simp [w3,veq_self]
    exact known_t (chk_app hc) (by simp;omega) fun W=>by simp;exact hK _
end Go.Proofs.YtalejadhccgckaaDoor.Vm
