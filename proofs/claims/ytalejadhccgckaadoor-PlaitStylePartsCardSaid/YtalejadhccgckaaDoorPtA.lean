/- The reference's reader of styles: texts; that the reader has an answer. -/
import Derived.Test.YtalejadhccgckaaDoorPmD
namespace Go.Proofs.YtalejadhccgckaaDoor.Vm
open Go
set_option maxRecDepth 100000
set_option linter.unusedSimpArgs false
set_option linter.unusedVariables false
attribute [-simp] List.getD_eq_getElem?_getD
theorem swappedL_r {H:Hp}{lim:Nat}{s:ByteArray}{K:V→Hp→Prop}(hb:s.size≤1000)(hv:ltr s)(hK:∀X,K (.str (mp oppF s)) (H++X)):VCall tbl lim 64 [.str s] H K:=by
  refine VCall_fn tbl_at64 rfl ?_
  simp [vf64]
  refine wLoop_up s.size (fun i fr L H'=>(fr 0=.str s∧fr 4=.int .i64 i)∧(∃t,fr 3=.str t∧t.size=i∧∀k,k<i→(chT t k:Int)=oppF (chT s k:Nat))∧L=[]∧(∃X,H'=H++X)∧i≤s.size) ⟨by simp,⟨_,by simp;rfl,rfl,fun k hk=>absurd hk (by omega)⟩,rfl,⟨[],by simp⟩,by omega⟩ ?_
  rintro i hi fr L H' ⟨⟨f0,f4⟩,⟨t,f3,ht,hq⟩,rfl,⟨X,rfl⟩,hle⟩
  by_cases hp:i<s.size
  · have hp':((i:Int)<(s.size:Int))=True:=eq_true (by omega)
    have hl:=ltr_cases hv hp
    have hx:=idxT hp
    have hr:0≤oppF (chT s i:Nat)∧oppF (chT s i:Nat)<256:=by
      rcases hl with e | e | e | e<;>rw [e]<;>decide
    simp [f0,f3,f4,hp',hx]
    refine opp_r hl ?_
    have ha:=vadd_str (a:=t) (b:=oneB (oppF (chT s i:Nat))) (by rw [ht,oneB_size];omega)
    have hs1:=vstrB_one (H:=H++X) (n:=oppF (chT s i:Nat))
    simp only [List.append_assoc,List.length_append] at hs1
    simp (disch:=omega) [f0,f3,f4,splice,hs1,ha,wrap_i64]
    refine ⟨hp,?_,hp⟩
    refine ⟨by rw [ht];rfl,fun k hk => ?_⟩
    rw [chT_snoc hr (by omega)]
    split
    · rename_i h;exact hq k (by omega)
    · rename_i h
      have:k=i:=by omega
      rw [this]
  · have hp':((i:Int)<(s.size:Int))=False:=eq_false (by omega)
    have hi:i=s.size:=by omega
    simp [f0,f3,f4,hp']
    rw [mp_of (F:=oppF) (s:=s) (t:=t) (by omega) (fun k hk=>hq k (by omega))]
    exact hK X
theorem backwardL_r {H:Hp} {lim:Nat} {s:ByteArray} {K:V→Hp→Prop} (hb:s.size≤1000) (hK:K (.str (rvB s)) H):VCall tbl lim 63 [.str s] H K:=by
  refine VCall_fn tbl_at63 rfl ?_
  simp [vf63]
  refine wLoop_up s.size (fun i fr L H'=>(fr 0=.str s∧fr 4=.int .i64 i)∧(∃t,fr 3=.str t∧t.size=i∧∀k,k<i→chT t k=chT s (i-1-k))∧L=[]∧H'=H∧i≤s.size) ⟨by simp,⟨_,by simp;rfl,rfl,fun k hk=>absurd hk (by omega)⟩,rfl,rfl,by omega⟩ ?_
  rintro i hi fr L H' ⟨⟨f0,f4⟩,⟨t,f3,ht,hq⟩,rfl,rfl,hle⟩
  by_cases hp:i<s.size
  · have hp':((i:Int)<(s.size:Int))=True:=eq_true (by omega)
    obtain ⟨c1,c2⟩:=chT_cut hp
    have hsl:vslT (.str s) (some (.int .i64 (i:Int))) (some (.int .i64 ((i:Int)+1)))=some (.str (s.extract i (i+1))):=by
      simp only [vslT,vbounds,vint]
      rw [if_pos (by omega),if_pos (by omega)]
      have e1:((i:Int)+1).toNat=i+1:=by omega
      simp [e1]
    have ha:=vadd_str (a:=s.extract i (i+1)) (b:=t) (by rw [c1,ht];omega)
    have hsz:(s.extract i (i+1)++t).size=i+1:=by rw [size_app,c1,ht];omega
    have fin:∀k,k<i+1→chT (s.extract i (i+1)++t) k=chT s (i+1-1-k):=by
      intro k hk
      rw [chT_app,c1]
      split
      · have:k=0:=by omega
        subst this
        rw [c2];congr 1
      · rw [hq (k-1) (by omega)];congr 1;omega
    generalize s.extract i (i+1)++t=t' at ha fin hsz
    simp (disch:=omega) [f0,f3,f4,hp',hsl,ha,wrap_i64]
    exact ⟨hp,⟨hsz,by simpa using fin⟩,hp⟩
  · have hp':((i:Int)<(s.size:Int))=False:=eq_false (by omega)
    have hi:i=s.size:=by omega
    simp [f0,f3,f4,hp']
    rw [←rvB_of (s:=s) (t:=t) (by omega) (fun k hk=>by rw [hq k (by omega)];congr 1;omega)] at hK
    exact hK
theorem cut_r {H:Hp}{lim:Nat}{w:ByteArray}{K:V→Hp→Prop}(hs:w.size≤1000000)(hK:K (.str (cutW w)) H):VCall tbl lim 92 [.str w] H K:=by
  refine VCall_fn tbl_at92 rfl ?_
  unfold cutW at hK
  by_cases h:w.size≤61
  · rw [if_pos h] at hK
    have e:((61:Int)<(w.size:Int))=False:=eq_false (by omega)
    simp [vf92,e];exact hK
  · rw [if_neg h] at hK
    have e:((61:Int)<(w.size:Int))=True:=eq_true (by omega)
    have c:vslT (.str w) none (some (.int .i64 61))=some (.str (w.extract 0 61)):=by
      simp only [vslT,vbounds,vint]
      rw [if_pos (by omega),if_pos (by omega)]
      rfl
    simp [vf92,e,c];exact hK
theorem cut_cut {a w:ByteArray}:cutW (cutW a++w)=cutW (a++w):=by
  by_cases h:a.size≤61
  · have:cutW a=a:=by unfold cutW;rw [if_pos h]
    rw [this]
  · have e:cutW a=a.extract 0 61:=by unfold cutW;rw [if_neg h]
    have hz:(a.extract 0 61).size=61:=by rw [ByteArray.size_extract];omega
    refine ba_ext (by rw [cutW_size,cutW_size,size_app,size_app,e,hz];omega) fun i hi => ?_
    rw [cutW_size,size_app,e,hz] at hi
    have g:∀x:ByteArray,i<x.size→chT (cutW x) i=chT x i:=by
      intro x hx
      unfold cutW
      split
      · rfl
      · exact get_cut (by omega)
    rw [g _ (by rw [size_app,e,hz];omega),g _ (by rw [size_app];omega),chT_app,chT_app,e,hz,if_pos (by omega),if_pos (by omega)]
    exact get_cut (by omega)
theorem cut_id {w:ByteArray}(h:w.size≤61):cutW w=w:=by unfold cutW;rw [if_pos h]
theorem rep_one {w:ByteArray}:rep w 1=w:=by
  rw [←rep_succ,rep_zero]
  have z:(⟨#[]⟩:ByteArray).size=0:=rfl
  refine ba_ext (by rw [size_app,z];omega) fun i hi => ?_
  rw [chT_app,z,if_neg (by omega)]
  rfl
theorem map_none {f:ByteArray→ByteArray}{o:Option (Option Rd)}(h:Rd.map f o=none):o=none:=by
  unfold Rd.map at h
  split at h
  · cases h
  · exact h
theorem grp_none {s:ByteArray}{o:Option (Option Rd)}(h:grpF s o=none):o=none:=by
  unfold grpF at h
  split at h
  · split at h
    · split at h<;>cases h
    · cases h
  · exact h
theorem read_tot:∀m:Nat,(∀(s:ByteArray) (i d:Nat) (w:ByteArray) (n:Nat),i≤s.size→d≤8→3*(s.size-i)+2≤m→itemsF m s i d w n≠none) ∧
    (∀(s:ByteArray) (i d:Nat),i≤s.size→d≤8→3*(s.size-i)+1≤m→itemF m s i d≠none) ∧
    (∀(s:ByteArray) (i d:Nat),i≤s.size→d≤8→3*(s.size-i)+3≤m→groupF m s i d≠none)
  | 0=>⟨fun s i d w n _ _ h=>absurd h (by omega),fun s i d _ _ h=>absurd h (by omega),fun s i d _ _ h=>absurd h (by omega)⟩
  | m + 1 => by
    obtain ⟨hA,hB,hC⟩:=read_tot m
    refine ⟨fun s i d w n hi hd hm h => ?_,fun s i d hi hd hm h => ?_,fun s i d hi hd hm h => ?_⟩
    · simp only [itemsF] at h
      split at h
      · split at h
        · rename_i r1 h1
          obtain ⟨⟨a1,a2,_⟩,a6⟩:=(read_ok m).2.1 s i d r1 h1 hi hd
          exact hA s r1.j d _ _ a2 hd (by omega) h
        · exact hB s i d hi hd (by omega) h
      · cases h
    · simp only [itemF] at h
      split at h
      · rename_i hlt
        have hn:=hB s (i+1) d hlt hd (by omega)
        split at h
        · cases h
        · split at h
          · exact hn (map_none h)
          · split at h
            · exact hn (map_none h)
            · split at h
              · exact hn (map_none h)
              · split at h
                · exact hC s (i+1) d hlt hd (by omega) h
                · cases h
      · cases h
    · simp only [groupF] at h
      split at h
      · cases h
      · exact hA s i (d+1) _ 0 hi (by omega) (by omega) (grp_none h)
theorem readP_some (s:ByteArray):∃o,readP s=some o:=by
  have:=(read_tot (fuelP s)).1 s 0 0 ⟨#[]⟩ 0 (Nat.zero_le _) (by omega) (by unfold fuelP;omega)
  unfold readP
  cases h:itemsF (fuelP s) s 0 0 ⟨#[]⟩ 0 with
  | none=>exact absurd h this
  | some o=>exact ⟨o,rfl⟩
theorem parseP_some (s:ByteArray):∃t e,parseP s=some (t,e):=by
  obtain ⟨o,ho⟩:=readP_some s
  unfold parseP
  rw [ho]
  repeat' split
  all_goals first | exact ⟨_,_,rfl⟩ | (rename_i h;cases h)
end Go.Proofs.YtalejadhccgckaaDoor.Vm
