/- Sorting, pure: lists that are turned about inside a range; merging by turning (slices.symMerge). -/
import Derived.Test.YtclghkegfpcdpaaVmRec
import Derived.Test.YtclghkegfpcdpaaVmTab
import Derived.Test.YtclghkegfpcdpaaVmMove
import Derived.Test.YtclghkegfpcdpaaQCapWearsA
namespace Go.Proofs.Ytclghkegfpcdpaa.Vm
open Go
set_option maxRecDepth 100000
set_option linter.unusedSimpArgs false
set_option linter.unusedVariables false
attribute [-simp] List.getD_eq_getElem?_getD
section
variable {α:Type}[Inhabited α]
structure PermR (a b:Nat)(l l':List α):Prop where
  perm:l'.Perm l
  out:∀i,(i<a∨b≤i)→l'.getD i default=l.getD i default
theorem PermR.refl {a b:Nat}{l:List α}:PermR a b l l:=⟨.refl _,fun _ _=>rfl⟩
theorem PermR.trans {a b:Nat}{l l' l'':List α}(h:PermR a b l l')(k:PermR a b l' l''):PermR a b l l'':=⟨k.perm.trans h.perm,fun i hi=>(k.out i hi).trans (h.out i hi)⟩
theorem PermR.len {a b:Nat}{l l':List α}(h:PermR a b l l'):l'.length=l.length:=h.perm.length_eq
def swp (l:List α)(i j:Nat):List α:=(l.set i (l.getD j default)).set j (l.getD i default)
theorem swp_len {l:List α}{i j:Nat}:(swp l i j).length=l.length:=by simp [swp]
theorem getD_of {l:List α}{i:Nat}(h:i<l.length):l.getD i default=l[i]:=by simp [List.getD_eq_getElem?_getD,h]
theorem setD_get {l:List α}{i k:Nat}{x:α}(h:i<l.length):(l.set i x).getD k default=if k=i then x else l.getD k default:=by
  simp only [List.getD_eq_getElem?_getD,List.getElem?_set]
  by_cases e:k=i
  · subst e;simp [h]
  · rw [if_neg (fun e'=>e e'.symm),if_neg e]
theorem swp_get {l:List α}{i j k:Nat}(hi:i<l.length)(hj:j<l.length):(swp l i j).getD k default=if k=j then l.getD i default else if k=i then l.getD j default else l.getD k default:=by
  rw [swp,setD_get (by simpa using hj),setD_get hi]
theorem swp_perm {a b:Nat}{l:List α}{i j:Nat}(hi:a≤i∧i<b)(hj:a≤j∧j<b)(hb:b≤l.length):PermR a b l (swp l i j):=by
  refine ⟨?_,fun k hk=>by rw [swp_get (by omega) (by omega),if_neg (by omega),if_neg (by omega)]⟩
  have h1:i<l.length:=by omega
  have h2:j<l.length:=by omega
  rw [swp,getD_of h1,getD_of h2]
  exact List.set_set_perm h1 h2
end
section
variable {α:Type}[Inhabited α]{cf:α→α→Int}
def leC (cf:α→α→Int)(x y:α):Prop:=¬cf y x<0
structure Ordr (cf:α→α→Int):Prop where
  tr:∀x y z,leC cf x y→leC cf y z→leC cf x z
  tot:∀x y,leC cf x y∨leC cf y x
omit [Inhabited α] in
theorem Ordr.rf (h:Ordr cf)(x:α):leC cf x x:=(h.tot x x).elim id id
def SortR (cf:α→α→Int)(a b:Nat)(l:List α):Prop:=∀p q,a≤p→p<q→q<b→leC cf (l.getD p default) (l.getD q default)
def InsR (cf:α→α→Int)(a i j:Nat)(l:List α):Prop :=
  (∀p q,a≤p→p<q→q≤i→p≠j→q≠j→leC cf (l.getD p default) (l.getD q default))∧∀q,j<q→q≤i→leC cf (l.getD j default) (l.getD q default)
theorem InsR.start {a i:Nat}{l:List α}(h:SortR cf a i l):InsR cf a i i l :=
  ⟨fun p q h1 h2 h3 _ h5=>h p q h1 h2 (by omega),fun q h1 h2=>absurd h1 (by omega)⟩
theorem InsR.swap (ho:Ordr cf) {a i j:Nat} {l:List α} (h:InsR cf a i j l) (ha:a<j) (hj:j≤i) (hi:i<l.length) (hlt:cf (l.getD j default) (l.getD (j-1) default)<0):InsR cf a i (j-1) (swp l j (j-1)):=by
  have hle:leC cf (l.getD j default) (l.getD (j-1) default):=by
    rcases ho.tot (l.getD j default) (l.getD (j-1) default) with h1 | h1
    · exact h1
    · exact absurd hlt h1
  have g:∀k,(swp l j (j-1)).getD k default=if k=j-1 then l.getD j default else if k=j then l.getD (j-1) default else l.getD k default:=fun k=>swp_get (by omega) (by omega)
  refine ⟨fun p q h1 h2 h3 h4 h5 => ?_,fun q h1 h2 => ?_⟩
  · rw [g p,g q,if_neg h4,if_neg h5]
    by_cases e1:p=j
    · rw [if_pos e1,if_neg (by omega)]
      exact h.1 (j-1) q (by omega) (by omega) h3 (by omega) (by omega)
    · rw [if_neg e1]
      by_cases e2:q=j
      · rw [if_pos e2]
        exact h.1 p (j-1) h1 (by omega) (by omega) (by omega) (by omega)
      · rw [if_neg e2];exact h.1 p q h1 h2 h3 e1 e2
  · rw [g (j-1),g q,if_pos rfl,if_neg (by omega)]
    by_cases e:q=j
    · rw [if_pos e];exact hle
    · rw [if_neg e];exact h.2 q (by omega) h2
theorem InsR.done (ho:Ordr cf) {a i j:Nat} {l:List α} (h:InsR cf a i j l) (ha:a≤j) (hj:j≤i) (hx:j=a∨¬cf (l.getD j default) (l.getD (j-1) default)<0):SortR cf a (i+1) l:=by
  intro p q h1 h2 h3
  by_cases e1:p=j
  · subst e1;exact h.2 q h2 (by omega)
  · by_cases e2:q=j
    · subst e2
      rcases hx with hx | hx
      · omega
      · by_cases e3:p=q-1
        · subst e3;exact hx
        · exact ho.tr _ _ _ (h.1 p (q-1) h1 (by omega) (by omega) e1 (by omega)) hx
    · exact h.1 p q h1 h2 (by omega) e1 e2
end
section
variable {α:Type}[Inhabited α]
def swr (l:List α)(a b:Nat):Nat→List α
  | 0=>l
  | n+1=>swp (swr l a b n) (a+n) (b+n)
theorem swr_len {l:List α}{a b:Nat}:∀{n:Nat},(swr l a b n).length=l.length
  | 0=>rfl
  | n+1=>by rw [swr,swp_len,swr_len]
theorem swr_get {l:List α}{a b N:Nat}(hab:a+N≤b)(hb:b+N≤l.length):∀{n:Nat},n≤N→∀k,(swr l a b n).getD k default=if a≤k∧k<a+n then l.getD (k-a+b) default else if b≤k∧k<b+n then l.getD (k-b+a) default else l.getD k default
  | 0,_,k=>by rw [swr,if_neg (by omega),if_neg (by omega)]
  | n+1,hn,k=>by
    have ih:=swr_get hab hb (n:=n) (by omega)
    rw [swr,swp_get (by rw [swr_len];omega) (by rw [swr_len];omega),ih (a+n),ih (b+n),ih k]
    repeat' split
    all_goals first | rfl | (exfalso;omega) | (exact congrArg (fun z=>List.getD _ z default) (by omega))
def RotR (a m b:Nat)(l l':List α):Prop:=∀k,l'.getD k default=if a≤k∧k<b then (if k<a+(b-m) then l.getD (k+(m-a)) default else l.getD (k-(b-m)) default) else l.getD k default
def RotI (a m b i j:Nat)(l l':List α):Prop:=∀k,(if a≤k∧k<b then (if k<a+(b-m) then l.getD (k+(m-a)) default else l.getD (k-(b-m)) default) else l.getD k default) =
  if m-i≤k∧k<m+j then (if k<m-i+j then l'.getD (k+i) default else l'.getD (k-j) default) else l'.getD k default
theorem RotI.start {a m b:Nat}{l:List α}(h:a≤m∧m≤b):RotI a m b (m-a) (b-m) l l:=fun k=>by
  repeat' split
  all_goals first | rfl | (exfalso;omega) | (exact congrArg (fun z=>List.getD _ z default) (by omega))
theorem RotI.more {a m b i j:Nat}{l l':List α}(h:RotI a m b i j l l')(hi:i≤m)(hj:j<i)(hl:m+j≤l'.length):RotI a m b (i-j) j l (swr l' (m-i) m j):=fun k=>by
  have g:=swr_get (l:=l') (a:=m-i) (b:=m) (N:=j) (by omega) hl (Nat.le_refl _)
  rw [h k]
  simp only [g]
  repeat' split
  all_goals first | rfl | (exfalso;omega) | (exact congrArg (fun z=>List.getD _ z default) (by omega))
theorem RotI.less {a m b i j:Nat}{l l':List α}(h:RotI a m b i j l l')(hi:i≤m)(hj:i<j)(hl:m+j≤l'.length):RotI a m b i (j-i) l (swr l' (m-i) (m+j-i) i):=fun k=>by
  have g:=swr_get (l:=l') (a:=m-i) (b:=m+j-i) (N:=i) (by omega) (by omega) (Nat.le_refl _)
  rw [h k]
  simp only [g]
  repeat' split
  all_goals first | rfl | (exfalso;omega) | (exact congrArg (fun z=>List.getD _ z default) (by omega))
theorem RotI.done {a m b i:Nat}{l l':List α}(h:RotI a m b i i l l')(hi:i≤m)(hl:m+i≤l'.length):RotR a m b l (swr l' (m-i) m i):=fun k=>by
  have g:=swr_get (l:=l') (a:=m-i) (b:=m) (N:=i) (by omega) hl (Nat.le_refl _)
  rw [h k,g k]
  repeat' split
  all_goals first | rfl | (exfalso;omega) | (exact congrArg (fun z=>List.getD _ z default) (by omega))
theorem RotR.same {a m b:Nat}{l:List α}(h:(a=m∧m≤b)∨(m=b∧a≤m)):RotR a m b l l:=fun k=>by
  rcases h with ⟨rfl,h⟩ | ⟨rfl,h⟩
  · repeat' split
    all_goals first | rfl | (exfalso;omega) | (exact congrArg (fun z=>List.getD _ z default) (by omega))
  · repeat' split
    all_goals first | rfl | (exfalso;omega) | (exact congrArg (fun z=>List.getD _ z default) (by omega))
theorem PermR.mem {a b:Nat}{l l':List α}(h:PermR a b l l')(hb:b≤l.length){k:Nat}(hk:a≤k∧k<b):∃k',(a≤k'∧k'<b)∧l'.getD k default=l.getD k' default:=by
  have hlen:=h.len
  have e1:l'.take a=l.take a:=by
    apply List.ext_getElem?
    intro i
    by_cases hi:i<a
    · rw [List.getElem?_take_of_lt hi,List.getElem?_take_of_lt hi]
      have:=h.out i (Or.inl hi)
      rw [getD_of (by omega),getD_of (by omega)] at this
      rw [List.getElem?_eq_getElem (by omega),List.getElem?_eq_getElem (by omega),this]
    · rw [List.getElem?_eq_none (by simp;omega),List.getElem?_eq_none (by simp;omega)]
  have e2:l'.drop b=l.drop b:=by
    apply List.ext_getElem?
    intro i
    rw [List.getElem?_drop,List.getElem?_drop]
    by_cases hi:b+i<l.length
    · have:=h.out (b+i) (Or.inr (by omega))
      rw [getD_of (by omega),getD_of (by omega)] at this
      rw [List.getElem?_eq_getElem (by omega),List.getElem?_eq_getElem (by omega),this]
    · rw [List.getElem?_eq_none (by omega),List.getElem?_eq_none (by omega)]
  have sp:∀q:List α,q=q.take a++((q.drop a).take (b-a)++q.drop b):=fun q=>by
    have:=(List.take_append_drop a q).symm
    have h2:=(List.take_append_drop (b-a) (q.drop a)).symm
    rw [List.drop_drop,show a+(b-a)=b by omega] at h2
    rw [←h2];exact this
  have hp:=h.perm
  rw [sp l',sp l,e1,e2] at hp
  have hp2:=(List.perm_append_right_iff _).1 ((List.perm_append_left_iff _).1 hp)
  have hm:l'.getD k default∈(l'.drop a).take (b-a):=by
    rw [List.mem_iff_getElem?]
    refine ⟨k-a,?_⟩
    rw [List.getElem?_take_of_lt (by omega),List.getElem?_drop,show a+(k-a)=k by omega,getD_of (by omega),List.getElem?_eq_getElem (by omega)]
  have hm2:=hp2.mem_iff.1 hm
  obtain ⟨i,hi⟩:=List.mem_iff_getElem?.1 hm2
  have hil:i<b-a:=by
    have:=(List.getElem?_eq_some_iff.1 hi).1
    simp at this;omega
  rw [List.getElem?_take_of_lt hil,List.getElem?_drop] at hi
  refine ⟨a+i,by omega,?_⟩
  rw [getD_of (show a+i<l.length by omega)]
  rw [List.getElem?_eq_getElem (by omega)] at hi
  exact (Option.some.inj hi).symm
theorem PermR.wide {a b x y:Nat}{l l':List α}(h:PermR a b l l')(hx:x≤a)(hy:b≤y):PermR x y l l':=⟨h.perm,fun i hi=>h.out i (by omega)⟩
variable {cf:α→α→Int}
theorem SortR.keep {a b:Nat}{l l':List α}(h:SortR cf a b l)(e:∀k,a≤k∧k<b→l'.getD k default=l.getD k default):SortR cf a b l':=fun p q h1 h2 h3=>by
  rw [e p (by omega),e q (by omega)];exact h p q h1 h2 h3
structure SymS (cf:α→α→Int)(l:List α)(n lo hi s:Nat):Prop where
  rng:lo≤s∧s≤hi
  yes:lo<s→leC cf (l.getD (s-1) default) (l.getD (n-s) default)
  no:s<hi→cf (l.getD (n-1-s) default) (l.getD s default)<0
theorem SymS.box {a m b s:Nat}{l:List α}(hab:a<m∧m<b)(h:SymS cf l ((a+b) / 2+m) (if (a+b) / 2<m then (a+b) / 2+m-b else a) (if (a+b) / 2<m then (a+b) / 2 else m) s) :
    a≤s∧s≤m∧s≤(a+b) / 2∧m≤(a+b) / 2+m-s∧(a+b) / 2≤(a+b) / 2+m-s∧(a+b) / 2+m-s≤b:=by
  obtain ⟨rng,_,_⟩:=h
  have hd:2*((a+b) / 2)≤a+b∧a+b≤2*((a+b) / 2)+1:=by omega
  generalize (a+b) / 2=mid at *
  by_cases h:mid<m
  · rw [if_pos h,if_pos h] at rng;omega
  · rw [if_neg h,if_neg h] at rng;omega
def shU (l:List α)(a:Nat):Nat→List α
  | 0=>l
  | n+1=>swp (shU l a n) (a+n) (a+n+1)
def shD (l:List α)(m:Nat):Nat→List α
  | 0=>l
  | n+1=>swp (shD l m n) (m-n) (m-n-1)
inductive Pr (cf:α→α→Int)(l:List α)(w:Nat):Nat→Nat→Prop
  | nil {a:Nat}:Pr cf l w a a
  | snoc {a b:Nat}:Pr cf l w a b→SortR cf b (b+w) l→Pr cf l w a (b+w)
inductive Rn (cf:α→α→Int)(l:List α)(w n:Nat):Nat→Prop
  | last {a:Nat}:n≤a+w→SortR cf a n l→Rn cf l w n a
  | more {a:Nat}:a+w≤n→SortR cf a (a+w) l→Rn cf l w n (a+w)→Rn cf l w n a
theorem Pr.le {l:List α}{w a b:Nat}(h:Pr cf l w a b):a≤b:=by
  induction h with
  | nil=>exact Nat.le_refl _
  | snoc _ _ ih=>omega
theorem Pr.keep {l l':List α}{w a b:Nat}(h:Pr cf l w a b)(e:∀k,k<b→l'.getD k default=l.getD k default):Pr cf l' w a b:=by
  induction h with
  | nil=>exact .nil
  | snoc h1 h2 ih=>exact .snoc (ih fun k hk=>e k (by omega)) (h2.keep fun k hk=>e k (by omega))
theorem Rn.keep {l l':List α}{w n a:Nat}(h:Rn cf l w n a)(e:∀k,a≤k→l'.getD k default=l.getD k default):Rn cf l' w n a:=by
  induction h with
  | last h1 h2=>exact .last h1 (h2.keep fun k hk=>e k hk.1)
  | more h1 h2 h3 ih=>exact .more h1 (h2.keep fun k hk=>e k hk.1) (ih fun k hk=>e k (by omega))
theorem sort_one {l:List α}{n a:Nat}(h:n≤a+1):SortR cf a n l:=fun p q h1 h2 h3=>by omega
theorem Rn.two {l:List α}{w n a:Nat}(h:Rn cf l w n a)(hw:0<w)(hn:a+2*w≤n):SortR cf a (a+w) l∧SortR cf (a+w) (a+2*w) l∧Rn cf l w n (a+2*w):=by
  have e:a+w+w=a+2*w:=by omega
  cases h with
  | last h1 h2=>omega
  | more h1 h2 h3 =>
    cases h3 with
    | last k1 k2 =>
      have:n=a+2*w:=by omega
      subst this
      exact ⟨h2,k2,.last (by omega) (sort_one (by omega))⟩
    | more k1 k2 k3=>rw [e] at k2 k3;exact ⟨h2,k2,k3⟩
theorem Rn.end2 {l:List α}{w n a:Nat}(h:Rn cf l w n a)(hn:n<a+2*w)(hm:a+w<n):SortR cf a (a+w) l∧SortR cf (a+w) n l:=by
  cases h with
  | last h1 h2=>omega
  | more h1 h2 h3 =>
    cases h3 with
    | last k1 k2=>exact ⟨h2,k2⟩
    | more k1 k2 k3=>omega
theorem Rn.end1 {l : List α} {w n a:Nat} (h:Rn cf l w n a) (hm:n≤a+w):SortR cf a n l:=by
  cases h with
  | last h1 h2=>exact h2
  | more h1 h2 h3 => have:n=a+w:=by omega
                     subst this;exact h2
end
end Go.Proofs.Ytclghkegfpcdpaa.Vm
namespace Go.Proofs.Ytclghkegfpcdpaa.Vm
open Go
set_option maxRecDepth 100000
set_option linter.unusedSimpArgs false
set_option linter.unusedVariables false
attribute [-simp] List.getD_eq_getElem?_getD
section
variable {α:Type}[Inhabited α]{cf:α→α→Int}
omit [Inhabited α] in
theorem Ordr.lt (ho:Ordr cf){x y:α}(h:cf x y<0):leC cf x y:=by
  rcases ho.tot x y with h1 | h1
  · exact h1
  · exact absurd h h1
structure OutR (cf:α→α→Int)(a0 b0 a b:Nat)(l:List α):Prop where
  rng:a0≤a∧a≤b∧b≤b0
  le:∀p q,a0≤p→p<q→q<b0→(p<a∨b≤q)→leC cf (l.getD p default) (l.getD q default)
theorem OutR.start {a b:Nat}{l:List α}(h:a≤b):OutR cf a b a b l:=⟨by omega,fun p q h1 h2 h3 h4=>by omega⟩
theorem OutR.sort {a0 b0 a b:Nat}{l:List α}(h:OutR cf a0 b0 a b l)(hs:SortR cf a b l):SortR cf a0 b0 l:=fun p q h1 h2 h3=>by
  by_cases e:p<a∨b≤q
  · exact h.le p q h1 h2 h3 e
  · exact hs p q (by omega) h2 (by omega)
theorem OutR.perm {a0 b0 a b:Nat}{l l':List α}(h:OutR cf a0 b0 a b l)(hp:PermR a b l l')(hb:b0≤l.length):OutR cf a0 b0 a b l':=by
  have hr:=h.rng
  refine ⟨hr,fun p q h1 h2 h3 h4 => ?_⟩
  by_cases e1:a≤p∧p<b
  · obtain ⟨p',hp',ep⟩:=hp.mem (by omega) e1
    rw [ep,hp.out q (by omega)]
    exact h.le p' q (by omega) (by omega) h3 (by omega)
  · rw [hp.out p (by omega)]
    by_cases e2:a≤q∧q<b
    · obtain ⟨q',hq',eq⟩:=hp.mem (by omega) e2
      rw [eq]
      exact h.le p q' h1 (by omega) (by omega) (by omega)
    · rw [hp.out q (by omega)]
      exact h.le p q h1 h2 h3 h4
def GdR (cf:α→α→Int)(a b:Nat)(l:List α):Prop:=0<a→∀k,a≤k→k<b→leC cf (l.getD (a-1) default) (l.getD k default)
theorem GdR.perm {a b x y:Nat}{l l':List α}(h:GdR cf a b l)(hp:PermR x y l l')(hx:a≤x)(hy:y≤b)(hb:b≤l.length):GdR cf a b l':=fun h0 k h1 h2=>by
  rw [hp.out (a-1) (by omega)]
  by_cases e:x≤k∧k<y
  · obtain ⟨k',hk',ek⟩:=hp.mem (by omega) e
    rw [ek];exact h h0 k' (by omega) (by omega)
  · rw [hp.out k (by omega)];exact h h0 k h1 h2
theorem GdR.less {a b b':Nat}{l:List α}(h:GdR cf a b l)(hb:b'≤b):GdR cf a b' l:=fun h0 k h1 h2=>h h0 k h1 (by omega)
theorem OutR.guard {a0 b0 a b:Nat}{l:List α}(h:OutR cf a0 b0 a b l)(ha:a0<a):GdR cf a b l:=fun h0 k h1 h2=>h.le (a-1) k (by omega) (by omega) (by have:=h.rng;omega) (by omega)
structure PartR (cf:α→α→Int)(a b m:Nat)(l:List α):Prop where
  rng:a≤m∧m<b
  lo:∀k,a≤k→k<m→leC cf (l.getD k default) (l.getD m default)
  hi:∀k,m<k→k<b→leC cf (l.getD m default) (l.getD k default)
theorem PartR.permL {a b m:Nat}{l l':List α}(h:PartR cf a b m l)(hp:PermR a m l l')(hb:b≤l.length):PartR cf a b m l':=by
  have hr:=h.rng
  refine ⟨hr,fun k h1 h2 => ?_,fun k h1 h2 => ?_⟩
  · obtain ⟨k',hk',ek⟩:=hp.mem (by omega) ⟨h1,h2⟩
    rw [ek,hp.out m (by omega)];exact h.lo k' (by omega) (by omega)
  · rw [hp.out m (by omega),hp.out k (by omega)];exact h.hi k h1 h2
theorem PartR.permH {a b m:Nat}{l l':List α}(h:PartR cf a b m l)(hp:PermR (m+1) b l l')(hb:b≤l.length):PartR cf a b m l':=by
  have hr:=h.rng
  refine ⟨hr,fun k h1 h2 => ?_,fun k h1 h2 => ?_⟩
  · rw [hp.out m (by omega),hp.out k (by omega)];exact h.lo k h1 h2
  · obtain ⟨k',hk',ek⟩:=hp.mem (by omega) ⟨h1,h2⟩
    rw [ek,hp.out m (by omega)];exact h.hi k' (by omega) (by omega)
theorem OutR.left (ho:Ordr cf) {a0 b0 a b m:Nat} {l l':List α} (h:OutR cf a0 b0 a b l) (hm:PartR cf a b m l) (hp:PermR a m l l') (hs:SortR cf a m l') (hb:b0≤l.length):OutR cf a0 b0 (m+1) b l':=by
  have hr:=h.rng
  have hr2:=hm.rng
  have h':=h.perm (hp.wide (Nat.le_refl _) (by omega)) hb
  have hm':=hm.permL hp (by omega)
  refine ⟨by omega,fun p q h1 h2 h3 h4 => ?_⟩
  by_cases e:p<a∨b≤q
  · exact h'.le p q h1 h2 h3 e
  · by_cases e1:q<m
    · exact hs p q (by omega) h2 e1
    · by_cases e2:q=m
      · subst e2;exact hm'.lo p (by omega) h2
      · by_cases e3:p=m
        · subst e3;exact hm'.hi q h2 (by omega)
        · exact ho.tr _ _ _ (hm'.lo p (by omega) (by omega)) (hm'.hi q (by omega) (by omega))
theorem OutR.right (ho:Ordr cf) {a0 b0 a b m:Nat} {l l':List α} (h:OutR cf a0 b0 a b l) (hm:PartR cf a b m l) (hp:PermR (m+1) b l l') (hs:SortR cf (m+1) b l') (hb:b0≤l.length):OutR cf a0 b0 a m l':=by
  have hr:=h.rng
  have hr2:=hm.rng
  have h':=h.perm (hp.wide (by omega) (Nat.le_refl _)) hb
  have hm':=hm.permH hp (by omega)
  refine ⟨by omega,fun p q h1 h2 h3 h4 => ?_⟩
  by_cases e:p<a∨b≤q
  · exact h'.le p q h1 h2 h3 e
  · by_cases e1:m<p
    · exact hs p q (by omega) h2 (by omega)
    · by_cases e2:q=m
      · subst e2;exact hm'.lo p (by omega) h2
      · by_cases e3:p=m
        · subst e3;exact hm'.hi q h2 (by omega)
        · exact ho.tr _ _ _ (hm'.lo p (by omega) (by omega)) (hm'.hi q (by omega) (by omega))
theorem OutR.equal {a0 b0 a b m:Nat}{l:List α}(h:OutR cf a0 b0 a b l)(hm:a≤m∧m≤b)(he:∀p q,a≤p→p<m→p<q→q<b→leC cf (l.getD p default) (l.getD q default)):OutR cf a0 b0 m b l:=by
  have hr:=h.rng
  refine ⟨by omega,fun p q h1 h2 h3 h4 => ?_⟩
  by_cases e:p<a∨b≤q
  · exact h.le p q h1 h2 h3 e
  · exact he p q (by omega) (by omega) h2 (by omega)
structure PtI (cf:α→α→Int)(a b i j:Nat)(l:List α):Prop where
  rng:a+1≤i∧i≤j+1∧j<b
  lo:∀k,a+1≤k→k<i→cf (l.getD k default) (l.getD a default)<0
  hi:∀k,j<k→k<b→leC cf (l.getD a default) (l.getD k default)
theorem PtI.start {a b:Nat}{l:List α}(h:a+1≤b):PtI cf a b (a+1) (b-1) l:=⟨by omega,fun k h1 h2=>by omega,fun k h1 h2=>by omega⟩
theorem PtI.up {a b i j:Nat}{l:List α}(h:PtI cf a b i j l)(hi:i≤j)(hc:cf (l.getD i default) (l.getD a default)<0):PtI cf a b (i+1) j l:=by
  have hr:=h.rng
  refine ⟨by omega,fun k h1 h2 => ?_,h.hi⟩
  by_cases e:k=i
  · subst e;exact hc
  · exact h.lo k h1 (by omega)
theorem PtI.down {a b i j:Nat}{l:List α}(h:PtI cf a b i j l)(hi:i≤j)(hc:¬cf (l.getD j default) (l.getD a default)<0):PtI cf a b i (j-1) l:=by
  have hr:=h.rng
  refine ⟨by omega,h.lo,fun k h1 h2 => ?_⟩
  by_cases e:k=j
  · subst e;exact hc
  · exact h.hi k (by omega) h2
theorem PtI.swap (ho:Ordr cf){a b i j:Nat}{l:List α}(h:PtI cf a b i j l)(hi:i≤j)(hl:b≤l.length)(h1:¬cf (l.getD i default) (l.getD a default)<0)(h2:cf (l.getD j default) (l.getD a default)<0):PtI cf a b (i+1) (j-1) (swp l i j):=by
  have hr:=h.rng
  have hne:i≠j:=fun e=>by subst e;exact h1 h2
  have g:∀k,(swp l i j).getD k default=if k=j then l.getD i default else if k=i then l.getD j default else l.getD k default:=fun k=>swp_get (by omega) (by omega)
  have ga:(swp l i j).getD a default=l.getD a default:=by rw [g,if_neg (by omega),if_neg (by omega)]
  refine ⟨by omega,fun k k1 k2 => ?_,fun k k1 k2 => ?_⟩
  · rw [ga,g,if_neg (by omega)]
    by_cases e:k=i
    · rw [if_pos e];exact h2
    · rw [if_neg e];exact h.lo k k1 (by omega)
  · rw [ga,g]
    by_cases e:k=j
    · rw [if_pos e];exact h1
    · rw [if_neg e,if_neg (by omega)];exact h.hi k (by omega) k2
theorem PtI.done (ho:Ordr cf){a b i j:Nat}{l:List α}(h:PtI cf a b i j l)(hi:¬i≤j)(hl:b≤l.length):PartR cf a b j (swp l j a):=by
  have hr:=h.rng
  have g:∀k,(swp l j a).getD k default=if k=a then l.getD j default else if k=j then l.getD a default else l.getD k default:=fun k=>swp_get (by omega) (by omega)
  have gj:(swp l j a).getD j default=l.getD a default:=by
    rw [g]
    by_cases e:j=a
    · rw [if_pos e,e]
    · rw [if_neg e,if_pos rfl]
  refine ⟨by omega,fun k k1 k2 => ?_,fun k k1 k2 => ?_⟩
  · rw [gj,g]
    by_cases e:k=a
    · rw [if_pos e];exact ho.lt (h.lo j (by omega) (by omega))
    · rw [if_neg e,if_neg (by omega)];exact ho.lt (h.lo k (by omega) (by omega))
  · rw [gj,g,if_neg (by omega),if_neg (by omega)];exact h.hi k (by omega) k2
structure PeI (cf:α→α→Int)(a b i j:Nat)(l:List α):Prop where
  rng:a+1≤i∧i≤j+1∧j<b
  lo:∀k,a+1≤k→k<i→leC cf (l.getD k default) (l.getD a default)
  mn:∀k,a≤k→k<b→leC cf (l.getD a default) (l.getD k default)
theorem PeI.start {a b:Nat}{l:List α}(h:a+1≤b)(mn:∀k,a≤k→k<b→leC cf (l.getD a default) (l.getD k default)):PeI cf a b (a+1) (b-1) l:=⟨by omega,fun k h1 h2=>by omega,mn⟩
theorem PeI.up {a b i j:Nat}{l:List α}(h:PeI cf a b i j l)(hi:i≤j)(hc:¬cf (l.getD a default) (l.getD i default)<0):PeI cf a b (i+1) j l:=by
  have hr:=h.rng
  refine ⟨by omega,fun k h1 h2 => ?_,h.mn⟩
  by_cases e:k=i
  · subst e;exact hc
  · exact h.lo k h1 (by omega)
theorem PeI.down {a b i j:Nat}{l:List α}(h:PeI cf a b i j l)(hi:i≤j):PeI cf a b i (j-1) l:=by
  have hr:=h.rng
  exact ⟨by omega,h.lo,h.mn⟩
theorem PeI.swap (ho:Ordr cf){a b i j:Nat}{l:List α}(h:PeI cf a b i j l)(hi:i≤j)(hl:b≤l.length)(h1:cf (l.getD a default) (l.getD i default)<0)(h2:¬cf (l.getD a default) (l.getD j default)<0):PeI cf a b (i+1) (j-1) (swp l i j):=by
  have hr:=h.rng
  have hne:i≠j:=fun e=>by subst e;exact h2 h1
  have g:∀k,(swp l i j).getD k default=if k=j then l.getD i default else if k=i then l.getD j default else l.getD k default:=fun k=>swp_get (by omega) (by omega)
  have ga:(swp l i j).getD a default=l.getD a default:=by rw [g,if_neg (by omega),if_neg (by omega)]
  refine ⟨by omega,fun k k1 k2 => ?_,fun k k1 k2 => ?_⟩
  · rw [ga,g,if_neg (by omega)]
    by_cases e:k=i
    · rw [if_pos e];exact h2
    · rw [if_neg e];exact h.lo k k1 (by omega)
  · rw [ga,g]
    by_cases e:k=j
    · rw [if_pos e];exact h.mn i (by omega) (by omega)
    · rw [if_neg e]
      by_cases e2:k=i
      · rw [if_pos e2];exact h.mn j (by omega) (by omega)
      · rw [if_neg e2];exact h.mn k k1 k2
theorem PeI.done (ho:Ordr cf){a b i j:Nat}{l:List α}(h:PeI cf a b i j l):∀p q,a≤p→p<i→p<q→q<b→leC cf (l.getD p default) (l.getD q default):=fun p q h1 h2 h3 h4=>by
  by_cases e:p=a
  · subst e;exact h.mn q (by omega) h4
  · exact ho.tr _ _ _ (h.lo p (by omega) h2) (h.mn q (by omega) h4)
def HpR (cf:α→α→Int)(f lo hi:Nat)(l:List α):Prop:=∀c,0<c→c<hi→lo≤(c-1) / 2→leC cf (l.getD (f+c) default) (l.getD (f+(c-1) / 2) default)
structure SfI (cf:α→α→Int)(f lo hi r:Nat)(l:List α):Prop where
  rng:lo≤r
  up:∀c,0<c→c<hi→lo≤(c-1) / 2→(c-1) / 2≠r→leC cf (l.getD (f+c) default) (l.getD (f+(c-1) / 2) default)
  thru:∀c,0<c→c<hi→(c-1) / 2=r→0<r→lo≤(r-1) / 2→leC cf (l.getD (f+c) default) (l.getD (f+(r-1) / 2) default)
theorem SfI.start {f lo hi:Nat}{l:List α}(h:HpR cf f (lo+1) hi l):SfI cf f lo hi lo l :=
  ⟨Nat.le_refl _,fun c h1 h2 h3 h4=>h c h1 h2 (by omega),fun c h1 h2 h3 h4 h5=>by omega⟩
theorem SfI.end1 {f lo hi r:Nat}{l:List α}(h:SfI cf f lo hi r l)(hc:hi≤2*r+1):HpR cf f lo hi l:=fun c h1 h2 h3=>h.up c h1 h2 h3 (by omega)
structure ChR (cf:α→α→Int)(f hi r c:Nat)(l:List α):Prop where
  rng:c<hi∧0<c∧(c-1) / 2=r
  mx:∀d,0<d→d<hi→(d-1) / 2=r→leC cf (l.getD (f+d) default) (l.getD (f+c) default)
theorem ChR.one (ho:Ordr cf){f hi r:Nat}{l:List α}(h:2*r+1<hi)(hc:¬(2*r+1+1<hi∧cf (l.getD (f+(2*r+1)) default) (l.getD (f+(2*r+1+1)) default)<0)):ChR cf f hi r (2*r+1) l:=by
  refine ⟨by omega,fun d h1 h2 h3 => ?_⟩
  have:d=2*r+1∨d=2*r+2:=by omega
  rcases this with e | e
  · rw [e];exact ho.rf _
  · subst e
    intro hx
    exact hc ⟨h2,hx⟩
theorem ChR.two (ho:Ordr cf){f hi r:Nat}{l:List α}(h:2*r+1+1<hi)(hc:cf (l.getD (f+(2*r+1)) default) (l.getD (f+(2*r+1+1)) default)<0):ChR cf f hi r (2*r+1+1) l:=by
  refine ⟨by omega,fun d h1 h2 h3 => ?_⟩
  have:d=2*r+1∨d=2*r+1+1:=by omega
  rcases this with e | e
  · rw [e];exact ho.lt hc
  · rw [e];exact ho.rf _
theorem SfI.end2 (ho:Ordr cf){f lo hi r c:Nat}{l:List α}(h:SfI cf f lo hi r l)(hc:ChR cf f hi r c l)(hn:¬cf (l.getD (f+r) default) (l.getD (f+c) default)<0):HpR cf f lo hi l:=fun d h1 h2 h3=>by
  by_cases e:(d-1) / 2=r
  · rw [e];exact ho.tr _ _ _ (hc.mx d h1 h2 e) hn
  · exact h.up d h1 h2 h3 e
theorem SfI.step (ho:Ordr cf) {f lo hi r c:Nat} {l:List α} (h:SfI cf f lo hi r l) (hc:ChR cf f hi r c l) (hl:f+hi≤l.length) (hn:cf (l.getD (f+r) default) (l.getD (f+c) default)<0):SfI cf f lo hi c (swp l (f+r) (f+c)):=by
  have hr:=h.rng
  have hcr:=hc.rng
  have hrc:r<c:=by omega
  have g:∀k,(swp l (f+r) (f+c)).getD (f+k) default=if k=c then l.getD (f+r) default else if k=r then l.getD (f+c) default else l.getD (f+k) default:=fun k=>by
    rw [swp_get (by omega) (by omega)]
    by_cases e1:k=c
    · rw [if_pos (by omega),if_pos e1]
    · rw [if_neg (by omega),if_neg e1]
      by_cases e2:k=r
      · rw [if_pos (by omega),if_pos e2]
      · rw [if_neg (by omega),if_neg e2]
  refine ⟨by omega,fun d h1 h2 h3 h4 => ?_,fun d h1 h2 h3 h4 h5 => ?_⟩
  · rw [g,g ((d-1) / 2),if_neg h4]
    by_cases e:(d-1) / 2=r
    · rw [if_pos e]
      by_cases e1:d=c
      · rw [if_pos e1];exact ho.lt hn
      · rw [if_neg e1,if_neg (by omega)];exact hc.mx d h1 h2 e
    · rw [if_neg e,if_neg (show ¬d=c from fun e'=>e (by rw [e'];exact hcr.2.2))]
      by_cases e1:d=r
      · rw [if_pos e1]
        have:=h.thru c hcr.2.1 hcr.1 hcr.2.2 (by omega) (by rw [←e1];exact h3)
        rw [e1];exact this
      · rw [if_neg e1];exact h.up d h1 h2 h3 e
  · rw [g,g ((c-1) / 2),if_neg (by omega),if_neg (by omega),if_neg (by omega),if_pos hcr.2.2]
    have:=h.up d h1 h2 (by omega) (by omega)
    rw [h3] at this;exact this
theorem HpR.top (ho:Ordr cf){f n:Nat}{l:List α}(h:HpR cf f 0 n l):∀k,k<n→leC cf (l.getD (f+k) default) (l.getD f default):=by
  intro k
  induction k using Nat.strongRecOn with
  | ind k ih =>
    intro hk
    by_cases e:k=0
    · subst e;exact ho.rf _
    · exact ho.tr _ _ _ (h k (by omega) hk (Nat.zero_le _)) (ih ((k-1) / 2) (by omega) (by omega))
theorem HpR.none {f n:Nat}{l:List α}:HpR cf f ((n-1) / 2+1) n l:=fun c h1 h2 h3=>by omega
theorem HpR.pop (ho:Ordr cf){f n b:Nat}{l:List α}(h:HpR cf f 0 (n+1) l)(hO:OutR cf f b f (f+(n+1)) l)(hl:b≤l.length):HpR cf f 1 n (swp l f (f+n))∧OutR cf f b f (f+n) (swp l f (f+n)):=by
  have hr:=hO.rng
  have g:∀k,(swp l f (f+n)).getD k default=if k=f+n then l.getD f default else if k=f then l.getD (f+n) default else l.getD k default:=fun k=>swp_get (by omega) (by omega)
  have hp:PermR f (f+(n+1)) l (swp l f (f+n)):=swp_perm ⟨by omega,by omega⟩ ⟨by omega,by omega⟩ (by omega)
  have hO':=hO.perm hp hl
  refine ⟨fun c h1 h2 h3 => ?_,by omega,fun p q h1 h2 h3 h4 => ?_⟩
  · rw [g,g,if_neg (by omega),if_neg (by omega),if_neg (by omega),if_neg (by omega)]
    exact h c h1 (by omega) (by omega)
  · by_cases e:q=f+n
    · subst e
      have:(swp l f (f+n)).getD (f+n) default=l.getD f default:=by rw [g,if_pos rfl]
      rw [this]
      obtain ⟨p',hp',ep⟩:=hp.mem (by omega) (k:=p) ⟨h1,by omega⟩
      rw [ep]
      have:=h.top ho (p'-f) (by omega)
      rw [show f+(p'-f)=p' by omega] at this
      exact this
    · exact hO'.le p q h1 h2 h3 (by omega)
theorem GdR.least (ho:Ordr cf){a b v:Nat}{l:List α}(h:GdR cf a b l)(ha:0<a)(hv:¬cf (l.getD (a-1) default) (l.getD v default)<0):∀k,a≤k→k<b→leC cf (l.getD v default) (l.getD k default):=fun k h1 h2=>ho.tr _ _ _ hv (h ha k h1 h2)
theorem least_swp {a b v:Nat}{l:List α}(ha:a≤v∧v<b)(hb:b≤l.length)(h:∀k,a≤k→k<b→leC cf (l.getD v default) (l.getD k default)):∀k,a≤k→k<b→leC cf ((swp l a v).getD a default) ((swp l a v).getD k default):=fun k h1 h2=>by
  have g:∀k,(swp l a v).getD k default=if k=v then l.getD a default else if k=a then l.getD v default else l.getD k default:=fun k=>swp_get (by omega) (by omega)
  have ga:(swp l a v).getD a default=l.getD v default:=by
    rw [g]
    by_cases e:a=v
    · rw [if_pos e,e]
    · rw [if_neg e,if_pos rfl]
  rw [ga,g]
  repeat' split
  · exact h a (by omega) (by omega)
  · exact h v (by omega) (by omega)
  · exact h k h1 h2
theorem SortR.one {a i:Nat}{l:List α}(h:i≤a+1):SortR cf a i l:=fun p q h1 h2 h3=>by omega
theorem SortR.next (ho:Ordr cf){a i:Nat}{l:List α}(h:SortR cf a i l)(hi:a<i)(hc:¬cf (l.getD i default) (l.getD (i-1) default)<0):SortR cf a (i+1) l:=fun p q h1 h2 h3=>by
  by_cases e:q=i
  · subst e
    by_cases e2:p=q-1
    · subst e2;exact hc
    · exact ho.tr _ _ _ (h p (q-1) h1 (by omega) (by omega)) hc
  · exact h p q h1 h2 (by omega)
theorem InsR.last {a i:Nat}{l l':List α}(h:SortR cf a (i-1) l'):InsR cf a (i-1) (i-1) l':=InsR.start h
end
end Go.Proofs.Ytclghkegfpcdpaa.Vm
namespace Go.Proofs.Ytclghkegfpcdpaa.Vm
open Go
set_option maxRecDepth 100000
set_option linter.unusedSimpArgs false
set_option linter.unusedVariables false
attribute [-simp] List.getD_eq_getElem?_getD
theorem wLoop_post {T:Tbl}{lim:Nat}{body:VCode}{Q:VExit→St→Prop}{s:St}(id:Nat)(P:Fr→Lo→Hp→Prop)(h:wCode T lim (.loop body) (fun e s=>e=.exit id∧P s.fr s.L s.H) s)(hQ:∀fr L H,P fr L H→Q (.exit id) ⟨fr,L,H⟩):wCode T lim (.loop body) Q s:=by
  obtain ⟨n,e,s',h1,he,h2⟩:=h
  subst he
  exact ⟨n,_,s',h1,hQ _ _ _ h2⟩
abbrev EO:=Int
def cfI (x y:Int):Int:=x-y
def gO (l:List EO)(i:Nat):EO:=l.getD i default
def eO (x:EO):V:=.int .i64 x
def rowO (l:List EO):Blk:=.row (ints l) true
theorem stor_eO {x:EO}:stor (eO x)=true:=Eq.trans rfl rfl
attribute [simp] stor_eO
theorem so_addr {b n:Nat}{i:Int}(h:0≤i∧i<n):viaddrS 1 (.sl b 0 n 1) (.int .i64 i)=some (V.ptr b i.toNat):=by
  rw [viaddrS_in (by omega)];simp
theorem so_ld {H:Hp}{b:Nat}{l:List EO}(h:H[b]? = some (rowO l)){i:Nat}(hi:i<l.length){L:Lo}:vload none L H (V.ptr b i)=some (eO (gO l i)):=by
  rw [vload_ptr h,rd_ints hi];rfl
theorem so_st {lim:Nat}{H:Hp}{b:Nat}{l:List EO}(h:H[b]? = some (rowO l))(hlim:lim≤b){i:Nat}(hi:i<l.length){L:Lo}(x:EO):vstore lim L H (V.ptr b i) (eO x) 1=some (L,H.set b (rowO (l.set i x))):=by
  have:i+1≤l.length:=hi
  have h:H[b]? = some (.row (ints l) true):=h
  simp [eO,rowO,vstore,vstoreH,h,hlim,this,splice_ints_one hi]
structure SoS (b:Nat)(H0:Hp)(l0 l:List EO)(H:Hp):Prop where
  row:H[b]? = some (rowO l)
  len:H0.length≤H.length
  oth:∀b',b'<H0.length→b'≠b→H[b']? = H0[b']?
  perm:l.Perm l0
  blt:b<H0.length
section
variable {lim:Nat}{H H0:Hp}{K:V→Hp→Prop}{b:Nat}{l l0:List EO}
theorem SoS.n (h:SoS b H0 l0 l H):l.length=l0.length:=h.perm.length_eq
theorem SoS.start (hb:H[b]? = some (rowO l)):SoS b H l l H:=⟨hb,Nat.le_refl _,fun _ _ _=>rfl,.refl _,(List.getElem?_eq_some_iff.1 hb).1⟩
theorem SoS.lt (h:SoS b H0 l0 l H):b<H.length:=(List.getElem?_eq_some_iff.1 h.row).1
theorem SoS.grow {H':Hp}(h:SoS b H0 l0 l H)(x:HX H H'):SoS b H0 l0 l H' :=
  ⟨x.get h.row,Nat.le_trans h.len x.len,fun b' h1 h2=>(x.same (Nat.lt_of_lt_of_le h1 h.len)).trans (h.oth b' h1 h2),h.perm,h.blt⟩
theorem SoS.set {l':List EO}(h:SoS b H0 l0 l H)(hp:l'.Perm l0):SoS b H0 l0 l' (H.set b (rowO l')) :=
  ⟨by simp [h.lt],by simpa using h.len,fun b' h1 h2=>by rw [List.getElem?_set_ne (fun e=>h2 e.symm)];exact h.oth b' h1 h2,hp,h.blt⟩
theorem SoS.swap (h:SoS b H0 l0 l H){i j:Nat}(hi:i<l.length)(hj:j<l.length):SoS b H0 l0 (swp l i j) (H.set b (rowO (swp l i j))) :=
  h.set ((swp_perm (a:=0) (b:=l.length) ⟨Nat.zero_le _,hi⟩ ⟨Nat.zero_le _,hj⟩ (Nat.le_refl _)).perm.trans h.perm)
theorem SoS.aside (h:SoS b H0 l0 l H){s:Nat}{r:Blk}(hs:H0.length≤s):SoS b H0 l0 l (H.set s r):=by
  have:=h.blt
  exact ⟨by rw [List.getElem?_set_ne (by omega)];exact h.row,by simpa using h.len,fun b' h1 h2=>by rw [List.getElem?_set_ne (by omega)];exact h.oth b' h1 h2,h.perm,h.blt⟩
theorem SoS.mem (h:SoS b H0 l0 l H){i:Nat}(hi:i<l.length):gO l i∈l0:=by
  rw [gO,←h.perm.mem_iff,getD_of hi];exact List.getElem_mem hi
theorem so_less (hs:SoS b H0 l0 l H){i j:Nat}(hi:i<l.length)(hj:j<l.length){lim:Nat}{K:V→Hp→Prop}(hK:∀H',HX H H'→SoS b H0 l0 l H'→K (.bool (decide (cfI (gO l i) (gO l j)<0))) H') :
    VCall tbl lim 106 [eO (gO l i),eO (gO l j)] H K:=by
  have h0:=hK H HX.refl hs
  have e:∀x y:Int,decide (cfI x y<0)=decide (x<y):=fun x y=>by rw [decide_eq_decide];unfold cfI;omega
  have e:=e (gO l i) (gO l j)
  rw [e] at h0
  refine VCall_fn tbl_at106 rfl ?_
  simp [vf106,eO]
  refine VCall_fn tbl_at124 rfl ?_
  simp [vf124]
  exact h0
theorem so_w1 (h:SoS b H0 l0 l H)(hlim:lim≤b){i:Nat}(hi:i<l.length){L:Lo}(x:EO):vstore lim L H (V.ptr b i) (eO x) 1=some (L,H.set b (rowO (l.set i x))):=so_st h.row hlim hi x
theorem so_w2 (h:SoS b H0 l0 l H)(hlim:lim≤b){i j:Nat}(hj:j<l.length){L:Lo}:vstore lim L (H.set b (rowO (l.set i (gO l j)))) (V.ptr b j) (eO (gO l i)) 1=some (L,H.set b (rowO (swp l i j))):=by
  rw [so_st (l:=l.set i (gO l j)) (by simp [h.lt]) hlim (by simpa using hj),List.set_set];rfl
theorem so_isort (hs:SoS b H0 l0 l H) (hlim:lim≤b) (ho:Ordr cfI) {a e:Nat} (hae:a≤e∧e≤l0.length) (hl:l0.length≤100000)
    (hK:∀H' l',SoS b H0 l0 l' H'→PermR a e l l'→SortR cfI a e l'→K (.tup []) H'):VCall tbl lim 100 [.sl b 0 l0.length 1,.int .i64 a,.int .i64 e] H K:=by
  refine VCall_fn tbl_at100 rfl ?_
  have hn:=hs.n
  simp (disch:=omega) [vf100,wrap_i64]
  refine wLoop_up (e-(a+1)) (fun i fr L H'=>∃l',(fr 0=.sl b 0 l0.length 1∧fr 1=.int .i64 a∧fr 2=.int .i64 e∧fr 6=.int .i64 ((a+1+i:Nat):Int))∧L=[]∧SoS b H0 l0 l' H'∧PermR a e l l'∧SortR cfI a (min e (a+1+i)) l') ⟨l,by simp,rfl,hs,PermR.refl,fun p q h1 h2 h3=>by omega⟩ ?_
  rintro i hi fr L H' ⟨l',⟨f0,f1,f2,f6⟩,rfl,hr,hp,hs'⟩
  simp [f0,f1,f2,f6]
  refine cond_dec (fun ht => ?_) fun hfl => ?_
  · have ht:i<e-(a+1):=by omega
    rw [Nat.min_eq_right (by omega)] at hs'
    simp [f6]
    refine wLoop_m (n:=i+1) (fun m fr L H'=>∃l',(fr 0=.sl b 0 l0.length 1∧fr 1=.int .i64 a∧fr 2=.int .i64 e∧fr 6=.int .i64 ((a+1+i:Nat):Int)∧fr 7=.int .i64 ((a+m:Nat):Int))∧L=[]∧SoS b H0 l0 l' H'∧PermR a e l l'∧m≤i+1∧InsR cfI a (a+1+i) (a+m) l') ⟨l',by simp [f0,f1,f2,f6];omega,rfl,hr,hp,Nat.le_refl _,by rw [show a+(i+1)=a+1+i by omega];exact InsR.start hs'⟩ ?_
    clear f0 f1 f2 f6 hr hp hs' l'
    rintro m fr L H' ⟨l',⟨f0,f1,f2,f6,f7⟩,rfl,hr,hp,hm,hI⟩
    have hlen:=hp.len
    by_cases hm0:m=0
    · subst hm0
      have hs2:=hI.done ho (by omega) (by omega) (Or.inl rfl)
      simp (disch:=omega) [f0,f1,f2,f6,f7,wrap_i64]
      refine ⟨by omega,by omega,l',hr,hp,?_⟩
      rw [show a+1+(i+1)=a+1+i+1 by omega];exact hs2
    · have e1:((a:Int)+(m:Int)).toNat=a+m:=by omega
      have e2:((a:Int)+(m:Int)-1).toNat=a+m-1:=by omega
      have g1:=fun L=>so_ld hr.row (i:=a+m) (by omega) (L:=L)
      have g2:=fun L=>so_ld hr.row (i:=a+m-1) (by omega) (L:=L)
      have hgt:((a:Int)<(a:Int)+(m:Int))=True:=eq_true (by omega)
      simp (disch:=omega) [f0,f1,f2,f6,f7,hgt,wrap_i64,e1,e2,g1,g2,so_addr,-viaddrS_in,-vload_ptrO]
      refine so_less hr (i:=a+m) (j:=a+m-1) (by omega) (by omega) fun H2 x2 hr2 => ?_
      have g1:=fun L=>so_ld hr2.row (i:=a+m) (by omega) (L:=L)
      have g2:=fun L=>so_ld hr2.row (i:=a+m-1) (by omega) (L:=L)
      simp
      refine cond_dec (fun hlt => ?_) fun hlt => ?_
      · have w1:=fun L=>so_w1 hr2 hlim (i:=a+m) (by omega) (L:=L) (gO l' (a+m-1))
        have w2:=fun L=>so_w2 hr2 hlim (i:=a+m) (j:=a+m-1) (by omega) (L:=L)
        have hr4:=hr2.swap (i:=a+m) (j:=a+m-1) (by omega) (by omega)
        have hsw:=InsR.swap ho hI (by omega) (by omega) (by omega) hlt
        have hsw:InsR cfI a (a+1+i) (a+(m-1)) (swp l' (a+m) (a+m-1)):=by
          have e3:a+(m-1)=a+m-1:=by omega
          rw [e3];exact hsw
        have hps:=hp.trans (swp_perm (l:=l') (i:=a+m) (j:=a+m-1) (a:=a) (b:=e) ⟨by omega,by omega⟩ ⟨by omega,by omega⟩ (by omega))
        simp (disch:=omega) [f0,f1,f2,f6,f7,wrap_i64,e1,e2,g1,g2,w1,w2,so_addr,-viaddrS_in,-vstore,-vload_ptrO]
        exact ⟨m-1,by omega,by omega,_,hr4,hps,by omega,hsw⟩
      · have hs2:=hI.done ho (by omega) (by omega) (Or.inr hlt)
        simp (disch:=omega) [f0,f1,f2,f6,f7,wrap_i64]
        refine ⟨by omega,by omega,l',hr2,hp,?_⟩
        rw [show a+1+(i+1)=a+1+i+1 by omega];exact hs2
  · have:e≤a+1+i:=by omega
    rw [Nat.min_eq_left this] at hs'
    simp
    exact hK _ _ hr hp hs'
theorem sw_ld {s:Nat}{w:Int}(h:H[s]? = some (.row [.int .i64 w] true)){L:Lo}:vload none L H (.ptr s 0)=some (.int .i64 w):=by
  rw [vload_ptr h];rfl
theorem sw_st {s:Nat}{w z:Int}(h:H[s]? = some (.row [.int .i64 w] true))(hl:lim≤s){L:Lo}:vstore lim L H (.ptr s 0) (.int .i64 z) 1=some (L,H.set s (.row [.int .i64 z] true)):=by
  simp [vstore,vstoreH,h,hl,splice]
theorem so_order2 {s x y:Nat}{w:Int}(hs:SoS b H0 l0 l H)(hlim:lim≤b)(hsw:H[s]? = some (.row [.int .i64 w] true))(hs0:H0.length≤s)(hx:x<l0.length)(hy:y<l0.length)
    (hK:∀H' w' x' y',SoS b H0 l0 l H'→H'[s]? = some (.row [.int .i64 w'] true)→((x'=x∧y'=y)∨(x'=y∧y'=x))→K (.tup [.int .i64 (x':Nat),.int .i64 (y':Nat)]) H') :
    VCall tbl lim 128 [.sl b 0 l0.length 1,.int .i64 x,.int .i64 y,.ptr s 0] H K:=by
  refine VCall_fn tbl_at128 rfl ?_
  have hn:=hs.n
  have g1:=fun L=>so_ld hs.row (i:=x) (by omega) (L:=L)
  have g2:=fun L=>so_ld hs.row (i:=y) (by omega) (L:=L)
  simp (disch:=omega) [vf128,g1,g2,so_addr,-viaddrS_in,-vload_ptrO]
  refine so_less hs (i:=y) (j:=x) (by omega) (by omega) fun H2 x2 hs2 => ?_
  have hsw2:=x2.get hsw
  have hbl:=hs.blt
  simp
  refine cond_dec (fun hlt => ?_) fun hlt => ?_
  · have ld:=fun L=>sw_ld (L:=L) hsw2
    have st:=fun L z=>sw_st (lim:=lim) (L:=L) (z:=z) hsw2 (by omega)
    simp [ld,st,-vstore,-vload_ptrO]
    exact hK _ _ y x (hs2.aside hs0) (by rw [List.getElem?_set_self (List.getElem?_eq_some_iff.1 hsw2).1]) (Or.inr ⟨rfl,rfl⟩)
  · simp
    exact hK _ _ x y hs2 hsw2 (Or.inl ⟨rfl,rfl⟩)
theorem so_median {s x y z:Nat}{w:Int}(hs:SoS b H0 l0 l H)(hlim:lim≤b)(hsw:H[s]? = some (.row [.int .i64 w] true))(hs0:H0.length≤s)(hx:x<l0.length)(hy:y<l0.length)(hz:z<l0.length)
    (hK:∀H' w' r,SoS b H0 l0 l H'→H'[s]? = some (.row [.int .i64 w'] true)→(r=x∨r=y∨r=z)→K (.int .i64 (r:Nat)) H') :
    VCall tbl lim 123 [.sl b 0 l0.length 1,.int .i64 x,.int .i64 y,.int .i64 z,.ptr s 0] H K:=by
  refine VCall_fn tbl_at123 rfl ?_
  simp [vf123]
  refine so_order2 hs hlim   hsw hs0 hx hy fun H1 w1 x1 y1 hs1 hsw1 h1 => ?_
  simp []
  refine so_order2 hs1 hlim   hsw1 hs0 (x:=y1) (y:=z) (by omega) hz fun H2 w2 x2 y2 hs2 hsw2 h2 => ?_
  simp []
  refine so_order2 hs2 hlim   hsw2 hs0 (x:=x1) (y:=x2) (by omega) (by omega) fun H3 w3 x3 y3 hs3 hsw3 h3 => ?_
  simp
  exact hK _ _ _ hs3 hsw3 (by omega)
theorem so_medianAdj {s x:Nat}{w:Int}(hs:SoS b H0 l0 l H)(hlim:lim≤b)(hsw:H[s]? = some (.row [.int .i64 w] true))(hs0:H0.length≤s)(hx:0<x∧x+1<l0.length)(hl:l0.length≤100000)
    (hK:∀H' w' r,SoS b H0 l0 l H'→H'[s]? = some (.row [.int .i64 w'] true)→(x-1≤r∧r≤x+1)→K (.int .i64 (r:Nat)) H') :
    VCall tbl lim 122 [.sl b 0 l0.length 1,.int .i64 x,.ptr s 0] H K:=by
  refine VCall_fn tbl_at122 rfl ?_
  have e1:(x:Int)-1=((x-1:Nat):Int):=by omega
  have e2:(x:Int)+1=((x+1:Nat):Int):=by omega
  simp (disch:=omega) [vf122,wrap_i64]
  rw [e1,e2]
  refine so_median hs hlim   hsw hs0 (x:=x-1) (y:=x) (z:=x+1) (by omega) (by omega) (by omega) fun H1 w1 r hs1 hsw1 h1 => ?_
  simp
  exact hK _ _ _ hs1 hsw1 (by omega)
theorem so_reverse (hs:SoS b H0 l0 l H)(hlim:lim≤b){a e:Nat}(hae:a<e∧e≤l0.length)(hl:l0.length≤100000)
    (hK:∀H' l',SoS b H0 l0 l' H'→PermR a e l l'→K (.tup []) H'):VCall tbl lim 104 [.sl b 0 l0.length 1,.int .i64 a,.int .i64 e] H K:=by
  refine VCall_fn tbl_at104 rfl ?_
  have hn:=hs.n
  simp (disch:=omega) [vf104,wrap_i64]
  refine wLoop_up (e-a) (fun i fr L H'=>∃l',(fr 0=.sl b 0 l0.length 1∧fr 6=.int .i64 ((a+i:Nat):Int)∧fr 7=.int .i64 ((e-1:Nat)-(i:Nat):Int))∧L=[]∧SoS b H0 l0 l' H'∧PermR a e l l') ⟨l,by simp;omega,rfl,hs,PermR.refl⟩ ?_
  rintro i hi fr L H' ⟨l',⟨f0,f6,f7⟩,rfl,hr,hp⟩
  have hlen:=hp.len
  simp [f0,f6,f7]
  refine cond_dec (fun ht => ?_) fun hfl => ?_
  · have e1:((a:Int)+(i:Int)).toNat=a+i:=by omega
    have e2:(((e-1:Nat):Int)-(i:Int)).toNat=e-1-i:=by omega
    have g1:=fun L=>so_ld hr.row (i:=a+i) (by omega) (L:=L)
    have g2:=fun L=>so_ld hr.row (i:=e-1-i) (by omega) (L:=L)
    have w1:=fun L=>so_w1 hr hlim (i:=a+i) (by omega) (L:=L) (gO l' (e-1-i))
    have w2:=fun L=>so_w2 hr hlim (i:=a+i) (j:=e-1-i) (by omega) (L:=L)
    have hr4:=hr.swap (i:=a+i) (j:=e-1-i) (by omega) (by omega)
    have hps:=hp.trans (swp_perm (l:=l') (i:=a+i) (j:=e-1-i) (a:=a) (b:=e) ⟨by omega,by omega⟩ ⟨by omega,by omega⟩ (by omega))
    simp (disch:=omega) [f0,f6,f7,wrap_i64,e1,e2,g1,g2,w1,w2,so_addr,-viaddrS_in,-vstore,-vload_ptrO]
    exact ⟨by omega,by omega,_,hr4,hps⟩
  · simp
    exact hK _ _ hr hp
end
end Go.Proofs.Ytclghkegfpcdpaa.Vm
namespace Go.Proofs.Ytclghkegfpcdpaa.Vm
open Go
set_option maxRecDepth 100000
set_option maxHeartbeats 1000000
set_option linter.unusedSimpArgs false
set_option linter.unusedVariables false
attribute [-simp] List.getD_eq_getElem?_getD
section
variable {lim:Nat}{H H0:Hp}{K:V→Hp→Prop}{b:Nat}{l l0:List EO}
theorem so_sift (hs:SoS b H0 l0 l H) (hlim:lim≤b) (ho:Ordr cfI) {f lo hi:Nat} (hf:f+hi≤l0.length∧lo<hi+1) (hl:l0.length≤100000) (hp:HpR cfI f (lo+1) hi l)
    (hK:∀H' l',SoS b H0 l0 l' H'→PermR f (f+hi) l l'→HpR cfI f lo hi l'→K (.tup []) H') :
    VCall tbl lim 119 [.sl b 0 l0.length 1,.int .i64 lo,.int .i64 hi,.int .i64 f] H K:=by
  refine VCall_fn tbl_at119 rfl ?_
  have hn:=hs.n
  simp (disch:=omega) [vf119,wrap_i64]
  refine wLoop_m (n:=hi+1-lo) (fun m fr L H'=>∃l' r,(fr 0=.sl b 0 l0.length 1∧fr 2=.int .i64 hi∧fr 3=.int .i64 f∧fr 8=.int .i64 (r:Nat))∧L=[]∧SoS b H0 l0 l' H'∧PermR f (f+hi) l l'∧SfI cfI f lo hi r l'∧r≤hi∧m=hi+1-r) ⟨l,lo,by simp,rfl,hs,PermR.refl,SfI.start hp,by omega,rfl⟩ ?_
  rintro m fr L H' ⟨l',r,⟨f0,f2,f3,f8⟩,rfl,hr,hpp,hI,hrh,hm⟩
  have hlen:=hpp.len
  simp (disch:=omega) [f0,f2,f3,f8,wrap_i64]
  refine cond_dec (fun ht => ?_) fun ht => ?_
  · simp
    exact hK _ _ hr hpp (hI.end1 (by omega))
  have h1:2*r+1<hi:=by omega
  have e1:((f:Int)+(2*(r:Int)+1)).toNat=f+(2*r+1):=by omega
  have e2:((f:Int)+(2*(r:Int)+1)+1).toNat=f+(2*r+1+1):=by omega
  have e3:((f:Int)+(r:Int)).toNat=f+r:=by omega
  have e4:((f:Int)+(2*(r:Int)+1+1)).toNat=f+(2*r+1+1):=by omega
  have g1:=fun L=>so_ld hr.row (i:=f+(2*r+1)) (by omega) (L:=L)
  by_cases h2:2*r+1+1<hi
  · have g2:=fun L=>so_ld hr.row (i:=f+(2*r+1+1)) (by omega) (L:=L)
    have hgt:(2*(r:Int)+1+1<(hi:Int))=True:=eq_true (by omega)
    simp (disch:=omega) [f0,f2,f3,f8,hgt,wrap_i64,e1,e2,g1,g2,so_addr,-viaddrS_in,-vload_ptrO]
    refine so_less hr (i:=f+(2*r+1)) (j:=f+(2*r+1+1)) (by omega) (by omega) fun H2 x2 hr2 => ?_
    simp
    refine cond_dec (fun hlt => ?_) fun hlt => ?_
    · have ch0:=ChR.two ho h2 hlt
      have ch:ChR cfI f hi r (2*r+1+1) l':=ch0
      have hcr:=ch.rng
      have g3:=fun L=>so_ld hr2.row (i:=f+r) (by omega) (L:=L)
      have g4:=fun L=>so_ld hr2.row (i:=f+(2*r+1+1)) (by omega) (L:=L)
      simp (disch:=omega) [f0,f2,f3,f8,wrap_i64,e1,e2,e3,e4,g3,g4,so_addr,-viaddrS_in,-vload_ptrO]
      refine so_less hr2 (i:=f+r) (j:=f+(2*r+1+1)) (by omega) (by omega) fun H3 x3 hr3 => ?_
      simp
      refine cond_ndec (fun hlt => ?_) fun hlt => ?_
      · simp
        exact hK _ _ hr3 hpp (hI.end2 ho ch hlt)
      · have g3:=fun L=>so_ld hr3.row (i:=f+r) (by omega) (L:=L)
        have g4:=fun L=>so_ld hr3.row (i:=f+(2*r+1+1)) (by omega) (L:=L)
        have w1:=fun L=>so_w1 hr3 hlim (i:=f+r) (by omega) (L:=L) (gO l' (f+(2*r+1+1)))
        have w2:=fun L=>so_w2 hr3 hlim (i:=f+r) (j:=f+(2*r+1+1)) (by omega) (L:=L)
        have hr4:=hr3.swap (i:=f+r) (j:=f+(2*r+1+1)) (by omega) (by omega)
        have hps:=hpp.trans (swp_perm (l:=l') (i:=f+r) (j:=f+(2*r+1+1)) (a:=f) (b:=f+hi) ⟨by omega,by omega⟩ ⟨by omega,by omega⟩ (by omega))
        have hI2:=hI.step ho ch (by omega) hlt
        simp (disch:=omega) [f0,f2,f3,f8,wrap_i64,e1,e2,e3,e4,g3,g4,w1,w2,so_addr,-viaddrS_in,-vstore,-vload_ptrO]
        exact ⟨hi+1-(2*r+1+1),by omega,_,2*r+1+1,by omega,hr4,hps,hI2,by omega,rfl⟩
    · have ch0:=ChR.one ho (hi:=hi) (l:=l') (f:=f) h1 (fun h=>hlt h.2)
      have ch:ChR cfI f hi r (2*r+1) l':=ch0
      have hcr:=ch.rng
      have g3:=fun L=>so_ld hr2.row (i:=f+r) (by omega) (L:=L)
      have g4:=fun L=>so_ld hr2.row (i:=f+(2*r+1)) (by omega) (L:=L)
      simp (disch:=omega) [f0,f2,f3,f8,wrap_i64,e1,e2,e3,e4,g3,g4,so_addr,-viaddrS_in,-vload_ptrO]
      refine so_less hr2 (i:=f+r) (j:=f+(2*r+1)) (by omega) (by omega) fun H3 x3 hr3 => ?_
      simp
      refine cond_ndec (fun hlt => ?_) fun hlt => ?_
      · simp
        exact hK _ _ hr3 hpp (hI.end2 ho ch hlt)
      · have g3:=fun L=>so_ld hr3.row (i:=f+r) (by omega) (L:=L)
        have g4:=fun L=>so_ld hr3.row (i:=f+(2*r+1)) (by omega) (L:=L)
        have w1:=fun L=>so_w1 hr3 hlim (i:=f+r) (by omega) (L:=L) (gO l' (f+(2*r+1)))
        have w2:=fun L=>so_w2 hr3 hlim (i:=f+r) (j:=f+(2*r+1)) (by omega) (L:=L)
        have hr4:=hr3.swap (i:=f+r) (j:=f+(2*r+1)) (by omega) (by omega)
        have hps:=hpp.trans (swp_perm (l:=l') (i:=f+r) (j:=f+(2*r+1)) (a:=f) (b:=f+hi) ⟨by omega,by omega⟩ ⟨by omega,by omega⟩ (by omega))
        have hI2:=hI.step ho ch (by omega) hlt
        simp (disch:=omega) [f0,f2,f3,f8,wrap_i64,e1,e2,e3,e4,g3,g4,w1,w2,so_addr,-viaddrS_in,-vstore,-vload_ptrO]
        exact ⟨hi+1-(2*r+1),by omega,_,2*r+1,by omega,hr4,hps,hI2,by omega,rfl⟩
  · have ch0:=ChR.one ho (hi:=hi) (l:=l') (f:=f) h1 (fun h=>h2 h.1)
    have hgd:decide (2*(r:Int)+1+1<(hi:Int))=false:=decide_eq_false (by omega)
    simp (disch:=omega) [f0,f2,f3,f8,hgd,wrap_i64,-viaddrS_in]
    have ch:ChR cfI f hi r (2*r+1) l':=ch0
    have hcr:=ch.rng
    have g3:=fun L=>so_ld hr.row (i:=f+r) (by omega) (L:=L)
    have g4:=fun L=>so_ld hr.row (i:=f+(2*r+1)) (by omega) (L:=L)
    simp (disch:=omega) [f0,f2,f3,f8,wrap_i64,e1,e2,e3,e4,g3,g4,so_addr,-viaddrS_in,-vload_ptrO]
    refine so_less hr (i:=f+r) (j:=f+(2*r+1)) (by omega) (by omega) fun H3 x3 hr3 => ?_
    simp
    refine cond_ndec (fun hlt => ?_) fun hlt => ?_
    · simp
      exact hK _ _ hr3 hpp (hI.end2 ho ch hlt)
    · have g3:=fun L=>so_ld hr3.row (i:=f+r) (by omega) (L:=L)
      have g4:=fun L=>so_ld hr3.row (i:=f+(2*r+1)) (by omega) (L:=L)
      have w1:=fun L=>so_w1 hr3 hlim (i:=f+r) (by omega) (L:=L) (gO l' (f+(2*r+1)))
      have w2:=fun L=>so_w2 hr3 hlim (i:=f+r) (j:=f+(2*r+1)) (by omega) (L:=L)
      have hr4:=hr3.swap (i:=f+r) (j:=f+(2*r+1)) (by omega) (by omega)
      have hps:=hpp.trans (swp_perm (l:=l') (i:=f+r) (j:=f+(2*r+1)) (a:=f) (b:=f+hi) ⟨by omega,by omega⟩ ⟨by omega,by omega⟩ (by omega))
      have hI2:=hI.step ho ch (by omega) hlt
      simp (disch:=omega) [f0,f2,f3,f8,wrap_i64,e1,e2,e3,e4,g3,g4,w1,w2,so_addr,-viaddrS_in,-vstore,-vload_ptrO]
      exact ⟨hi+1-(2*r+1),by omega,_,2*r+1,by omega,hr4,hps,hI2,by omega,rfl⟩
theorem so_heap (hs:SoS b H0 l0 l H)(hlim:lim≤b)(ho:Ordr cfI){a e:Nat}(hae:a<e∧e≤l0.length)(hl:l0.length≤100000)
    (hK:∀H' l',SoS b H0 l0 l' H'→PermR a e l l'→SortR cfI a e l'→K (.tup []) H'):VCall tbl lim 101 [.sl b 0 l0.length 1,.int .i64 a,.int .i64 e] H K:=by
  refine VCall_fn tbl_at101 rfl ?_
  have hn:=hs.n
  obtain ⟨d,rfl⟩:∃d,e=a+d:=⟨e-a,by omega⟩
  have ed:((a+d:Nat):Int)-(a:Int)=(d:Int):=by omega
  have e0:(a:Int)+(d:Int)-(a:Int)=(d:Int):=by omega
  have eq2:((d:Int)-1).tdiv 2=(((d-1) / 2:Nat):Int):=by
    have:(d:Int)-1=((d-1:Nat):Int):=by omega
    rw [this];exact tdiv_nat _ 2
  simp (disch:=omega) [vf101,wrap_i64,ed,e0,eq2]
  refine wLoop_post 0 (fun fr L H'=>∃l',(fr 0=.sl b 0 l0.length 1∧fr 6=.int .i64 a∧fr 7=.int .i64 0∧fr 8=.int .i64 d)∧L=[]∧SoS b H0 l0 l' H'∧PermR a (a+d) l l'∧HpR cfI a 0 d l') ?_ ?_
  · refine wLoop_m (n:=(d-1) / 2+1) (fun m fr L H'=>∃l',(fr 0=.sl b 0 l0.length 1∧fr 6=.int .i64 a∧fr 7=.int .i64 0∧fr 8=.int .i64 d∧fr 9=.int .i64 ((m:Nat)-1:Int))∧L=[]∧SoS b H0 l0 l' H'∧PermR a (a+d) l l'∧HpR cfI a m d l'∧m≤(d-1) / 2+1) ⟨l,by simp,rfl,hs,PermR.refl,HpR.none,Nat.le_refl _⟩ ?_
    rintro m fr L H' ⟨l',⟨f0,f6,f7,f8,f9⟩,rfl,hr,hp,hH,hm⟩
    have hlen:=hp.len
    simp [f0,f6,f7,f8,f9]
    refine cond_dec (fun ht => ?_) fun ht => ?_
    · obtain ⟨k,rfl⟩:∃k,m=k+1:=⟨m-1,by omega⟩
      have e1:((k+1:Nat):Int)-1=(k:Int):=by omega
      have e2:(k:Int)+1-1=(k:Int):=by omega
      simp [f0,f6,f7,f8,f9,e1,e2]
      refine so_sift hr hlim   ho (f:=a) (lo:=k) (hi:=d) (by omega) hl hH fun H2 l2 hr2 hp2 hH2 => ?_
      simp (disch:=omega) [f0,f6,f7,f8,f9,e1,e2,wrap_i64]
      exact ⟨k,by omega,by omega,l2,hr2,hp.trans hp2,hH2,by omega⟩
    · have:m=0:=by omega
      subst this
      simp [f0,f6,f7,f8]
      exact ⟨l',hr,hp,hH⟩
  rintro fr L H' ⟨l',⟨f0,f6,f7,f8⟩,rfl,hr,hp,hH⟩
  simp (disch:=omega) [f0,f6,f7,f8,wrap_i64]
  refine wLoop_m (n:=d) (fun m fr L H'=>∃l',(fr 0=.sl b 0 l0.length 1∧fr 6=.int .i64 a∧fr 7=.int .i64 0∧fr 8=.int .i64 d∧fr 10=.int .i64 ((m:Nat)-1:Int))∧L=[]∧SoS b H0 l0 l' H'∧PermR a (a+d) l l'∧HpR cfI a 0 m l'∧OutR cfI a (a+d) a (a+m) l'∧m≤d) ⟨l',by simp [f0,f6,f7,f8],rfl,hr,hp,hH,OutR.start (by omega),Nat.le_refl _⟩ ?_
  clear f0 f6 f7 f8 hr hp hH l'
  rintro m fr L H' ⟨l',⟨f0,f6,f7,f8,f10⟩,rfl,hr,hp,hH,hO,hm⟩
  have hlen:=hp.len
  simp [f0,f6,f7,f8,f10]
  refine cond_dec (fun ht => ?_) fun ht => ?_
  · obtain ⟨k,rfl⟩:∃k,m=k+1:=⟨m-1,by omega⟩
    have e1:((k+1:Nat):Int)-1=(k:Int):=by omega
    have e2:(k:Int)+1-1=(k:Int):=by omega
    have e3:((a:Int)+(k:Int)).toNat=a+k:=by omega
    have g1:=fun L=>so_ld hr.row (i:=a) (by omega) (L:=L)
    have g2:=fun L=>so_ld hr.row (i:=a+k) (by omega) (L:=L)
    have w1:=fun L=>so_w1 hr hlim (i:=a) (by omega) (L:=L) (gO l' (a+k))
    have w2:=fun L=>so_w2 hr hlim (i:=a) (j:=a+k) (by omega) (L:=L)
    have hr4:=hr.swap (i:=a) (j:=a+k) (by omega) (by omega)
    have hps:=hp.trans (swp_perm (l:=l') (i:=a) (j:=a+k) (a:=a) (b:=a+d) ⟨by omega,by omega⟩ ⟨by omega,by omega⟩ (by omega))
    obtain ⟨hH1,hO1⟩:=hH.pop ho hO (by omega)
    simp (disch:=omega) [f0,f6,f7,f8,f10,e1,e2,e3,wrap_i64,g1,g2,w1,w2,so_addr,-viaddrS_in,-vstore,-vload_ptrO]
    refine so_sift hr4 hlim   ho (f:=a) (lo:=0) (hi:=k) (by omega) hl hH1 fun H2 l2 hr2 hp2 hH2 => ?_
    simp (disch:=omega) [f0,f6,f7,f8,f10,e1,e2,wrap_i64]
    exact ⟨k,by omega,by omega,l2,hr2,hps.trans (hp2.wide (Nat.le_refl _) (by omega)),hH2,hO1.perm hp2 (by rw [swp_len];omega),by omega⟩
  · have:m=0:=by omega
    subst this
    simp
    exact hK _ _ hr hp (hO.sort fun p q h1 h2 h3=>by omega)
theorem so_part (hs:SoS b H0 l0 l H) (hlim:lim≤b) (ho:Ordr cfI) {a e v:Nat} (hae:a≤v∧v<e∧e≤l0.length) (hl:l0.length≤100000)
    (hK:∀H' l' m ok,SoS b H0 l0 l' H'→PermR a e l l'→PartR cfI a e m l'→K (.tup [.int .i64 (m:Nat),.bool ok]) H'):VCall tbl lim 108 [.sl b 0 l0.length 1,.int .i64 a,.int .i64 e,.int .i64 v] H K:=by
  refine VCall_fn tbl_at108 rfl ?_
  have hn:=hs.n
  have g1:=fun L=>so_ld hs.row (i:=a) (by omega) (L:=L)
  have g2:=fun L=>so_ld hs.row (i:=v) (by omega) (L:=L)
  have w1:=fun L=>so_w1 hs hlim (i:=a) (by omega) (L:=L) (gO l v)
  have w2:=fun L=>so_w2 hs hlim (i:=a) (j:=v) (by omega) (L:=L)
  have hs1:=hs.swap (i:=a) (j:=v) (by omega) (by omega)
  have hp1:PermR a e l (swp l a v):=swp_perm ⟨by omega,by omega⟩ ⟨by omega,by omega⟩ (by omega)
  have e0:(e:Int)-1=((e-1:Nat):Int):=by omega
  simp (disch:=omega) [vf108,wrap_i64,g1,g2,w1,w2,so_addr,e0,-viaddrS_in,-vstore,-vload_ptrO]
  refine wLoop_post 0 (fun fr L H'=>∃l' i j,(fr 0=.sl b 0 l0.length 1∧fr 1=.int .i64 a∧fr 10=.int .i64 (i:Nat)∧fr 11=.int .i64 (j:Nat))∧L=[]∧SoS b H0 l0 l' H'∧PermR a e l l'∧PtI cfI a e i j l'∧j+1-i≤(e-a)∧(i≤j→¬cfI (gO l' i) (gO l' a)<0)) ?_ ?_
  · refine wLoop_m (n:=(e-a)) (fun m fr L H'=>∃l' i j,(fr 0=.sl b 0 l0.length 1∧fr 1=.int .i64 a∧fr 10=.int .i64 (i:Nat)∧fr 11=.int .i64 (j:Nat))∧L=[]∧SoS b H0 l0 l' H'∧PermR a e l l'∧PtI cfI a e i j l'∧j+1-i≤m∧m≤(e-a)) ⟨swp l a v,a+1,e-1,by simp,rfl,hs1,hp1,PtI.start (by omega),by omega,Nat.le_refl _⟩ ?_
    rintro m fr L H' ⟨l',i,j,⟨f0,f1,f10,f11⟩,rfl,hr,hp,hI,hm,hm2⟩
    have hrg:=hI.rng
    have hlen:=hp.len
    by_cases hij:i≤j
    · have hgt:((i:Int)≤(j:Int))=True:=eq_true (by omega)
      have g1:=fun L=>so_ld hr.row (i:=i) (by omega) (L:=L)
      have g2:=fun L=>so_ld hr.row (i:=a) (by omega) (L:=L)
      simp (disch:=omega) [f0,f1,f10,f11,hgt,wrap_i64,g1,g2,so_addr,-viaddrS_in,-vload_ptrO]
      refine so_less hr (i:=i) (j:=a) (by omega) (by omega) fun H2 x2 hr2 => ?_
      simp
      refine cond_dec (fun hlt => ?_) fun hlt => ?_
      · simp (disch:=omega) [f0,f1,f10,f11,wrap_i64]
        exact ⟨m-1,by omega,l',i+1,j,by omega,hr2,hp,hI.up hij hlt,by omega,by omega⟩
      · simp [f0,f1,f10,f11]
        exact ⟨l',i,j,by omega,hr2,hp,hI,by omega,fun _=>by omega⟩
    · have hgt:((i:Int)≤(j:Int))=False:=eq_false (by omega)
      simp (disch:=omega) [f0,f1,f10,f11,hgt]
      exact ⟨l',i,j,by omega,hr,hp,hI,by omega,fun h=>absurd h hij⟩
  rintro fr L H' ⟨l',i,j,⟨f0,f1,f10,f11⟩,rfl,hr,hp,hI,hm,hup⟩
  simp [f0,f1,f10,f11]
  refine wLoop_post 2 (fun fr L H'=>∃l' i j,(fr 0=.sl b 0 l0.length 1∧fr 1=.int .i64 a∧fr 10=.int .i64 (i:Nat)∧fr 11=.int .i64 (j:Nat))∧L=[]∧SoS b H0 l0 l' H'∧PermR a e l l'∧PtI cfI a e i j l'∧j+1-i≤(e-a)∧(i≤j→¬cfI (gO l' i) (gO l' a)<0)∧(i≤j→cfI (gO l' j) (gO l' a)<0)) ?_ ?_
  · refine wLoop_m (n:=(e-a)) (fun m fr L H'=>∃l' i j,(fr 0=.sl b 0 l0.length 1∧fr 1=.int .i64 a∧fr 10=.int .i64 (i:Nat)∧fr 11=.int .i64 (j:Nat))∧L=[]∧SoS b H0 l0 l' H'∧PermR a e l l'∧PtI cfI a e i j l'∧(i≤j→¬cfI (gO l' i) (gO l' a)<0)∧j+1-i≤m∧m≤(e-a)) ⟨l',i,j,by simp [f0,f1,f10,f11],rfl,hr,hp,hI,hup,hm,Nat.le_refl _⟩ ?_
    clear f0 f1 f10 f11 hr hp hI hup hm l' i j
    rintro m fr L H' ⟨l',i,j,⟨f0,f1,f10,f11⟩,rfl,hr,hp,hI,hup,hm,hm2⟩
    have hrg:=hI.rng
    have hlen:=hp.len
    by_cases hij:i≤j
    · have hgt:((i:Int)≤(j:Int))=True:=eq_true (by omega)
      have g1:=fun L=>so_ld hr.row (i:=j) (by omega) (L:=L)
      have g2:=fun L=>so_ld hr.row (i:=a) (by omega) (L:=L)
      simp (disch:=omega) [f0,f1,f10,f11,hgt,wrap_i64,g1,g2,so_addr,-viaddrS_in,-vload_ptrO]
      refine so_less hr (i:=j) (j:=a) (by omega) (by omega) fun H2 x2 hr2 => ?_
      simp
      refine cond_ndec (fun hlt => ?_) fun hlt => ?_
      · have e1:(j:Int)-1=((j-1:Nat):Int):=by omega
        simp (disch:=omega) [f0,f1,f10,f11,wrap_i64,e1]
        exact ⟨m-1,by omega,l',i,j-1,by omega,hr2,hp,hI.down hij hlt,fun h=>by have:=hup (by omega);omega,by omega,by omega⟩
      · simp [f0,f1,f10,f11]
        exact ⟨l',i,j,by omega,hr2,hp,hI,by omega,fun h=>by have:=hup h;omega,fun _=>by omega⟩
    · have hgt:((i:Int)≤(j:Int))=False:=eq_false (by omega)
      simp (disch:=omega) [f0,f1,f10,f11,hgt]
      exact ⟨l',i,j,by omega,hr,hp,hI,by omega,fun h=>absurd h hij,fun h=>absurd h hij⟩
  clear f0 f1 f10 f11 hr hp hI hup hm l' i j
  rintro fr L H' ⟨l',i,j,⟨f0,f1,f10,f11⟩,rfl,hr,hp,hI,hm,hup,hdn⟩
  have hrg:=hI.rng
  have hlen:=hp.len
  by_cases hij:i≤j
  · have hgt:((j:Int)<(i:Int))=False:=eq_false (by omega)
    have hi0:=hup hij
    have hj0:=hdn hij
    have g1:=fun L=>so_ld hr.row (i:=i) (by omega) (L:=L)
    have g2:=fun L=>so_ld hr.row (i:=j) (by omega) (L:=L)
    have w1:=fun L=>so_w1 hr hlim (i:=i) (by omega) (L:=L) (gO l' j)
    have w2:=fun L=>so_w2 hr hlim (i:=i) (j:=j) (by omega) (L:=L)
    have hr4:=hr.swap (i:=i) (j:=j) (by omega) (by omega)
    have hps:=hp.trans (swp_perm (l:=l') (i:=i) (j:=j) (a:=a) (b:=e) ⟨by omega,by omega⟩ ⟨by omega,by omega⟩ (by omega))
    have hI2:=hI.swap ho hij (by omega) hi0 hj0
    have hrg2:=hI2.rng
    have e1:(j:Int)-1=((j-1:Nat):Int):=by omega
    simp (disch:=omega) [f0,f1,f10,f11,hgt,e1,wrap_i64,g1,g2,w1,w2,so_addr,-viaddrS_in,-vstore,-vload_ptrO]
    refine wLoop_m (n:=(e-a)) (fun m fr L H'=>∃l' i j,(fr 0=.sl b 0 l0.length 1∧fr 1=.int .i64 a∧fr 10=.int .i64 (i:Nat)∧fr 11=.int .i64 (j:Nat))∧L=[]∧SoS b H0 l0 l' H'∧PermR a e l l'∧PtI cfI a e i j l'∧j+1-i≤m∧m≤(e-a)) ⟨swp l' i j,i+1,j-1,by simp [f0,f1,f10,f11],rfl,hr4,hps,hI2,by omega,Nat.le_refl _⟩ ?_
    clear f0 f1 f10 f11 hr hp hI hup hdn hm hrg hlen hij hgt hi0 hj0 g1 g2 w1 w2 hr4 hps hI2 hrg2 e1 l' i j
    rintro n fr L H' ⟨l',i,j,⟨f0,f1,f10,f11⟩,rfl,hr,hp,hI,hm,hn2⟩
    simp [f0,f1,f10,f11]
    refine wLoop_post 6 (fun fr L H'=>∃l' i j,(fr 0=.sl b 0 l0.length 1∧fr 1=.int .i64 a∧fr 10=.int .i64 (i:Nat)∧fr 11=.int .i64 (j:Nat))∧L=[]∧SoS b H0 l0 l' H'∧PermR a e l l'∧PtI cfI a e i j l'∧j+1-i≤n∧(i≤j→¬cfI (gO l' i) (gO l' a)<0)) ?_ ?_
    · refine wLoop_m (n:=n) (fun m fr L H'=>∃l' i j,(fr 0=.sl b 0 l0.length 1∧fr 1=.int .i64 a∧fr 10=.int .i64 (i:Nat)∧fr 11=.int .i64 (j:Nat))∧L=[]∧SoS b H0 l0 l' H'∧PermR a e l l'∧PtI cfI a e i j l'∧j+1-i≤m∧m≤n) ⟨l',i,j,by simp [f0,f1,f10,f11],rfl,hr,hp,hI,hm,Nat.le_refl _⟩ ?_
      clear f0 f1 f10 f11 hr hp hI hm l' i j
      rintro m fr L H' ⟨l',i,j,⟨f0,f1,f10,f11⟩,rfl,hr,hp,hI,hm,hm2⟩
      have hrg:=hI.rng
      have hlen:=hp.len
      by_cases hij:i≤j
      · have hgt:((i:Int)≤(j:Int))=True:=eq_true (by omega)
        have g1:=fun L=>so_ld hr.row (i:=i) (by omega) (L:=L)
        have g2:=fun L=>so_ld hr.row (i:=a) (by omega) (L:=L)
        simp (disch:=omega) [f0,f1,f10,f11,hgt,wrap_i64,g1,g2,so_addr,-viaddrS_in,-vload_ptrO]
        refine so_less hr (i:=i) (j:=a) (by omega) (by omega) fun H2 x2 hr2 => ?_
        simp
        refine cond_dec (fun hlt => ?_) fun hlt => ?_
        · simp (disch:=omega) [f0,f1,f10,f11,wrap_i64]
          exact ⟨m-1,by omega,l',i+1,j,by omega,hr2,hp,hI.up hij hlt,by omega,by omega⟩
        · simp [f0,f1,f10,f11]
          exact ⟨l',i,j,by omega,hr2,hp,hI,by omega,fun _=>by omega⟩
      · have hgt:((i:Int)≤(j:Int))=False:=eq_false (by omega)
        simp (disch:=omega) [f0,f1,f10,f11,hgt]
        exact ⟨l',i,j,by omega,hr,hp,hI,by omega,fun h=>absurd h hij⟩
    clear f0 f1 f10 f11 hr hp hI hm l' i j
    rintro fr L H' ⟨l',i,j,⟨f0,f1,f10,f11⟩,rfl,hr,hp,hI,hm,hup⟩
    simp [f0,f1,f10,f11]
    refine wLoop_post 8 (fun fr L H'=>∃l' i j,(fr 0=.sl b 0 l0.length 1∧fr 1=.int .i64 a∧fr 10=.int .i64 (i:Nat)∧fr 11=.int .i64 (j:Nat))∧L=[]∧SoS b H0 l0 l' H'∧PermR a e l l'∧PtI cfI a e i j l'∧j+1-i≤n∧(i≤j→¬cfI (gO l' i) (gO l' a)<0)∧(i≤j→cfI (gO l' j) (gO l' a)<0)) ?_ ?_
    · refine wLoop_m (n:=n) (fun m fr L H'=>∃l' i j,(fr 0=.sl b 0 l0.length 1∧fr 1=.int .i64 a∧fr 10=.int .i64 (i:Nat)∧fr 11=.int .i64 (j:Nat))∧L=[]∧SoS b H0 l0 l' H'∧PermR a e l l'∧PtI cfI a e i j l'∧(i≤j→¬cfI (gO l' i) (gO l' a)<0)∧j+1-i≤m∧m≤n) ⟨l',i,j,by simp [f0,f1,f10,f11],rfl,hr,hp,hI,hup,hm,Nat.le_refl _⟩ ?_
      clear f0 f1 f10 f11 hr hp hI hup hm l' i j
      rintro m fr L H' ⟨l',i,j,⟨f0,f1,f10,f11⟩,rfl,hr,hp,hI,hup,hm,hm2⟩
      have hrg:=hI.rng
      have hlen:=hp.len
      by_cases hij:i≤j
      · have hgt:((i:Int)≤(j:Int))=True:=eq_true (by omega)
        have g1:=fun L=>so_ld hr.row (i:=j) (by omega) (L:=L)
        have g2:=fun L=>so_ld hr.row (i:=a) (by omega) (L:=L)
        simp (disch:=omega) [f0,f1,f10,f11,hgt,wrap_i64,g1,g2,so_addr,-viaddrS_in,-vload_ptrO]
        refine so_less hr (i:=j) (j:=a) (by omega) (by omega) fun H2 x2 hr2 => ?_
        simp
        refine cond_ndec (fun hlt => ?_) fun hlt => ?_
        · have e1:(j:Int)-1=((j-1:Nat):Int):=by omega
          simp (disch:=omega) [f0,f1,f10,f11,wrap_i64,e1]
          exact ⟨m-1,by omega,l',i,j-1,by omega,hr2,hp,hI.down hij hlt,fun h=>by have:=hup (by omega);omega,by omega,by omega⟩
        · simp [f0,f1,f10,f11]
          exact ⟨l',i,j,by omega,hr2,hp,hI,by omega,fun h=>by have:=hup h;omega,fun _=>by omega⟩
      · have hgt:((i:Int)≤(j:Int))=False:=eq_false (by omega)
        simp (disch:=omega) [f0,f1,f10,f11,hgt]
        exact ⟨l',i,j,by omega,hr,hp,hI,by omega,fun h=>absurd h hij,fun h=>absurd h hij⟩
    clear f0 f1 f10 f11 hr hp hI hup hm l' i j
    rintro fr L H' ⟨l',i,j,⟨f0,f1,f10,f11⟩,rfl,hr,hp,hI,hm,hup,hdn⟩
    have hrg:=hI.rng
    have hlen:=hp.len
    by_cases hij:i≤j
    · have hgt:((j:Int)<(i:Int))=False:=eq_false (by omega)
      have hi0:=hup hij
      have hj0:=hdn hij
      have g1:=fun L=>so_ld hr.row (i:=i) (by omega) (L:=L)
      have g2:=fun L=>so_ld hr.row (i:=j) (by omega) (L:=L)
      have w1:=fun L=>so_w1 hr hlim (i:=i) (by omega) (L:=L) (gO l' j)
      have w2:=fun L=>so_w2 hr hlim (i:=i) (j:=j) (by omega) (L:=L)
      have hr4:=hr.swap (i:=i) (j:=j) (by omega) (by omega)
      have hps:=hp.trans (swp_perm (l:=l') (i:=i) (j:=j) (a:=a) (b:=e) ⟨by omega,by omega⟩ ⟨by omega,by omega⟩ (by omega))
      have hI2:=hI.swap ho hij (by omega) hi0 hj0
      have hrg2:=hI2.rng
      have e1:(j:Int)-1=((j-1:Nat):Int):=by omega
      simp (disch:=omega) [f0,f1,f10,f11,hgt,e1,wrap_i64,g1,g2,w1,w2,so_addr,-viaddrS_in,-vstore,-vload_ptrO]
      exact ⟨n-1,by omega,_,i+1,j-1,by omega,hr4,hps,hI2,by omega,by omega⟩
    · have hgt:((j:Int)<(i:Int))=True:=eq_true (by omega)
      have hij2:¬i≤j:=hij
      have g1:=fun L=>so_ld hr.row (i:=j) (by omega) (L:=L)
      have g2:=fun L=>so_ld hr.row (i:=a) (by omega) (L:=L)
      have w1:=fun L=>so_w1 hr hlim (i:=j) (by omega) (L:=L) (gO l' a)
      have w2:=fun L=>so_w2 hr hlim (i:=j) (j:=a) (by omega) (L:=L)
      have hr4:=hr.swap (i:=j) (j:=a) (by omega) (by omega)
      have hps:=hp.trans (swp_perm (l:=l') (i:=j) (j:=a) (a:=a) (b:=e) ⟨by omega,by omega⟩ ⟨by omega,by omega⟩ (by omega))
      simp (disch:=omega) [f0,f1,f10,f11,hgt,wrap_i64,g1,g2,w1,w2,so_addr,-viaddrS_in,-vstore,-vload_ptrO]
      exact hK _ _ j false hr4 hps (hI.done ho hij2 (by omega))
  · have hgt:((j:Int)<(i:Int))=True:=eq_true (by omega)
    have hij2:¬i≤j:=hij
    have g1:=fun L=>so_ld hr.row (i:=j) (by omega) (L:=L)
    have g2:=fun L=>so_ld hr.row (i:=a) (by omega) (L:=L)
    have w1:=fun L=>so_w1 hr hlim (i:=j) (by omega) (L:=L) (gO l' a)
    have w2:=fun L=>so_w2 hr hlim (i:=j) (j:=a) (by omega) (L:=L)
    have hr4:=hr.swap (i:=j) (j:=a) (by omega) (by omega)
    have hps:=hp.trans (swp_perm (l:=l') (i:=j) (j:=a) (a:=a) (b:=e) ⟨by omega,by omega⟩ ⟨by omega,by omega⟩ (by omega))
    simp (disch:=omega) [f0,f1,f10,f11,hgt,wrap_i64,g1,g2,w1,w2,so_addr,-viaddrS_in,-vstore,-vload_ptrO]
    exact hK _ _ j true hr4 hps (hI.done ho hij2 (by omega))
end
end Go.Proofs.Ytclghkegfpcdpaa.Vm
namespace Go.Proofs.Ytclghkegfpcdpaa.Vm
open Go
set_option maxRecDepth 100000
set_option maxHeartbeats 1000000
set_option linter.unusedSimpArgs false
set_option linter.unusedVariables false
attribute [-simp] List.getD_eq_getElem?_getD
section
variable {T:Tbl}{lim:Nat}
theorem wVal_mon {o:VOper}{s:St}{K K':V→Lo→Hp→Prop}(h:wVal T lim o s K)(hk:∀v L H,K v L H→K' v L H):wVal T lim o s K':=by
  unfold wVal at h ⊢
  split
  · rename_i hw
    rw [if_pos hw] at h
    split
    · rename_i h1;rw [h1] at h;exact hk _ _ _ h
    · rename_i h1;rw [h1] at h;exact h.mono fun v H=>hk _ _ _
    · rename_i h1;rw [h1] at h;exact h
  · rename_i hw
    rw [if_neg hw] at h;exact hk _ _ _ h
theorem wOps_mon:∀{l:List VOper} {s:St} {K K':St→Prop},wOps T lim l K s→(∀s,K s→K' s)→wOps T lim l K' s
  | [],s,K,K',h,hk=>hk _ h
  | o :: l,s,K,K',h,hk=>wVal_mon h fun _ _ _ h2=>wOps_mon h2 hk
theorem wHead_mon:∀{l:List VOper} {k:Nat} {acc:List (Nat×Nat)} {s:St} {K K':St→Prop},wHead T k l acc K s→(∀s,K s→K' s)→wHead T k l acc K' s
  | [],k,acc,s,K,K',h,hk=>hk _ h
  | o :: l,k,acc,s,K,K',h,hk=>by
    simp only [wHead] at h ⊢
    split
    · rename_i h1;rw [h1] at h;exact h
    · rename_i h1;rw [h1] at h;exact wVal_mon h fun _ _ _ h2=>wHead_mon h2 hk
theorem wHeadS_mon:∀{l:List VOper} {k:Nat} {acc:List (Nat×Nat)} {hp:HpAcc} {s:St} {K K':St→Prop},wHeadS T lim k l acc hp K s→(∀s,K s→K' s)→wHeadS T lim k l acc hp K' s
  | [],k,acc,hp,s,K,K',h,hk=>hk _ h
  | o :: l,k,acc,hp,s,K,K',h,hk=>by
    simp only [wHeadS] at h ⊢
    split
    · rename_i h1;rw [h1] at h;exact h
    · rename_i h1;rw [h1] at h;exact wVal_mon h fun _ _ _ h2=>wHeadS_mon h2 hk
theorem wCode_mon:∀{c:VCode} {Q Q':VExit→St→Prop} {s:St},wCode T lim c Q s→(∀e s,Q e s→Q' e s)→wCode T lim c Q' s
  | .skip,Q,Q',s,h,hq=>hq _ _ h
  | .reg ops,Q,Q',s,h,hq=>wOps_mon h fun s=>hq _ s
  | .draw hd t,Q,Q',s,h,hq=>wHead_mon h fun s h2=>wOps_mon h2 fun s=>hq _ s
  | .drawS hd t,Q,Q',s,h,hq=>wHeadS_mon h fun s h2=>wOps_mon h2 fun s=>hq _ s
  | .seq a b,Q,Q',s,h,hq=>wCode_mon (c:=a) h fun e s h2=>by
    cases e with
    | normal=>exact wCode_mon (c:=b) h2 hq
    | exit id=>exact hq _ _ h2
    | ret=>exact hq _ _ h2
  | .cond c a b,Q,Q',s,h,hq=>by
    simp only [wCode] at h ⊢
    split
    · rename_i h1;rw [h1] at h;exact wCode_mon (c:=a) h hq
    · rename_i h1;rw [h1] at h;exact wCode_mon (c:=b) h hq
    · rename_i h1 h2
      split at h
      · rename_i h3;exact absurd h3 h1
      · rename_i h3;exact absurd h3 h2
      · exact h
  | .block id body,Q,Q',s,h,hq=>wCode_mon (c:=body) h fun e s h2=>by
    cases e with
    | normal=>exact hq _ _ h2
    | exit id' =>
      simp only [blockQ] at h2 ⊢
      split
      · rename_i h3;rw [if_pos h3] at h2;exact hq _ _ h2
      · rename_i h3;rw [if_neg h3] at h2;exact hq _ _ h2
    | ret=>exact hq _ _ h2
  | .loop body,Q,Q',s,h,hq=>by
    obtain ⟨n,e,s',h1,h2⟩:=h
    exact ⟨n,e,s',h1,hq _ _ h2⟩
  | .scope body,Q,Q',s,h,hq=>wCode_mon (c:=body) h hq
  | .exit id,Q,Q',s,h,hq=>hq _ _ h
  | .ret,Q,Q',s,h,hq=>hq _ _ h
  | .stuck,Q,Q',s,h,hq=>h
  | .rangeF gg f ps nt,Q,Q',s,h,hq=>by
    simp only [wCode] at h ⊢
    split
    · rename_i h1
      rw [h1] at h
      exact ⟨h.1,h.2.mono fun _ H2 ⟨f2,ps2,fr2,h3,h4⟩=>⟨f2,ps2,fr2,h3,hq _ _ h4⟩⟩
    · rename_i h1
      split at h
      · rename_i h3;exact absurd h3 (h1 _ _ _)
      · exact h
theorem wCond_join {c:Bool}{X Y:VCode}{Q:VExit→St→Prop}{s:St}(P:Fr→Lo→Hp→Prop)(hX:c=true→wCode T lim X (seqQ (fun s'=>P s'.fr s'.L s'.H) Q) s)(hY:c=false→wCode T lim Y (seqQ (fun s'=>P s'.fr s'.L s'.H) Q) s)
    (hR:∀fr L H,P fr L H→Q .normal ⟨fr,L,H⟩):wCond T lim (.bool c) X Y Q s:=by
  have hm:∀e s,seqQ (fun s'=>P s'.fr s'.L s'.H) Q e s→Q e s:=fun e s h=>by
    cases e with
    | normal=>exact hR _ _ _ h
    | exit id=>exact h
    | ret=>exact h
  cases c with
  | true=>exact wCode_mon (hX rfl) hm
  | false=>exact wCode_mon (hY rfl) hm
theorem wSeq_join {A B:VCode}{Q:VExit→St→Prop}{s:St}(P:Fr→Lo→Hp→Prop)(hA:wCode T lim A (seqQ (fun s'=>P s'.fr s'.L s'.H) Q) s)(hR:∀fr L H,P fr L H→wCode T lim B Q ⟨fr,L,H⟩):wCode T lim (.seq A B) Q s :=
  wCode_mon (c:=A) hA fun e s h=>by
    cases e with
    | normal=>exact hR _ _ _ h
    | exit id=>exact h
    | ret=>exact h
end
section
variable {lim:Nat}{H H0:Hp}{K:V→Hp→Prop}{b:Nat}{l l0:List EO}
theorem so_partEq (hs:SoS b H0 l0 l H) (hlim:lim≤b) (ho:Ordr cfI) {a e v:Nat} (hae:a≤v∧v<e∧e≤l0.length) (hl:l0.length≤100000)
    (hmin:∀k,a≤k→k<e→leC cfI (l.getD v default) (l.getD k default))
    (hK:∀H' l' m,SoS b H0 l0 l' H'→PermR a e l l'→(a<m∧m≤e)→(∀p q,a≤p→p<m→p<q→q<e→leC cfI (l'.getD p default) (l'.getD q default))→K (.int .i64 (m:Nat)) H'):VCall tbl lim 107 [.sl b 0 l0.length 1,.int .i64 a,.int .i64 e,.int .i64 v] H K:=by
  refine VCall_fn tbl_at107 rfl ?_
  have hn:=hs.n
  have g1:=fun L=>so_ld hs.row (i:=a) (by omega) (L:=L)
  have g2:=fun L=>so_ld hs.row (i:=v) (by omega) (L:=L)
  have w1:=fun L=>so_w1 hs hlim (i:=a) (by omega) (L:=L) (gO l v)
  have w2:=fun L=>so_w2 hs hlim (i:=a) (j:=v) (by omega) (L:=L)
  have hs1:=hs.swap (i:=a) (j:=v) (by omega) (by omega)
  have hp1:PermR a e l (swp l a v):=swp_perm ⟨by omega,by omega⟩ ⟨by omega,by omega⟩ (by omega)
  have e0:(e:Int)-1=((e-1:Nat):Int):=by omega
  have hm1:=least_swp (cf:=cfI) (l:=l) (a:=a) (b:=e) (v:=v) (by omega) (by omega) hmin
  simp (disch:=omega) [vf107,wrap_i64,g1,g2,w1,w2,so_addr,e0,-viaddrS_in,-vstore,-vload_ptrO]
  refine wLoop_m (n:=(e-a)) (fun m fr L H'=>∃l' i j,(fr 0=.sl b 0 l0.length 1∧fr 1=.int .i64 a∧fr 9=.int .i64 (i:Nat)∧fr 10=.int .i64 (j:Nat))∧L=[]∧SoS b H0 l0 l' H'∧PermR a e l l'∧PeI cfI a e i j l'∧j+1-i≤m∧m≤(e-a)) ⟨swp l a v,a+1,e-1,by simp,rfl,hs1,hp1,PeI.start (by omega) hm1,by omega,Nat.le_refl _⟩ ?_
  rintro n fr L H' ⟨l',i,j,⟨f0,f1,f9,f10⟩,rfl,hr,hp,hI,hm,hn2⟩
  simp [f0,f1,f9,f10]
  refine wLoop_post 2 (fun fr L H'=>∃l' i j,(fr 0=.sl b 0 l0.length 1∧fr 1=.int .i64 a∧fr 9=.int .i64 (i:Nat)∧fr 10=.int .i64 (j:Nat))∧L=[]∧SoS b H0 l0 l' H'∧PermR a e l l'∧PeI cfI a e i j l'∧j+1-i≤n∧(i≤j→cfI (gO l' a) (gO l' i)<0)) ?_ ?_
  · refine wLoop_m (n:=n) (fun m fr L H'=>∃l' i j,(fr 0=.sl b 0 l0.length 1∧fr 1=.int .i64 a∧fr 9=.int .i64 (i:Nat)∧fr 10=.int .i64 (j:Nat))∧L=[]∧SoS b H0 l0 l' H'∧PermR a e l l'∧PeI cfI a e i j l'∧j+1-i≤m∧m≤n) ⟨l',i,j,by simp [f0,f1,f9,f10],rfl,hr,hp,hI,hm,Nat.le_refl _⟩ ?_
    clear f0 f1 f9 f10 hr hp hI hm l' i j
    rintro m fr L H' ⟨l',i,j,⟨f0,f1,f9,f10⟩,rfl,hr,hp,hI,hm,hm2⟩
    have hrg:=hI.rng
    have hlen:=hp.len
    by_cases hij:i≤j
    · have hgt:((i:Int)≤(j:Int))=True:=eq_true (by omega)
      have g1:=fun L=>so_ld hr.row (i:=a) (by omega) (L:=L)
      have g2:=fun L=>so_ld hr.row (i:=i) (by omega) (L:=L)
      simp (disch:=omega) [f0,f1,f9,f10,hgt,wrap_i64,g1,g2,so_addr,-viaddrS_in,-vload_ptrO]
      refine so_less hr (i:=a) (j:=i) (by omega) (by omega) fun H2 x2 hr2 => ?_
      simp
      refine cond_ndec (fun hlt => ?_) fun hlt => ?_
      · simp (disch:=omega) [f0,f1,f9,f10,wrap_i64]
        exact ⟨m-1,by omega,l',i+1,j,by omega,hr2,hp,hI.up hij hlt,by omega,by omega⟩
      · simp [f0,f1,f9,f10]
        exact ⟨l',i,j,by omega,hr2,hp,hI,by omega,fun _=>hlt⟩
    · have hgt:((i:Int)≤(j:Int))=False:=eq_false (by omega)
      simp (disch:=omega) [f0,f1,f9,f10,hgt]
      exact ⟨l',i,j,by omega,hr,hp,hI,by omega,fun h=>absurd h hij⟩
  clear f0 f1 f9 f10 hr hp hI hm l' i j
  rintro fr L H' ⟨l',i,j,⟨f0,f1,f9,f10⟩,rfl,hr,hp,hI,hm,hup⟩
  simp [f0,f1,f9,f10]
  refine wLoop_post 4 (fun fr L H'=>∃l' i j,(fr 0=.sl b 0 l0.length 1∧fr 1=.int .i64 a∧fr 9=.int .i64 (i:Nat)∧fr 10=.int .i64 (j:Nat))∧L=[]∧SoS b H0 l0 l' H'∧PermR a e l l'∧PeI cfI a e i j l'∧j+1-i≤n∧(i≤j→cfI (gO l' a) (gO l' i)<0)∧(i≤j→¬cfI (gO l' a) (gO l' j)<0)) ?_ ?_
  · refine wLoop_m (n:=n) (fun m fr L H'=>∃l' i j,(fr 0=.sl b 0 l0.length 1∧fr 1=.int .i64 a∧fr 9=.int .i64 (i:Nat)∧fr 10=.int .i64 (j:Nat))∧L=[]∧SoS b H0 l0 l' H'∧PermR a e l l'∧PeI cfI a e i j l'∧(i≤j→cfI (gO l' a) (gO l' i)<0)∧j+1-i≤m∧m≤n) ⟨l',i,j,by simp [f0,f1,f9,f10],rfl,hr,hp,hI,hup,hm,Nat.le_refl _⟩ ?_
    clear f0 f1 f9 f10 hr hp hI hup hm l' i j
    rintro m fr L H' ⟨l',i,j,⟨f0,f1,f9,f10⟩,rfl,hr,hp,hI,hup,hm,hm2⟩
    have hrg:=hI.rng
    have hlen:=hp.len
    by_cases hij:i≤j
    · have hgt:((i:Int)≤(j:Int))=True:=eq_true (by omega)
      have g1:=fun L=>so_ld hr.row (i:=a) (by omega) (L:=L)
      have g2:=fun L=>so_ld hr.row (i:=j) (by omega) (L:=L)
      simp (disch:=omega) [f0,f1,f9,f10,hgt,wrap_i64,g1,g2,so_addr,-viaddrS_in,-vload_ptrO]
      refine so_less hr (i:=a) (j:=j) (by omega) (by omega) fun H2 x2 hr2 => ?_
      simp
      refine cond_dec (fun hlt => ?_) fun hlt => ?_
      · have e1:(j:Int)-1=((j-1:Nat):Int):=by omega
        simp (disch:=omega) [f0,f1,f9,f10,e1,wrap_i64]
        exact ⟨m-1,by omega,l',i,j-1,by omega,hr2,hp,hI.down hij,fun h=>hup (by omega),by omega,by omega⟩
      · simp [f0,f1,f9,f10]
        exact ⟨l',i,j,by omega,hr2,hp,hI,by omega,hup,fun _=>by omega⟩
    · have hgt:((i:Int)≤(j:Int))=False:=eq_false (by omega)
      simp (disch:=omega) [f0,f1,f9,f10,hgt]
      exact ⟨l',i,j,by omega,hr,hp,hI,by omega,fun h=>absurd h hij,fun h=>absurd h hij⟩
  clear f0 f1 f9 f10 hr hp hI hup hm l' i j
  rintro fr L H' ⟨l',i,j,⟨f0,f1,f9,f10⟩,rfl,hr,hp,hI,hm,hup,hdn⟩
  have hrg:=hI.rng
  have hlen:=hp.len
  by_cases hij:i≤j
  · have hgt:((j:Int)<(i:Int))=False:=eq_false (by omega)
    have hi0:=hup hij
    have hj0:=hdn hij
    have g1:=fun L=>so_ld hr.row (i:=i) (by omega) (L:=L)
    have g2:=fun L=>so_ld hr.row (i:=j) (by omega) (L:=L)
    have w1:=fun L=>so_w1 hr hlim (i:=i) (by omega) (L:=L) (gO l' j)
    have w2:=fun L=>so_w2 hr hlim (i:=i) (j:=j) (by omega) (L:=L)
    have hr4:=hr.swap (i:=i) (j:=j) (by omega) (by omega)
    have hps:=hp.trans (swp_perm (l:=l') (i:=i) (j:=j) (a:=a) (b:=e) ⟨by omega,by omega⟩ ⟨by omega,by omega⟩ (by omega))
    have hI2:=hI.swap ho hij (by omega) hi0 hj0
    have hrg2:=hI2.rng
    have e1:(j:Int)-1=((j-1:Nat):Int):=by omega
    simp (disch:=omega) [f0,f1,f9,f10,hgt,e1,wrap_i64,g1,g2,w1,w2,so_addr,-viaddrS_in,-vstore,-vload_ptrO]
    exact ⟨n-1,by omega,_,i+1,j-1,by omega,hr4,hps,hI2,by omega,by omega⟩
  · have hgt:((j:Int)<(i:Int))=True:=eq_true (by omega)
    simp [f0,f1,f9,f10,hgt]
    exact hK _ _ i hr hp (by omega) (hI.done ho)
end
end Go.Proofs.Ytclghkegfpcdpaa.Vm
namespace Go.Proofs.Ytclghkegfpcdpaa.Vm
open Go
set_option maxRecDepth 100000
set_option maxHeartbeats 1000000
set_option linter.unusedSimpArgs false
set_option linter.unusedVariables false
attribute [-simp] List.getD_eq_getElem?_getD
section
variable {lim:Nat}{H H0:Hp}{K:V→Hp→Prop}{b:Nat}{l l0:List EO}
theorem so_pis (hs:SoS b H0 l0 l H) (hlim:lim≤b) (ho:Ordr cfI) {a e:Nat} (hae:a<e∧e≤l0.length) (hl:l0.length≤100000) (hg:GdR cfI a e l)
    (hK:∀H' l' ok,SoS b H0 l0 l' H'→PermR a e l l'→(ok=true→SortR cfI a e l')→K (.bool ok) H'):VCall tbl lim 105 [.sl b 0 l0.length 1,.int .i64 a,.int .i64 e] H K:=by
  refine VCall_fn tbl_at105 rfl ?_
  have hn:=hs.n
  simp (disch:=omega) [vf105,wrap_i64]
  refine wLoop_up 5 (fun c fr L H'=>∃l' i,(fr 0=.sl b 0 l0.length 1∧fr 1=.int .i64 a∧fr 2=.int .i64 e∧fr 7=.int .i64 (i:Nat)∧fr 8=.int .i64 (c:Nat))∧L=[]∧SoS b H0 l0 l' H'∧PermR a e l l'∧(a+1≤i∧i≤e)∧SortR cfI a i l') ⟨l,a+1,by simp,rfl,hs,PermR.refl,by omega,SortR.one (by omega)⟩ ?_
  rintro c hc5 fr L H' ⟨l',i,⟨f0,f1,f2,f7,f8⟩,rfl,hr,hp,hi,hso⟩
  simp [f0,f1,f2,f7,f8]
  refine cond_dec (fun ht => ?_) fun ht => ?_
  case refine_2 =>
    simp
    exact hK _ _ false hr hp (fun h=>by cases h)
  simp [f0,f1,f2,f7,f8]
  refine wLoop_post 2 (fun fr L H'=>∃l' i,(fr 0=.sl b 0 l0.length 1∧fr 1=.int .i64 a∧fr 2=.int .i64 e∧fr 7=.int .i64 (i:Nat)∧fr 8=.int .i64 (c:Nat))∧L=[]∧SoS b H0 l0 l' H'∧PermR a e l l'∧(a+1≤i∧i≤e)∧SortR cfI a i l'∧(i<e→cfI (gO l' i) (gO l' (i-1))<0)) ?_ ?_
  · refine wLoop_m (n:=e-i) (fun m fr L H'=>∃l' i,(fr 0=.sl b 0 l0.length 1∧fr 1=.int .i64 a∧fr 2=.int .i64 e∧fr 7=.int .i64 (i:Nat)∧fr 8=.int .i64 (c:Nat))∧L=[]∧SoS b H0 l0 l' H'∧PermR a e l l'∧(a+1≤i∧i≤e)∧SortR cfI a i l'∧m=e-i) ⟨l',i,by simp [f0,f1,f2,f7,f8],rfl,hr,hp,hi,hso,rfl⟩ ?_
    clear f0 f1 f2 f7 f8 hr hp hi hso l' i
    rintro m fr L H' ⟨l',i,⟨f0,f1,f2,f7,f8⟩,rfl,hr,hp,hi,hso,hm⟩
    have hlen:=hp.len
    by_cases hie:i<e
    · have hgt:((i:Int)<(e:Int))=True:=eq_true (by omega)
      have e1:((i:Int)-1).toNat=i-1:=by omega
      have g1:=fun L=>so_ld hr.row (i:=i) (by omega) (L:=L)
      have g2:=fun L=>so_ld hr.row (i:=i-1) (by omega) (L:=L)
      simp (disch:=omega) [f0,f1,f2,f7,f8,hgt,e1,wrap_i64,g1,g2,so_addr,-viaddrS_in,-vload_ptrO]
      refine so_less hr (i:=i) (j:=i-1) (by omega) (by omega) fun H2 x2 hr2 => ?_
      simp
      refine cond_ndec (fun hlt => ?_) fun hlt => ?_
      · simp (disch:=omega) [f0,f1,f2,f7,f8,wrap_i64]
        exact ⟨m-1,by omega,l',i+1,by omega,hr2,hp,by omega,hso.next ho (by omega) hlt,by omega⟩
      · simp [f0,f1,f2,f7,f8]
        exact ⟨l',i,by omega,hr2,hp,by omega,hso,fun _=>hlt⟩
    · have hgt:((i:Int)<(e:Int))=False:=eq_false (by omega)
      simp (disch:=omega) [f0,f1,f2,f7,f8,hgt]
      exact ⟨l',i,by omega,hr,hp,by omega,hso,fun h=>absurd h hie⟩
  clear f0 f1 f2 f7 f8 hr hp hi hso l' i
  rintro fr L H' ⟨l',i,⟨f0,f1,f2,f7,f8⟩,rfl,hr,hp,hi,hso,hlt⟩
  have hlen:=hp.len
  simp [f0,f1,f2,f7,f8]
  by_cases hie:i=e
  · subst hie
    simp
    exact hK _ _ true hr hp fun _=>hso
  have hie2:((i:Int)=(e:Int))=False:=eq_false (by omega)
  replace hlt:=hlt (by omega)
  simp (disch:=omega) [hie,hie2,f0,f1,f2,f7,f8,wrap_i64]
  refine cond_dec (fun h50 => ?_) fun h50 => ?_
  · simp
    exact hK _ _ false hr hp (fun h=>by cases h)
  have e1:((i:Int)-1).toNat=i-1:=by omega
  have g1:=fun L=>so_ld hr.row (i:=i) (by omega) (L:=L)
  have g2:=fun L=>so_ld hr.row (i:=i-1) (by omega) (L:=L)
  have w1:=fun L=>so_w1 hr hlim (i:=i) (by omega) (L:=L) (gO l' (i-1))
  have w2:=fun L=>so_w2 hr hlim (i:=i) (j:=i-1) (by omega) (L:=L)
  have hr4:=hr.swap (i:=i) (j:=i-1) (by omega) (by omega)
  have hps:=hp.trans (swp_perm (l:=l') (i:=i) (j:=i-1) (a:=a) (b:=e) ⟨by omega,by omega⟩ ⟨by omega,by omega⟩ (by omega))
  have hso1:SortR cfI a (i-1) (swp l' i (i-1)):=SortR.keep (fun p q h1 h2 h3=>hso p q h1 h2 (by omega)) fun k hk=>by rw [swp_get (by omega) (by omega),if_neg (by omega),if_neg (by omega)]
  simp (disch:=omega) [f0,f1,f2,f7,f8,e1,wrap_i64,g1,g2,w1,w2,so_addr,-viaddrS_in,-vstore,-vload_ptrO]
  generalize swp l' i (i-1)=l1 at *
  generalize H'.set b (rowO l1)=H1 at *
  clear g1 g2 w1 w2 hr hp hso hlt hlen
  refine wCond_join (fun fr L H'=>∃l',(fr 0=.sl b 0 l0.length 1∧fr 1=.int .i64 a∧fr 2=.int .i64 e∧fr 7=.int .i64 (i:Nat)∧fr 8=.int .i64 (c:Nat))∧L=[]∧SoS b H0 l0 l' H'∧PermR a e l l'∧SortR cfI a i l') (fun h2 => ?_) (fun h2 => ?_) ?_
  · simp (disch:=omega) [f0,f1,f2,f7,f8,wrap_i64]
    refine wLoop_m (n:=i-1) (fun m fr L H'=>∃l',(fr 0=.sl b 0 l0.length 1∧fr 1=.int .i64 a∧fr 2=.int .i64 e∧fr 7=.int .i64 (i:Nat)∧fr 8=.int .i64 (c:Nat)∧fr 9=.int .i64 (m:Nat))∧L=[]∧SoS b H0 l0 l' H'∧PermR a e l l'∧InsR cfI a (i-1) m l'∧a≤m∧m≤i-1) ⟨l1,by simp [f0,f1,f2,f7,f8];omega,rfl,hr4,hps,InsR.start hso1,by omega,Nat.le_refl _⟩ ?_
    clear f0 f1 f2 f7 f8
    rintro m fr L H' ⟨l',⟨f0,f1,f2,f7,f8,f9⟩,rfl,hr,hp,hI,ha,hm⟩
    have hlen:=hp.len
    simp [f0,f1,f2,f7,f8,f9]
    refine cond_dec (fun h1 => ?_) fun h1 => ?_
    · have e2:((m:Int)-1).toNat=m-1:=by omega
      have g1:=fun L=>so_ld hr.row (i:=m) (by omega) (L:=L)
      have g2:=fun L=>so_ld hr.row (i:=m-1) (by omega) (L:=L)
      simp (disch:=omega) [f0,f1,f2,f7,f8,f9,e2,wrap_i64,g1,g2,so_addr,-viaddrS_in,-vload_ptrO]
      refine so_less hr (i:=m) (j:=m-1) (by omega) (by omega) fun H2 x2 hr2 => ?_
      simp
      refine cond_ndec (fun hlt => ?_) fun hlt => ?_
      · have hd:=hI.done ho ha hm (Or.inr hlt)
        rw [show i-1+1=i by omega] at hd
        simp [f0,f1,f2,f7,f8]
        exact ⟨l',hr2,hp,hd⟩
      · have ham:a<m:=by
          apply Classical.byContradiction
          intro hn2
          have:m=a:=by omega
          subst this
          exact hg.perm hp (Nat.le_refl _) (Nat.le_refl _) (by omega) (by omega) m (Nat.le_refl _) (by omega) hlt
        have g1:=fun L=>so_ld hr2.row (i:=m) (by omega) (L:=L)
        have g2:=fun L=>so_ld hr2.row (i:=m-1) (by omega) (L:=L)
        have w1:=fun L=>so_w1 hr2 hlim (i:=m) (by omega) (L:=L) (gO l' (m-1))
        have w2:=fun L=>so_w2 hr2 hlim (i:=m) (j:=m-1) (by omega) (L:=L)
        have hr5:=hr2.swap (i:=m) (j:=m-1) (by omega) (by omega)
        have hsw:=InsR.swap ho hI (by omega) (by omega) (by omega) hlt
        have hps5:=hp.trans (swp_perm (l:=l') (i:=m) (j:=m-1) (a:=a) (b:=e) ⟨by omega,by omega⟩ ⟨by omega,by omega⟩ (by omega))
        have e3:(m:Int)-1=((m-1:Nat):Int):=by omega
        simp (disch:=omega) [f0,f1,f2,f7,f8,f9,e2,wrap_i64,g1,g2,w1,w2,so_addr,-viaddrS_in,-vstore,-vload_ptrO]
        exact ⟨m-1,by omega,by omega,swp l' m (m-1),hr5,hps5,hsw,by omega,by omega⟩
    · have hd:=hI.done ho ha hm (Or.inl (by omega))
      rw [show i-1+1=i by omega] at hd
      simp [f0,f1,f2,f7,f8]
      exact ⟨l',hr,hp,hd⟩
  · simp [f0,f1,f2,f7,f8]
    exact ⟨l1,hr4,hps,SortR.one (by simp at h2;omega)⟩
  clear f0 f1 f2 f7 f8 hr4 hps hso1 l1 H1
  rintro fr L H' ⟨l',⟨f0,f1,f2,f7,f8⟩,rfl,hr,hp,hso⟩
  simp (disch:=omega) [f0,f1,f2,f7,f8,wrap_i64]
  refine wCond_join (fun fr L H'=>∃l',(fr 0=.sl b 0 l0.length 1∧fr 1=.int .i64 a∧fr 2=.int .i64 e∧fr 7=.int .i64 (i:Nat)∧fr 8=.int .i64 (c:Nat))∧L=[]∧SoS b H0 l0 l' H'∧PermR a e l l'∧SortR cfI a i l') (fun h2 => ?_) (fun h2 => ?_) ?_
  · simp (disch:=omega) [f0,f1,f2,f7,f8,wrap_i64]
    refine wLoop_up (e-(i+1)) (fun m fr L H'=>∃l',(fr 0=.sl b 0 l0.length 1∧fr 1=.int .i64 a∧fr 2=.int .i64 e∧fr 7=.int .i64 (i:Nat)∧fr 8=.int .i64 (c:Nat)∧fr 10=.int .i64 ((i+1+m:Nat):Int))∧L=[]∧SoS b H0 l0 l' H'∧PermR a e l l'∧SortR cfI a i l') ⟨l',by simp [f0,f1,f2,f7,f8],rfl,hr,hp,hso⟩ ?_
    clear f0 f1 f2 f7 f8 hr hp hso l'
    rintro m hm fr L H' ⟨l',⟨f0,f1,f2,f7,f8,f10⟩,rfl,hr,hp,hso⟩
    have hlen:=hp.len
    simp [f0,f1,f2,f7,f8,f10]
    refine cond_dec (fun h1 => ?_) fun h1 => ?_
    · have e2:((i:Int)+1+(m:Int)).toNat=i+1+m:=by omega
      have e3:((i:Int)+1+(m:Int)-1).toNat=i+m:=by omega
      have g1:=fun L=>so_ld hr.row (i:=i+1+m) (by omega) (L:=L)
      have g2:=fun L=>so_ld hr.row (i:=i+m) (by omega) (L:=L)
      simp (disch:=omega) [f0,f1,f2,f7,f8,f10,e2,e3,wrap_i64,g1,g2,so_addr,-viaddrS_in,-vload_ptrO]
      refine so_less hr (i:=i+1+m) (j:=i+m) (by omega) (by omega) fun H2 x2 hr2 => ?_
      simp
      refine cond_ndec (fun hlt => ?_) fun hlt => ?_
      · simp [f0,f1,f2,f7,f8]
        exact ⟨l',hr2,hp,hso⟩
      · have g1:=fun L=>so_ld hr2.row (i:=i+1+m) (by omega) (L:=L)
        have g2:=fun L=>so_ld hr2.row (i:=i+m) (by omega) (L:=L)
        have w1:=fun L=>so_w1 hr2 hlim (i:=i+1+m) (by omega) (L:=L) (gO l' (i+m))
        have w2:=fun L=>so_w2 hr2 hlim (i:=i+1+m) (j:=i+m) (by omega) (L:=L)
        have hr5:=hr2.swap (i:=i+1+m) (j:=i+m) (by omega) (by omega)
        have hps5:=hp.trans (swp_perm (l:=l') (i:=i+1+m) (j:=i+m) (a:=a) (b:=e) ⟨by omega,by omega⟩ ⟨by omega,by omega⟩ (by omega))
        have hso5:SortR cfI a i (swp l' (i+1+m) (i+m)):=hso.keep fun k hk=>by rw [swp_get (by omega) (by omega),if_neg (by omega),if_neg (by omega)]
        simp (disch:=omega) [f0,f1,f2,f7,f8,f10,e2,e3,wrap_i64,g1,g2,w1,w2,so_addr,-viaddrS_in,-vstore,-vload_ptrO]
        exact ⟨by omega,by omega,_,hr5,hps5,hso5⟩
    · simp [f0,f1,f2,f7,f8]
      exact ⟨l',hr,hp,hso⟩
  · simp [f0,f1,f2,f7,f8]
    exact ⟨l',hr,hp,hso⟩
  clear f0 f1 f2 f7 f8 hr hp hso l'
  rintro fr L H' ⟨l',⟨f0,f1,f2,f7,f8⟩,rfl,hr,hp,hso⟩
  simp (disch:=omega) [f0,f1,f2,f7,f8,wrap_i64]
  exact ⟨by omega,l',i,by omega,hr,hp,by omega,hso⟩
def powChk (r:Option (V×Hp))(x:Nat):Bool:=match r with
  | some (.int .u64 m,[])=>decide (0≤m∧(x:Int)<m∧m≤2*(x:Int))||decide (x=0)
  | _=>false
def lenChk (r:Option (V×Hp)):Bool:=match r with
  | some (.int .i64 m,[])=>decide (0≤m∧m≤100)
  | _=>false
theorem pow_all:(List.range 256).all (fun x=>powChk (evFn (cloT tbl) 60 0 120 [.int .i64 x] []) x)=true:=by kernel_rfl
theorem len_all:(List.range 256).all (fun x=>lenChk (evFn (cloT tbl) 60 0 98 [.int .u64 x] []))=true:=by kernel_rfl
theorem so_pow {x:Nat}(hx:0<x∧x<256)(hlim:lim≤H.length)(hK:∀m:Nat,x<m→m≤2*x→K (.int .u64 m) H):VCall tbl lim 120 [.int .i64 x] H K:=by
  have h:=List.all_eq_true.1 pow_all x (List.mem_range.2 hx.2)
  cases hr:evFn (cloT tbl) 60 0 120 [.int .i64 x] [] with
  | none=>rw [hr] at h;cases h
  | some r =>
    obtain ⟨v,H1⟩:=r
    rw [hr] at h
    unfold powChk at h
    split at h
    · rename_i m he
      cases he
      have:=evFn_sh (G:=H) tbl 60 0 lim _ _ [] _ _ (by omega) hr
      have e:shH H []=H:=by simp [shH]
      rw [e] at this
      simp at h
      refine ⟨60,.int .u64 m,H,by simpa [shs,sh] using this,?_⟩
      have e2:m=((m.toNat:Nat):Int):=by omega
      rw [e2]
      exact hK _ (by omega) (by omega)
    · cases h
theorem so_bits {x:Nat}(hx:x<256)(hlim:lim≤H.length)(hK:∀m:Nat,m≤100→K (.int .i64 m) H):VCall tbl lim 98 [.int .u64 x] H K:=by
  have h:=List.all_eq_true.1 len_all x (List.mem_range.2 hx)
  cases hr:evFn (cloT tbl) 60 0 98 [.int .u64 x] [] with
  | none=>rw [hr] at h;cases h
  | some r =>
    obtain ⟨v,H1⟩:=r
    rw [hr] at h
    unfold lenChk at h
    split at h
    · rename_i m he
      cases he
      have:=evFn_sh (G:=H) tbl 60 0 lim _ _ [] _ _ (by omega) hr
      have e:shH H []=H:=by simp [shH]
      rw [e] at this
      simp at h
      refine ⟨60,.int .i64 m,H,by simpa [shs,sh] using this,?_⟩
      have e2:m=((m.toNat:Nat):Int):=by omega
      rw [e2]
      exact hK _ (by omega)
    · cases h
theorem shl_u {a:Int}:vbin .shl (.int .u64 a) (.int .u64 13)=some (.int .u64 (IntKind.wrap .u64 (a*2 ^ 13))):=Eq.trans rfl rfl
theorem shl_u2 {a:Int}:vbin .shl (.int .u64 a) (.int .u64 17)=some (.int .u64 (IntKind.wrap .u64 (a*2 ^ 17))):=Eq.trans rfl rfl
theorem shr_u {a:Int}:vbin .shr (.int .u64 a) (.int .u64 7)=some (.int .u64 (a.fdiv (2 ^ 7))):=Eq.trans rfl rfl
theorem su_ld {s:Nat}{w:Int}(h:H[s]? = some (.row [.int .u64 w] true)){L:Lo}:vload none L H (.ptr s 0)=some (.int .u64 w):=by
  rw [vload_ptr h];rfl
theorem su_st {s:Nat}{r:Blk}{z w:Int}(h:H[s]? = some (.row [.int .u64 w] true))(hl:lim≤s){L:Lo}:vstore lim L H (.ptr s 0) (.int .u64 z) 1=some (L,H.set s (.row [.int .u64 z] true)):=by
  simp [vstore,vstoreH,h,hl,splice]
theorem so_next {s:Nat}{w:Int}(h:H[s]? = some (.row [.int .u64 w] true))(hl:lim≤s)(hK:∀z,K (.int .u64 z) (H.set s (.row [.int .u64 z] true))):VCall tbl lim 121 [.ptr s 0] H K:=by
  refine VCall_fn tbl_at121 rfl ?_
  have hb:=(List.getElem?_eq_some_iff.1 h).1
  have ld:=fun L=>su_ld h (L:=L)
  have st:=fun L z=>su_st (lim:=lim) (r:=.row [] true) h hl (L:=L) (z:=z)
  have row:∀z,(H.set s (.row [.int .u64 z] true))[s]? = some (.row [.int .u64 z] true):=fun z=>by simp [hb]
  have ld2:=fun z L=>su_ld (row z) (L:=L)
  have st2:∀y z L,vstore lim L (H.set s (.row [.int .u64 y] true)) (.ptr s 0) (.int .u64 z) 1=some (L,H.set s (.row [.int .u64 z] true)):=fun y z L=>by
    rw [su_st (r:=.row [] true) (row y) hl,List.set_set]
  simp [vf121,ld,st,ld2,st2,shl_u,shl_u2,shr_u,vbin_xor,-vstore,-vload_ptrO]
  exact hK _
end
end Go.Proofs.Ytclghkegfpcdpaa.Vm
namespace Go.Proofs.Ytclghkegfpcdpaa.Vm
open Go
set_option maxRecDepth 100000
set_option maxHeartbeats 1000000
set_option linter.unusedSimpArgs false
set_option linter.unusedVariables false
attribute [-simp] List.getD_eq_getElem?_getD
theorem and_lt {x:Int}{m:Nat}(hm:0<m∧m<1000):∃o:Nat,o<m∧vbin .and (.int .u64 x) (.int .u64 ((m:Int)-1))=some (.int .u64 o):=by
  have h2:(BitVec.ofInt 64 ((m:Int)-1)).toNat=m-1:=by
    rw [BitVec.toNat_ofInt];omega
  have h1:(BitVec.ofInt 64 x &&& BitVec.ofInt 64 ((m:Int)-1)).toNat≤m-1:=by
    rw [BitVec.toNat_and,h2];exact Nat.and_le_right
  refine ⟨(BitVec.ofInt 64 x &&& BitVec.ofInt 64 ((m:Int)-1)).toNat,by omega,?_⟩
  rw [vbin_and]
  have:IntKind.wrap .u64 (((BitVec.ofInt (IntKind.bits .u64) x &&& BitVec.ofInt (IntKind.bits .u64) ((m:Int)-1)).toNat:Nat):Int)=((BitVec.ofInt 64 x &&& BitVec.ofInt 64 ((m:Int)-1)).toNat:Nat):=by
    show IntKind.wrap .u64 (((BitVec.ofInt 64 x &&& BitVec.ofInt 64 ((m:Int)-1)).toNat:Nat):Int)=_
    generalize (BitVec.ofInt 64 x &&& BitVec.ofInt 64 ((m:Int)-1)).toNat=o at *
    simp [IntKind.wrap,IntKind.bits,IntKind.signed];omega
  rw [this]
theorem wrap_u64 {n:Int}(h:0≤n∧n<1000000):IntKind.wrap .u64 n=n:=by
  simp [IntKind.wrap,IntKind.bits,IntKind.signed];omega
section
variable {lim:Nat}{H H0:Hp}{K:V→Hp→Prop}{b:Nat}{l l0:List EO}
theorem so_break (hs:SoS b H0 l0 l H)(hlim:lim≤b){a e:Nat}(hae:a+8≤e∧e≤l0.length)(hl:l0.length<256)
    (hK:∀H' l',SoS b H0 l0 l' H'→PermR a e l l'→K (.tup []) H'):VCall tbl lim 102 [.sl b 0 l0.length 1,.int .i64 a,.int .i64 e] H K:=by
  refine VCall_fn tbl_at102 rfl ?_
  have hn:=hs.n
  have hb:=hs.blt
  have hle:=hs.len
  obtain ⟨d,rfl⟩:∃d,e=a+d:=⟨e-a,by omega⟩
  have e0:(a:Int)+(d:Int)-(a:Int)=(d:Int):=by omega
  have e8:((8:Int)≤(d:Int))=True:=eq_true (by omega)
  have eq4:(d:Int).tdiv 4=((d / 4:Nat):Int):=tdiv_nat _ 4
  have hd4:2*(d / 4)≤d / 2∧2≤d / 4∧4*(d / 4)≤d:=by omega
  have wu:∀k:Nat,k<256→IntKind.wrap .u64 (k:Int)=k:=fun k hk=>wrap_u64 (by omega)
  have stn:∀L,vstore lim L (H++[Blk.row [V.int .u64 0] true]) (.ptr H.length 0) (.int .u64 d) 1=some (L,H++[Blk.row [V.int .u64 d] true]):=fun L=>by
    rw [su_st (r:=.row [] true) (w:=0) (by simp) (by omega)];simp
  simp (disch:=omega) [vf102,wrap_i64,e0,e8,eq4,wu,stn,-vstore]
  have row1:(H++[Blk.row [V.int .u64 d] true])[H.length]? = some (.row [.int .u64 d] true):=by simp
  have hs1:SoS b H0 l0 l (H++[Blk.row [V.int .u64 d] true]):=hs.grow HX.push
  have hl1:H.length<(H++[Blk.row [V.int .u64 d] true]).length:=by simp
  generalize H++[Blk.row [V.int .u64 d] true]=H1 at *
  refine so_pow (x:=d) (by omega) (by omega) fun m hm1 hm2 => ?_
  simp (disch:=omega) [wrap_i64,e0,e8,eq4]
  refine wLoop_up 3 (fun i fr L H'=>∃l' w,(fr 0=.sl b 0 l0.length 1∧fr 1=.int .i64 a∧fr 6=.int .i64 d∧fr 7=.ptr H.length 0∧fr 8=.int .u64 m∧fr 9=.int .i64 ((a+(d / 4*2-1)+i:Nat):Int))∧L=[]∧SoS b H0 l0 l' H'∧H'[H.length]? = some (.row [.int .u64 w] true)∧PermR a (a+d) l l') ⟨l,d,by simp;omega,rfl,hs1,row1,PermR.refl⟩ ?_
  rintro i hi fr L H' ⟨l',w,⟨f0,f1,f6,f7,f8,f9⟩,rfl,hr,hw,hp⟩
  have hlen:=hp.len
  simp (disch:=omega) [f0,f1,f6,f7,f8,f9,eq4,wrap_i64]
  refine cond_dec (fun ht => ?_) fun ht => ?_
  · have hi2:i<3:=by omega
    simp [f0,f1,f6,f7,f8,f9]
    refine so_next hw (by omega) fun z => ?_
    have hr2:=hr.aside (s:=H.length) (r:=.row [.int .u64 z] true) hle
    have hw2:(H'.set H.length (.row [.int .u64 z] true))[H.length]? = some (.row [.int .u64 z] true):=by
      rw [List.getElem?_set_self (List.getElem?_eq_some_iff.1 hw).1]
    generalize H'.set H.length (.row [.int .u64 z] true)=H2 at *
    obtain ⟨o,ho,hand⟩:=and_lt (x:=z) (m:=m) (by omega)
    have wm:IntKind.wrap .u64 ((m:Int)-1)=(m:Int)-1:=wrap_u64 (by omega)
    simp (disch:=omega) [f0,f1,f6,f7,f8,f9,wm,hand,wrap_i64]
    refine wCond_join (fun fr L H'=>∃o:Nat,(fr 0=.sl b 0 l0.length 1∧fr 1=.int .i64 a∧fr 6=.int .i64 d∧fr 7=.ptr H.length 0∧fr 8=.int .u64 m∧fr 9=.int .i64 ((a+(d / 4*2-1)+i:Nat):Int)∧fr 10=.int .i64 (o:Nat))∧L=[]∧H'=H2∧o<d) (fun h => ?_) (fun h => ?_) ?_
    · simp at h
      simp (disch:=omega) [f0,f1,f6,f7,f8,f9,wrap_i64]
      exact ⟨o-d,by omega,by omega⟩
    · simp at h
      simp [f0,f1,f6,f7,f8,f9]
      exact ⟨o,rfl,by omega⟩
    clear f0 f1 f6 f7 f8 f9
    rintro fr L H3 ⟨q,⟨f0,f1,f6,f7,f8,f9,f10⟩,rfl,rfl,hq⟩
    have e1:((a:Int)+((d / 4*2-1:Nat):Int)+(i:Int)).toNat=a+(d / 4*2-1)+i:=by omega
    have e2:((a:Int)+(q:Int)).toNat=a+q:=by omega
    have g1:=fun L=>so_ld hr2.row (i:=a+(d / 4*2-1)+i) (by omega) (L:=L)
    have g2:=fun L=>so_ld hr2.row (i:=a+q) (by omega) (L:=L)
    have w1:=fun L=>so_w1 hr2 hlim (i:=a+(d / 4*2-1)+i) (by omega) (L:=L) (gO l' (a+q))
    have w2:=fun L=>so_w2 hr2 hlim (i:=a+(d / 4*2-1)+i) (j:=a+q) (by omega) (L:=L)
    have hr5:=hr2.swap (i:=a+(d / 4*2-1)+i) (j:=a+q) (by omega) (by omega)
    have hps5:=hp.trans (swp_perm (l:=l') (i:=a+(d / 4*2-1)+i) (j:=a+q) (a:=a) (b:=a+d) ⟨by omega,by omega⟩ ⟨by omega,by omega⟩ (by omega))
    have hw5:(H3.set b (rowO (swp l' (a+(d / 4*2-1)+i) (a+q))))[H.length]? = some (.row [.int .u64 z] true):=by
      rw [List.getElem?_set_ne (by omega)];exact hw2
    simp (disch:=omega) [f0,f1,f6,f7,f8,f9,f10,e1,e2,wrap_i64,g1,g2,w1,w2,so_addr,-viaddrS_in,-vstore,-vload_ptrO]
    exact ⟨by omega,by omega,_,hr5,⟨z,hw2⟩,hps5⟩
  · simp
    exact hK _ _ hr hp
theorem so_choose (hs:SoS b H0 l0 l H)(hlim:lim≤b){a e:Nat}(hae:a+8≤e∧e≤l0.length)(hl:l0.length≤100000)
    (hK:∀H' (v h:Nat),SoS b H0 l0 l H'→(a≤v∧v<e)→K (.tup [.int .i64 (v:Nat),.int .i64 (h:Nat)]) H'):VCall tbl lim 103 [.sl b 0 l0.length 1,.int .i64 a,.int .i64 e] H K:=by
  refine VCall_fn tbl_at103 rfl ?_
  have hn:=hs.n
  have hb:=hs.blt
  have hle:=hs.len
  obtain ⟨d,rfl⟩:∃d,e=a+d:=⟨e-a,by omega⟩
  have e0:(a:Int)+(d:Int)-(a:Int)=(d:Int):=by omega
  have e8:((8:Int)≤(d:Int))=True:=eq_true (by omega)
  obtain ⟨q,eq4,hd4⟩:∃q:Nat,(d:Int).tdiv 4=(q:Int)∧4*q≤d∧d≤4*q+3:=⟨d / 4,tdiv_nat _ 4,by omega,by omega⟩
  simp (disch:=omega) [vf103,wrap_i64,e0,e8,eq4]
  have row1:(H++[Blk.row [V.int .i64 0] true])[H.length]? = some (.row [.int .i64 0] true):=by simp
  have hs1:SoS b H0 l0 l (H++[Blk.row [V.int .i64 0] true]):=hs.grow HX.push
  generalize H++[Blk.row [V.int .i64 0] true]=H1 at *
  generalize H.length=sw at *
  refine wCond_join (fun fr L H'=>∃i j k w,(fr 0=.sl b 0 l0.length 1∧fr 9=.ptr sw 0∧fr 10=.int .i64 (i:Nat)∧fr 11=.int .i64 (j:Nat)∧fr 12=.int .i64 (k:Nat))∧L=[]∧SoS b H0 l0 l H'∧H'[sw]? = some (.row [.int .i64 w] true)∧(a≤i∧i<a+d)∧(a≤j∧j<a+d)∧a≤k∧k<a+d) (fun h => ?_) (fun h => ?_) ?_
  · simp at h
    have c1:(a:Int)+(q:Int)=((a+q:Nat):Int):=by omega
    have c2:(a:Int)+(q:Int)*2=((a+q*2:Nat):Int):=by omega
    have c3:(a:Int)+(q:Int)*3=((a+q*3:Nat):Int):=by omega
    simp only [c1,c2,c3]
    generalize hi:a+q=i at *
    generalize hj:a+q*2=j at *
    generalize hk:a+q*3=k at *
    simp []
    refine so_medianAdj hs1 hlim   row1 hle (x:=i) (by omega) hl fun H2 w2 r2 hs2 row2 h2 => ?_
    simp []
    refine so_medianAdj hs2 hlim   row2 hle (x:=j) (by omega) hl fun H3 w3 r3 hs3 row3 h3 => ?_
    simp []
    refine so_medianAdj hs3 hlim   row3 hle (x:=k) (by omega) hl fun H4 w4 r4 hs4 row4 h4 => ?_
    simp
    exact ⟨r2,r3,r4,by omega,hs4,⟨w4,row4⟩,by omega,by omega,by omega,by omega⟩
  · simp
    exact ⟨a+q,a+q*2,a+q*3,by omega,hs1,⟨0,row1⟩,by omega,by omega,by omega,by omega⟩
  rintro fr L H2 ⟨i,j,k,w,⟨f0,f9,f10,f11,f12⟩,rfl,hs2,row2,hi,hj,hk⟩
  simp [f0,f9,f10,f11,f12]
  refine so_median hs2 hlim   row2 hle (x:=i) (y:=j) (z:=k) (by omega) (by omega) (by omega) fun H3 w3 r hs3 row3 h3 => ?_
  have ld:=fun L=>sw_ld row3 (L:=L)
  simp [f0,f9,f10,f11,f12,ld,-vload_ptrO]
  refine cond_dec (fun h => ?_) fun h => ?_
  · simp
    exact hK _ r 1 hs3 (by omega)
  simp
  refine cond_dec (fun h => ?_) fun h => ?_
  · simp
    exact hK _ r 2 hs3 (by omega)
  · simp
    exact hK _ r 0 hs3 (by omega)
theorem so_pdq (ho:Ordr cfI) (hlim:lim≤b) (hl:l0.length<256):∀(n:Nat) {H:Hp} {l:List EO} {a e:Nat} {lm:Nat} {K:V→Hp→Prop},e-a≤n→SoS b H0 l0 l H→(a≤e∧e≤l0.length)→lm≤1000→GdR cfI a e l →
    (∀H' l',SoS b H0 l0 l' H'→PermR a e l l'→SortR cfI a e l'→K (.tup []) H')→VCall tbl lim 97 [.sl b 0 l0.length 1,.int .i64 a,.int .i64 e,.int .i64 lm] H K:=by
  intro n
  induction n using Nat.strongRecOn with
  | ind n ih =>
  intro H l a e lm K hn hs hae hlm hg hK
  have hb:=hs.blt
  refine VCall_fn tbl_at97 rfl ?_
  have hln:=hs.n
  simp [vf97]
  refine wLoop_m (n:=e-a) (fun m fr L H'=>∃l' a' e' lm wb wp,(fr 0=.sl b 0 l0.length 1∧fr 1=.int .i64 (a':Nat)∧fr 2=.int .i64 (e':Nat)∧fr 3=.int .i64 (lm:Nat)∧fr 8=.bool wb∧fr 9=.bool wp)∧L=[]∧SoS b H0 l0 l' H'∧PermR a e l l'∧OutR cfI a e a' e' l'∧GdR cfI a' e' l'∧lm≤1000∧m=e'-a'∧m≤e-a) ⟨l,a,e,lm,true,true,by simp,rfl,hs,PermR.refl,OutR.start hae.1,hg,hlm,rfl,Nat.le_refl _⟩ ?_
  clear hs hg hlm
  rintro m fr L H1 ⟨l1,x,y,lm1,wb,wp,⟨f0,f1,f2,f3,f8,f9⟩,rfl,hs,hp,hO,hg,hlm,hm,hm2⟩
  have hlen:=hp.len
  have hrg:=hO.rng
  have e0:(y:Int)-(x:Int)=((y-x:Nat):Int):=by omega
  simp (disch:=omega) [f0,f1,f2,f3,f8,f9,wrap_i64]
  refine cond_dec (fun h12 => ?_) fun h12 => ?_
  · simp [f0,f1,f2,f3,f8,f9]
    refine so_isort hs hlim   ho (a:=x) (e:=y) (by omega) (by omega) fun H2 l2 hs2 hp2 hso2 => ?_
    simp
    exact hK _ _ hs2 (hp.trans (hp2.wide hrg.1 hrg.2.2)) ((hO.perm hp2 (by omega)).sort hso2)
  simp [f0,f1,f2,f3,f8,f9]
  by_cases hz:lm1=0
  · subst hz
    simp [f0,f1,f2,f3,f8,f9]
    refine so_heap hs hlim   ho (a:=x) (e:=y) (by omega) (by omega) fun H2 l2 hs2 hp2 hso2 => ?_
    simp
    exact hK _ _ hs2 (hp.trans (hp2.wide hrg.1 hrg.2.2)) ((hO.perm hp2 (by omega)).sort hso2)
  simp [f0,f1,f2,f3,f8,f9,hz]
  refine wCond_join (fun fr L H'=>∃l' lm,(fr 0=.sl b 0 l0.length 1∧fr 1=.int .i64 x∧fr 2=.int .i64 y∧fr 3=.int .i64 (lm:Nat)∧fr 8=.bool wb∧fr 9=.bool wp∧fr 10=.int .i64 ((y:Int)-(x:Int)))∧L=[]∧SoS b H0 l0 l' H'∧PermR a e l l'∧OutR cfI a e x y l'∧GdR cfI x y l'∧lm≤1000) (fun h => ?_) (fun h => ?_) ?_
  · simp [f0,f1,f2,f3,f8,f9]
    refine so_break hs hlim (a:=x) (e:=y) (by omega) (by omega) fun H2 l2 hs2 hp2 => ?_
    have e1:(lm1:Int)-1=((lm1-1:Nat):Int):=by omega
    simp (disch:=omega) [f0,f1,f2,f3,f8,f9,wrap_i64,e1]
    exact ⟨l2,lm1-1,by omega,hs2,hp.trans (hp2.wide hrg.1 hrg.2.2),hO.perm hp2 (by omega),hg.perm hp2 (Nat.le_refl _) (Nat.le_refl _) (by omega),by omega⟩
  · simp [f0,f1,f2,f3,f8,f9]
    exact ⟨l1,lm1,by omega,hs,hp,hO,hg,by omega⟩
  clear f0 f1 f2 f3 f8 f9 hs hp hO hg hlen hlm hz
  rintro fr L H2 ⟨l2,lm2,⟨f0,f1,f2,f3,f8,f9,f10⟩,rfl,hs,hp,hO,hg,hlm⟩
  have hlen:=hp.len
  simp [f0,f1,f2,f3,f8,f9,f10]
  refine so_choose hs hlim   (a:=x) (e:=y) (by omega) (by omega) fun H3 v hint hs3 hv => ?_
  simp [f0,f1,f2,f3,f8,f9,f10]
  refine wCond_join (fun fr L H'=>∃l' v hint,(fr 0=.sl b 0 l0.length 1∧fr 1=.int .i64 x∧fr 2=.int .i64 y∧fr 3=.int .i64 (lm2:Nat)∧fr 8=.bool wb∧fr 9=.bool wp∧fr 10=.int .i64 ((y:Int)-(x:Int))∧fr 11=.int .i64 (v:Nat)∧fr 12=.int .i64 (hint:Nat))∧L=[]∧SoS b H0 l0 l' H'∧PermR a e l l'∧OutR cfI a e x y l'∧GdR cfI x y l'∧x≤v∧v<y) (fun h => ?_) (fun h => ?_) ?_
  · simp [f0,f1,f2,f3,f8,f9]
    refine so_reverse hs3 hlim (a:=x) (e:=y) (by omega) (by omega) fun H4 l4 hs4 hp4 => ?_
    simp (disch:=omega) [f0,f1,f2,f3,f8,f9,f10,wrap_i64]
    exact ⟨l4,(y-1)-(v-x),⟨by omega,1,rfl⟩,hs4,hp.trans (hp4.wide hrg.1 hrg.2.2),hO.perm hp4 (by omega),hg.perm hp4 (Nat.le_refl _) (Nat.le_refl _) (by omega),by omega,by omega⟩
  · simp [f0,f1,f2,f3,f8,f9,f10]
    exact ⟨l2,v,⟨rfl,hint,rfl⟩,hs3,hp,hO,hg,by omega,by omega⟩
  clear f0 f1 f2 f3 f8 f9 f10 hs hs3 hp hO hg hlen hv
  rintro fr L H4 ⟨l4,v,hint,⟨f0,f1,f2,f3,f8,f9,f10,f11,f12⟩,rfl,hs,hp,hO,hg,hv⟩
  have hlen:=hp.len
  rw [seqQ_normal]
  refine wSeq_join (fun fr L H'=>∃l' wb wp,(fr 0=.sl b 0 l0.length 1∧fr 1=.int .i64 x∧fr 2=.int .i64 y∧fr 3=.int .i64 (lm2:Nat)∧fr 10=.int .i64 ((y:Int)-(x:Int))∧fr 11=.int .i64 (v:Nat)∧fr 8=.bool wb∧fr 9=.bool wp)∧L=[]∧SoS b H0 l0 l' H'∧PermR a e l l'∧OutR cfI a e x y l'∧GdR cfI x y l') ?_ ?_
  · have pis:∀(fr:Fr),fr 0=.sl b 0 l0.length 1→True:=fun _ _=>trivial
    by_cases hh:wb=true∧wp=true∧hint=1
    · obtain ⟨rfl,rfl,rfl⟩:=hh
      simp [f0,f1,f2,f3,f8,f9,f10,f11,f12]
      refine so_pis hs hlim   ho (a:=x) (e:=y) (by omega) (by omega) hg fun H5 l5 ok hs5 hp5 hso5 => ?_
      cases ok with
      | true =>
        simp
        exact hK _ _ hs5 (hp.trans (hp5.wide hrg.1 hrg.2.2)) ((hO.perm hp5 (by omega)).sort (hso5 rfl))
      | false =>
        simp [f0,f1,f2,f3,f8,f9,f10,f11,f12]
        exact ⟨l5,hs5,hp.trans (hp5.wide hrg.1 hrg.2.2),hO.perm hp5 (by omega),hg.perm hp5 (Nat.le_refl _) (Nat.le_refl _) (by omega)⟩
    · have fin:∃l',SoS b H0 l0 l' H4∧PermR a e l l'∧OutR cfI a e x y l'∧GdR cfI x y l':=⟨l4,hs,hp,hO,hg⟩
      cases wb with
      | false =>
        simp [f0,f1,f2,f3,f8,f9,f10,f11,f12]
        exact fin
      | true =>
        cases wp with
        | false =>
          simp [f0,f1,f2,f3,f8,f9,f10,f11,f12]
          exact fin
        | true =>
          have h1:((hint:Int)=1)=False:=eq_false (by simp at hh;omega)
          simp [f0,f1,f2,f3,f8,f9,f10,f11,f12,h1]
          exact fin
  clear f0 f1 f2 f3 f8 f9 f10 f11 f12 hs hp hO hg hlen
  rintro fr L H5 ⟨l5,wb,wp,⟨f0,f1,f2,f3,f10,f11,f8,f9⟩,rfl,hs,hp,hO,hg⟩
  have hlen:=hp.len
  refine wSeq_join (fun fr L H'=>∃l' wb wp,(fr 0=.sl b 0 l0.length 1∧fr 1=.int .i64 x∧fr 2=.int .i64 y∧fr 3=.int .i64 (lm2:Nat)∧fr 10=.int .i64 ((y:Int)-(x:Int))∧fr 11=.int .i64 (v:Nat)∧fr 8=.bool wb∧fr 9=.bool wp)∧L=[]∧SoS b H0 l0 l' H'∧PermR a e l l'∧OutR cfI a e x y l'∧GdR cfI x y l') ?_ ?_
  · by_cases hx0:x=0
    · have h0:(0<x)=False:=eq_false (by omega)
      simp [f0,f1,f2,f3,f8,f9,f10,f11,h0]
      exact ⟨l5,hs,hp,hO,hg⟩
    · have h0:(0<x)=True:=eq_true (by omega)
      have e1:((x:Int)-1).toNat=x-1:=by omega
      have g1:=fun L=>so_ld hs.row (i:=x-1) (by omega) (L:=L)
      have g2:=fun L=>so_ld hs.row (i:=v) (by omega) (L:=L)
      simp (disch:=omega) [f0,f1,f2,f3,f8,f9,f10,f11,h0,e1,wrap_i64,g1,g2,so_addr,-viaddrS_in,-vload_ptrO]
      refine so_less hs (i:=x-1) (j:=v) (by omega) (by omega) fun H6 x6 hs6 => ?_
      simp
      refine cond_ndec (fun hlt => ?_) fun hlt => ?_
      · simp [f0,f1,f2,f3,f8,f9,f10,f11]
        refine so_partEq hs6 hlim   ho (a:=x) (e:=y) (v:=v) (by omega) (by omega) (hg.least ho (by omega) hlt) fun H7 l7 q hs7 hp7 hq heq => ?_
        have hO7:=(hO.perm hp7 (by omega)).equal (m:=q) (by omega) heq
        simp [f0,f1,f2,f3,f8,f9,f10,f11]
        exact ⟨y-q,by omega,l7,q,y,lm2,by omega,hs7,hp.trans (hp7.wide hrg.1 hrg.2.2),hO7,hO7.guard (by omega),by omega,rfl,by omega⟩
      · simp [f0,f1,f2,f3,f8,f9,f10,f11]
        exact ⟨l5,hs6,hp,hO,hg⟩
  clear f0 f1 f2 f3 f8 f9 f10 f11 hs hp hO hg hlen
  rintro fr L H6 ⟨l6,wb,wp,⟨f0,f1,f2,f3,f10,f11,f8,f9⟩,rfl,hs,hp,hO,hg⟩
  have hlen:=hp.len
  simp [f0,f1,f2,f3,f8,f9,f10,f11]
  refine so_part hs hlim   ho (a:=x) (e:=y) (v:=v) (by omega) (by omega) fun H7 l7 q ok hs7 hp7 hq => ?_
  have hqr:=hq.rng
  have hO7:=hO.perm hp7 (by omega)
  have hp77:=hp.trans (hp7.wide hrg.1 hrg.2.2)
  have hl7:=hp77.len
  simp (disch:=omega) [f0,f1,f2,f3,f8,f9,f10,f11,wrap_i64]
  refine cond_dec (fun hlr => ?_) fun hlr => ?_
  · simp [f0,f1,f2,f3,f8,f9,f10,f11]
    refine ih (q-x) (by omega) (Nat.le_refl _) hs7 (by omega) hlm ((hg.perm hp7 (Nat.le_refl _) (Nat.le_refl _) (by omega)).less (by omega)) fun H8 l8 hs8 hp8 hso8 => ?_
    have hO8:=hO7.left ho hq hp8 hso8 (by omega)
    simp (disch:=omega) [f0,f1,f2,f3,f8,f9,f10,f11,wrap_i64]
    exact ⟨y-(q+1),by omega,l8,q+1,y,lm2,by omega,hs8,hp77.trans (hp8.wide (by omega) (by omega)),hO8,hO8.guard (by omega),by omega,rfl,by omega⟩
  · have e1:(q:Int)+1=((q+1:Nat):Int):=by omega
    simp (disch:=omega) [f0,f1,f2,f3,f8,f9,f10,f11,wrap_i64]
    rw [e1]
    refine ih (y-(q+1)) (by omega) (Nat.le_refl _) hs7 (by omega) hlm (fun _ k h1 h2=>hq.hi k (by omega) h2) fun H8 l8 hs8 hp8 hso8 => ?_
    have hO8:=hO7.right ho hq hp8 hso8 (by omega)
    simp (disch:=omega) [f0,f1,f2,f3,f8,f9,f10,f11,wrap_i64]
    exact ⟨q-x,by omega,l8,x,q,lm2,by omega,hs8,hp77.trans (hp8.wide (by omega) (by omega)),hO8,((hg.perm hp7 (Nat.le_refl _) (Nat.le_refl _) (by omega)).perm hp8 (by omega) (Nat.le_refl _) (by omega)).less (by omega),by omega,rfl,by omega⟩
theorem so_sort (hb:H[b]? = some (rowO l))(hlim:lim≤b)(ho:Ordr cfI)(hl:l.length<256)
    (hK:∀H' l',SoS b H l l' H'→SortR cfI 0 l.length l'→K (.tup []) H'):VCall tbl lim 87 [.sl b 0 l.length 1] H K:=by
  refine VCall_fn tbl_at87 rfl ?_
  have hbl:=(List.getElem?_eq_some_iff.1 hb).1
  have wu:IntKind.wrap .u64 (l.length:Int)=(l.length:Int):=wrap_u64 (by omega)
  simp [vf87,wu]
  refine so_bits (x:=l.length) hl (by omega) fun m hm => ?_
  simp []
  refine so_pdq (a:=0) (e:=l.length)  ho  hlim hl l.length (by omega) (SoS.start hb) (by omega) (by omega) (fun h=>by omega) fun H' l' hs hp hso => ?_
  simp
  exact hK _ _ hs hso
end
end Go.Proofs.Ytclghkegfpcdpaa.Vm
namespace Go.Proofs.Ytclghkegfpcdpaa.Vm
open Go
set_option maxRecDepth 100000
set_option linter.unusedSimpArgs false
set_option linter.unusedVariables false
attribute [-simp] List.getD_eq_getElem?_getD
structure Pnt where
  v:V
  i:Bool
  a:Int
  d:Int
  k:Int
  deriving Inhabited
def Pnt.cells (e:Pnt):List V:=[e.v,.bool e.i,.int .i64 e.a,.int .i64 e.d]
def pntC:Cod Pnt 4:=⟨Pnt.cells,fun _=>rfl⟩
abbrev EQ:=Pnt
def gE (l:List EQ)(i:Nat):EQ:=l.getD i default
def eV (x:EQ):V:=.agg x.cells
def rowB (l:List EQ):Blk:=.row (pntC.all l) true
theorem stor_eV {x:EQ}:stor (eV x)=true:=Eq.trans rfl rfl
attribute [simp] stor_eV
theorem sq_addr {b n:Nat}{i:Int}(h:0≤i∧i<n):viaddrS 4 (.sl b 0 n 4) (.int .i64 i)=some (V.ptr b (i.toNat*4)):=by
  rw [viaddrS_in (by omega),Nat.zero_add]
theorem sq_ld {H:Hp}{b:Nat}{l:List EQ}(h:H[b]? = some (rowB l)){i:Nat}(hi:i<l.length){L:Lo}:vload (some 4) L H (V.ptr b (i*4))=some (eV (gE l i)):=by
  have o:OwnT 0 pntC H (.sl b 0 l.length 4) l:=.row (Nat.zero_le _) h
  have:=o.lst.load hi (L:=L)
  rw [show ept 4 (.sl b 0 l.length 4) i=.ptr b (0+i*4) from rfl,Nat.zero_add] at this
  exact this
theorem sq_st {lim:Nat}{H:Hp}{b:Nat}{l:List EQ}(h:H[b]? = some (rowB l))(hlim:lim≤b){i:Nat}(hi:i<l.length){L:Lo}(x:EQ):vstore lim L H (V.ptr b (i*4)) (eV x) 4=some (L,H.set b (rowB (l.set i x))):=by
  have o:OwnT b pntC H (.sl b 0 l.length 4) l:=.row (Nat.le_refl _) h
  have:=o.store (lim:=lim) (i:=i) (j:=0) (x:=eV x) (y:=x) (L:=L) (sz:=4) hlim hi rfl rfl (by omega) (by
    show x.cells=splice (l.getD i default).cells 0 x.cells
    simp [Pnt.cells,splice])
  rw [show eptf 4 (.sl b 0 l.length 4) i 0=.ptr b (0+i*4+0) from rfl,Nat.zero_add,Nat.add_zero] at this
  exact this
structure SqS (b:Nat)(H0:Hp)(l0 l:List EQ)(H:Hp):Prop where
  row:H[b]? = some (rowB l)
  len:H0.length≤H.length
  oth:∀b',b'<H0.length→b'≠b→H[b']? = H0[b']?
  perm:l.Perm l0
  blt:b<H0.length
def CmpQ (b g:Nat)(fs cs:List V)(H0:Hp)(l0:List EQ)(cf:EQ→EQ→Int):Prop :=
  ∀(H:Hp) (lim:Nat) (x y:EQ) (K:V→Hp→Prop),x∈l0→y∈l0→H0.length≤H.length→(∀b',b'<H0.length→b'≠b→H[b']? = H0[b']?)→(∀H',HX H H'→K (.int .i64 (cf x y)) H')→VCall tbl lim g (fs++eV x :: eV y :: cs) H K
section
variable {lim:Nat}{H H0:Hp}{K:V→Hp→Prop}{b g:Nat}{l l0:List EQ}{cf:EQ→EQ→Int}{fs cs:List V}
theorem SqS.n (h:SqS b H0 l0 l H):l.length=l0.length:=h.perm.length_eq
theorem SqS.start (hb:H[b]? = some (rowB l)):SqS b H l l H:=⟨hb,Nat.le_refl _,fun _ _ _=>rfl,.refl _,(List.getElem?_eq_some_iff.1 hb).1⟩
theorem SqS.lt (h:SqS b H0 l0 l H):b<H.length:=(List.getElem?_eq_some_iff.1 h.row).1
theorem SqS.grow {H':Hp}(h:SqS b H0 l0 l H)(x:HX H H'):SqS b H0 l0 l H' :=
  ⟨x.get h.row,Nat.le_trans h.len x.len,fun b' h1 h2=>(x.same (Nat.lt_of_lt_of_le h1 h.len)).trans (h.oth b' h1 h2),h.perm,h.blt⟩
theorem SqS.set {l':List EQ}(h:SqS b H0 l0 l H)(hp:l'.Perm l0):SqS b H0 l0 l' (H.set b (rowB l')) :=
  ⟨by simp [h.lt],by simpa using h.len,fun b' h1 h2=>by rw [List.getElem?_set_ne (fun e=>h2 e.symm)];exact h.oth b' h1 h2,hp,h.blt⟩
theorem SqS.swap (h:SqS b H0 l0 l H){i j:Nat}(hi:i<l.length)(hj:j<l.length):SqS b H0 l0 (swp l i j) (H.set b (rowB (swp l i j))) :=
  h.set ((swp_perm (a:=0) (b:=l.length) ⟨Nat.zero_le _,hi⟩ ⟨Nat.zero_le _,hj⟩ (Nat.le_refl _)).perm.trans h.perm)
theorem SqS.aside (h:SqS b H0 l0 l H){s:Nat}{r:Blk}(hs:H0.length≤s):SqS b H0 l0 l (H.set s r):=by
  have:=h.blt
  exact ⟨by rw [List.getElem?_set_ne (by omega)];exact h.row,by simpa using h.len,fun b' h1 h2=>by rw [List.getElem?_set_ne (by omega)];exact h.oth b' h1 h2,h.perm,h.blt⟩
theorem SqS.mem (h:SqS b H0 l0 l H){i:Nat}(hi:i<l.length):gE l i∈l0:=by
  rw [gE,←h.perm.mem_iff,getD_of hi];exact List.getElem_mem hi
theorem CmpQ.at (hc:CmpQ b g fs cs H0 l0 cf)(hs:SqS b H0 l0 l H){i j:Nat}(hi:i<l.length)(hj:j<l.length){lim:Nat}{K:V→Hp→Prop}(hK:∀H',HX H H'→SqS b H0 l0 l H'→K (.int .i64 (cf (gE l i) (gE l j))) H') :
    VCall tbl lim g (fs++eV (gE l i) :: eV (gE l j) :: cs) H K :=
  hc H lim _ _ K (hs.mem hi) (hs.mem hj) hs.len hs.oth fun H' x=>hK H' x (hs.grow x)
theorem sq_w1 (h:SqS b H0 l0 l H)(hlim:lim≤b){i:Nat}(hi:i<l.length){L:Lo}(x:EQ):vstore lim L H (V.ptr b (i*4)) (eV x) 4=some (L,H.set b (rowB (l.set i x))):=sq_st h.row hlim hi x
theorem sq_w2 (h:SqS b H0 l0 l H)(hlim:lim≤b){i j:Nat}(hj:j<l.length){L:Lo}:vstore lim L (H.set b (rowB (l.set i (gE l j)))) (V.ptr b (j*4)) (eV (gE l i)) 4=some (L,H.set b (rowB (swp l i j))):=by
  rw [sq_st (l:=l.set i (gE l j)) (by simp [h.lt]) hlim (by simpa using hj),List.set_set];rfl
theorem sq_isort (hs:SqS b H0 l0 l H) (hlim:lim≤b) (hst:allStor fs=true∧allStor cs=true∧g≠3999999) (hc:CmpQ b g fs cs H0 l0 cf) (ho:Ordr cf) {a e:Nat} (hae:a≤e∧e≤l0.length) (hl:l0.length≤100000)
    (hK:∀H' l',SqS b H0 l0 l' H'→PermR a e l l'→SortR cf a e l'→K (.tup []) H'):VCall tbl lim 111 [.sl b 0 l0.length 4,.int .i64 a,.int .i64 e,.func (.func g) fs cs] H K:=by
  refine VCall_fn tbl_at111 rfl ?_
  have hn:=hs.n
  simp (disch:=omega) [vf111,wrap_i64]
  refine wLoop_up (e-(a+1)) (fun i fr L H'=>∃l',(fr 0=.sl b 0 l0.length 4∧fr 1=.int .i64 a∧fr 2=.int .i64 e∧fr 3=.func (.func g) fs cs∧fr 8=.int .i64 ((a+1+i:Nat):Int))∧L=[]∧SqS b H0 l0 l' H'∧PermR a e l l'∧SortR cf a (min e (a+1+i)) l') ⟨l,by simp,rfl,hs,PermR.refl,fun p q h1 h2 h3=>by omega⟩ ?_
  rintro i hi fr L H' ⟨l',⟨f0,f1,f2,f3,f8⟩,rfl,hr,hp,hs'⟩
  simp [f0,f1,f2,f3,f8]
  refine cond_dec (fun ht => ?_) fun hfl => ?_
  · have ht:i<e-(a+1):=by omega
    rw [Nat.min_eq_right (by omega)] at hs'
    simp [f8]
    refine wLoop_m (n:=i+1) (fun m fr L H'=>∃l',(fr 0=.sl b 0 l0.length 4∧fr 1=.int .i64 a∧fr 2=.int .i64 e∧fr 3=.func (.func g) fs cs∧fr 8=.int .i64 ((a+1+i:Nat):Int)∧fr 9=.int .i64 ((a+m:Nat):Int))∧L=[]∧SqS b H0 l0 l' H'∧PermR a e l l'∧m≤i+1∧InsR cf a (a+1+i) (a+m) l') ⟨l',by simp [f0,f1,f2,f3,f8];omega,rfl,hr,hp,Nat.le_refl _,by rw [show a+(i+1)=a+1+i by omega];exact InsR.start hs'⟩ ?_
    clear f0 f1 f2 f3 f8 hr hp hs' l'
    rintro m fr L H' ⟨l',⟨f0,f1,f2,f3,f8,f9⟩,rfl,hr,hp,hm,hI⟩
    have hlen:=hp.len
    by_cases hm0:m=0
    · subst hm0
      have hs2:=hI.done ho (by omega) (by omega) (Or.inl rfl)
      simp (disch:=omega) [f0,f1,f2,f3,f8,f9,wrap_i64]
      refine ⟨by omega,by omega,l',hr,hp,?_⟩
      rw [show a+1+(i+1)=a+1+i+1 by omega];exact hs2
    · have e1:((a:Int)+(m:Int)).toNat=a+m:=by omega
      have e2:((a:Int)+(m:Int)-1).toNat=a+m-1:=by omega
      have g1:=fun L=>sq_ld hr.row (i:=a+m) (by omega) (L:=L)
      have g2:=fun L=>sq_ld hr.row (i:=a+m-1) (by omega) (L:=L)
      have hgt:((a:Int)<(a:Int)+(m:Int))=True:=eq_true (by omega)
      simp (disch:=omega) [f0,f1,f2,f3,f8,f9,hgt,wrap_i64,e1,e2,g1,g2,hst,sq_addr,-viaddrS_in,-vload_ptrO]
      refine hc.at hr (i:=a+m) (j:=a+m-1) (by omega) (by omega) fun H2 x2 hr2 => ?_
      have g1:=fun L=>sq_ld hr2.row (i:=a+m) (by omega) (L:=L)
      have g2:=fun L=>sq_ld hr2.row (i:=a+m-1) (by omega) (L:=L)
      simp
      refine cond_dec (fun hlt => ?_) fun hlt => ?_
      · have w1:=fun L=>sq_w1 hr2 hlim (i:=a+m) (by omega) (L:=L) (gE l' (a+m-1))
        have w2:=fun L=>sq_w2 hr2 hlim (i:=a+m) (j:=a+m-1) (by omega) (L:=L)
        have hr4:=hr2.swap (i:=a+m) (j:=a+m-1) (by omega) (by omega)
        have hsw:=InsR.swap ho hI (by omega) (by omega) (by omega) hlt
        have hsw:InsR cf a (a+1+i) (a+(m-1)) (swp l' (a+m) (a+m-1)):=by
          have e3:a+(m-1)=a+m-1:=by omega
          rw [e3];exact hsw
        have hps:=hp.trans (swp_perm (l:=l') (i:=a+m) (j:=a+m-1) (a:=a) (b:=e) ⟨by omega,by omega⟩ ⟨by omega,by omega⟩ (by omega))
        simp (disch:=omega) [f0,f1,f2,f3,f8,f9,wrap_i64,e1,e2,g1,g2,w1,w2,sq_addr,-viaddrS_in,-vstore,-vload_ptrO]
        exact ⟨m-1,by omega,by omega,_,hr4,hps,by omega,hsw⟩
      · have hs2:=hI.done ho (by omega) (by omega) (Or.inr hlt)
        simp (disch:=omega) [f0,f1,f2,f3,f8,f9,wrap_i64]
        refine ⟨by omega,by omega,l',hr2,hp,?_⟩
        rw [show a+1+(i+1)=a+1+i+1 by omega];exact hs2
  · have:e≤a+1+i:=by omega
    rw [Nat.min_eq_left this] at hs'
    simp
    exact hK _ _ hr hp hs'
theorem sq_order2 {s x y:Nat}{w:Int}(hs:SqS b H0 l0 l H)(hlim:lim≤b)(hst:allStor fs=true∧allStor cs=true∧g≠3999999)(hc:CmpQ b g fs cs H0 l0 cf)(hsw:H[s]? = some (.row [.int .i64 w] true))(hs0:H0.length≤s)(hx:x<l0.length)(hy:y<l0.length)
    (hK:∀H' w' x' y',SqS b H0 l0 l H'→H'[s]? = some (.row [.int .i64 w'] true)→((x'=x∧y'=y)∨(x'=y∧y'=x))→K (.tup [.int .i64 (x':Nat),.int .i64 (y':Nat)]) H') :
    VCall tbl lim 129 [.sl b 0 l0.length 4,.int .i64 x,.int .i64 y,.ptr s 0,.func (.func g) fs cs] H K:=by
  refine VCall_fn tbl_at129 rfl ?_
  have hn:=hs.n
  have g1:=fun L=>sq_ld hs.row (i:=x) (by omega) (L:=L)
  have g2:=fun L=>sq_ld hs.row (i:=y) (by omega) (L:=L)
  simp (disch:=omega) [vf129,g1,g2,hst,sq_addr,-viaddrS_in,-vload_ptrO]
  refine hc.at hs (i:=y) (j:=x) (by omega) (by omega) fun H2 x2 hs2 => ?_
  have hsw2:=x2.get hsw
  have hbl:=hs.blt
  simp
  refine cond_dec (fun hlt => ?_) fun hlt => ?_
  · have ld:=fun L=>sw_ld (L:=L) hsw2
    have st:=fun L z=>sw_st (lim:=lim) (L:=L) (z:=z) hsw2 (by omega)
    simp [ld,st,-vstore,-vload_ptrO]
    exact hK _ _ y x (hs2.aside hs0) (by rw [List.getElem?_set_self (List.getElem?_eq_some_iff.1 hsw2).1]) (Or.inr ⟨rfl,rfl⟩)
  · simp
    exact hK _ _ x y hs2 hsw2 (Or.inl ⟨rfl,rfl⟩)
theorem sq_median {s x y z:Nat}{w:Int}(hs:SqS b H0 l0 l H)(hlim:lim≤b)(hst:allStor fs=true∧allStor cs=true∧g≠3999999)(hc:CmpQ b g fs cs H0 l0 cf)(hsw:H[s]? = some (.row [.int .i64 w] true))(hs0:H0.length≤s)(hx:x<l0.length)(hy:y<l0.length)(hz:z<l0.length)
    (hK:∀H' w' r,SqS b H0 l0 l H'→H'[s]? = some (.row [.int .i64 w'] true)→(r=x∨r=y∨r=z)→K (.int .i64 (r:Nat)) H') :
    VCall tbl lim 127 [.sl b 0 l0.length 4,.int .i64 x,.int .i64 y,.int .i64 z,.ptr s 0,.func (.func g) fs cs] H K:=by
  refine VCall_fn tbl_at127 rfl ?_
  simp [vf127,hst]
  refine sq_order2 hs hlim hst hc hsw hs0 hx hy fun H1 w1 x1 y1 hs1 hsw1 h1 => ?_
  simp [hst]
  refine sq_order2 hs1 hlim hst hc hsw1 hs0 (x:=y1) (y:=z) (by omega) hz fun H2 w2 x2 y2 hs2 hsw2 h2 => ?_
  simp [hst]
  refine sq_order2 hs2 hlim hst hc hsw2 hs0 (x:=x1) (y:=x2) (by omega) (by omega) fun H3 w3 x3 y3 hs3 hsw3 h3 => ?_
  simp
  exact hK _ _ _ hs3 hsw3 (by omega)
theorem sq_medianAdj {s x:Nat}{w:Int}(hs:SqS b H0 l0 l H)(hlim:lim≤b)(hst:allStor fs=true∧allStor cs=true∧g≠3999999)(hc:CmpQ b g fs cs H0 l0 cf)(hsw:H[s]? = some (.row [.int .i64 w] true))(hs0:H0.length≤s)(hx:0<x∧x+1<l0.length)(hl:l0.length≤100000)
    (hK:∀H' w' r,SqS b H0 l0 l H'→H'[s]? = some (.row [.int .i64 w'] true)→(x-1≤r∧r≤x+1)→K (.int .i64 (r:Nat)) H') :
    VCall tbl lim 126 [.sl b 0 l0.length 4,.int .i64 x,.ptr s 0,.func (.func g) fs cs] H K:=by
  refine VCall_fn tbl_at126 rfl ?_
  have e1:(x:Int)-1=((x-1:Nat):Int):=by omega
  have e2:(x:Int)+1=((x+1:Nat):Int):=by omega
  simp (disch:=omega) [vf126,hst,wrap_i64]
  rw [e1,e2]
  refine sq_median hs hlim hst hc hsw hs0 (x:=x-1) (y:=x) (z:=x+1) (by omega) (by omega) (by omega) fun H1 w1 r hs1 hsw1 h1 => ?_
  simp
  exact hK _ _ _ hs1 hsw1 (by omega)
theorem sq_reverse (hs:SqS b H0 l0 l H)(hlim:lim≤b){a e:Nat}{f:V}(hae:a<e∧e≤l0.length)(hl:l0.length≤100000)
    (hK:∀H' l',SqS b H0 l0 l' H'→PermR a e l l'→K (.tup []) H'):VCall tbl lim 115 [.sl b 0 l0.length 4,.int .i64 a,.int .i64 e,f] H K:=by
  refine VCall_fn tbl_at115 rfl ?_
  have hn:=hs.n
  simp (disch:=omega) [vf115,wrap_i64]
  refine wLoop_up (e-a) (fun i fr L H'=>∃l',(fr 0=.sl b 0 l0.length 4∧fr 8=.int .i64 ((a+i:Nat):Int)∧fr 9=.int .i64 ((e-1:Nat)-(i:Nat):Int))∧L=[]∧SqS b H0 l0 l' H'∧PermR a e l l') ⟨l,by simp;omega,rfl,hs,PermR.refl⟩ ?_
  rintro i hi fr L H' ⟨l',⟨f0,f8,f9⟩,rfl,hr,hp⟩
  have hlen:=hp.len
  simp [f0,f8,f9]
  refine cond_dec (fun ht => ?_) fun hfl => ?_
  · have e1:((a:Int)+(i:Int)).toNat=a+i:=by omega
    have e2:(((e-1:Nat):Int)-(i:Int)).toNat=e-1-i:=by omega
    have g1:=fun L=>sq_ld hr.row (i:=a+i) (by omega) (L:=L)
    have g2:=fun L=>sq_ld hr.row (i:=e-1-i) (by omega) (L:=L)
    have w1:=fun L=>sq_w1 hr hlim (i:=a+i) (by omega) (L:=L) (gE l' (e-1-i))
    have w2:=fun L=>sq_w2 hr hlim (i:=a+i) (j:=e-1-i) (by omega) (L:=L)
    have hr4:=hr.swap (i:=a+i) (j:=e-1-i) (by omega) (by omega)
    have hps:=hp.trans (swp_perm (l:=l') (i:=a+i) (j:=e-1-i) (a:=a) (b:=e) ⟨by omega,by omega⟩ ⟨by omega,by omega⟩ (by omega))
    simp (disch:=omega) [f0,f8,f9,wrap_i64,e1,e2,g1,g2,w1,w2,sq_addr,-viaddrS_in,-vstore,-vload_ptrO]
    exact ⟨by omega,by omega,_,hr4,hps⟩
  · simp
    exact hK _ _ hr hp
end
end Go.Proofs.Ytclghkegfpcdpaa.Vm
namespace Go.Proofs.Ytclghkegfpcdpaa.Vm
open Go
set_option maxRecDepth 100000
set_option maxHeartbeats 1000000
set_option linter.unusedSimpArgs false
set_option linter.unusedVariables false
attribute [-simp] List.getD_eq_getElem?_getD
section
variable {lim:Nat}{H H0:Hp}{K:V→Hp→Prop}{b g:Nat}{l l0:List EQ}{cf:EQ→EQ→Int}{fs cs:List V}
theorem sq_sift (hs:SqS b H0 l0 l H) (hlim:lim≤b) (hst:allStor fs=true∧allStor cs=true∧g≠3999999) (hc:CmpQ b g fs cs H0 l0 cf) (ho:Ordr cf) {f lo hi:Nat} (hf:f+hi≤l0.length∧lo<hi+1) (hl:l0.length≤100000) (hp:HpR cf f (lo+1) hi l)
    (hK:∀H' l',SqS b H0 l0 l' H'→PermR f (f+hi) l l'→HpR cf f lo hi l'→K (.tup []) H') :
    VCall tbl lim 125 [.sl b 0 l0.length 4,.int .i64 lo,.int .i64 hi,.int .i64 f,.func (.func g) fs cs] H K:=by
  refine VCall_fn tbl_at125 rfl ?_
  have hn:=hs.n
  simp (disch:=omega) [vf125,wrap_i64]
  refine wLoop_m (n:=hi+1-lo) (fun m fr L H'=>∃l' r,(fr 0=.sl b 0 l0.length 4∧fr 2=.int .i64 hi∧fr 3=.int .i64 f∧fr 4=.func (.func g) fs cs∧fr 10=.int .i64 (r:Nat))∧L=[]∧SqS b H0 l0 l' H'∧PermR f (f+hi) l l'∧SfI cf f lo hi r l'∧r≤hi∧m=hi+1-r) ⟨l,lo,by simp,rfl,hs,PermR.refl,SfI.start hp,by omega,rfl⟩ ?_
  rintro m fr L H' ⟨l',r,⟨f0,f2,f3,f4,f10⟩,rfl,hr,hpp,hI,hrh,hm⟩
  have hlen:=hpp.len
  simp (disch:=omega) [f0,f2,f3,f4,f10,wrap_i64]
  refine cond_dec (fun ht => ?_) fun ht => ?_
  · simp
    exact hK _ _ hr hpp (hI.end1 (by omega))
  have h1:2*r+1<hi:=by omega
  have e1:((f:Int)+(2*(r:Int)+1)).toNat=f+(2*r+1):=by omega
  have e2:((f:Int)+(2*(r:Int)+1)+1).toNat=f+(2*r+1+1):=by omega
  have e3:((f:Int)+(r:Int)).toNat=f+r:=by omega
  have e4:((f:Int)+(2*(r:Int)+1+1)).toNat=f+(2*r+1+1):=by omega
  have g1:=fun L=>sq_ld hr.row (i:=f+(2*r+1)) (by omega) (L:=L)
  by_cases h2:2*r+1+1<hi
  · have g2:=fun L=>sq_ld hr.row (i:=f+(2*r+1+1)) (by omega) (L:=L)
    have hgt:(2*(r:Int)+1+1<(hi:Int))=True:=eq_true (by omega)
    simp (disch:=omega) [f0,f2,f3,f4,f10,hgt,wrap_i64,e1,e2,g1,g2,hst,sq_addr,-viaddrS_in,-vload_ptrO]
    refine hc.at hr (i:=f+(2*r+1)) (j:=f+(2*r+1+1)) (by omega) (by omega) fun H2 x2 hr2 => ?_
    simp
    refine cond_dec (fun hlt => ?_) fun hlt => ?_
    · have ch0:=ChR.two ho h2 hlt
      have ch:ChR cf f hi r (2*r+1+1) l':=ch0
      have hcr:=ch.rng
      have g3:=fun L=>sq_ld hr2.row (i:=f+r) (by omega) (L:=L)
      have g4:=fun L=>sq_ld hr2.row (i:=f+(2*r+1+1)) (by omega) (L:=L)
      simp (disch:=omega) [f0,f2,f3,f4,f10,wrap_i64,e1,e2,e3,e4,g3,g4,hst,sq_addr,-viaddrS_in,-vload_ptrO]
      refine hc.at hr2 (i:=f+r) (j:=f+(2*r+1+1)) (by omega) (by omega) fun H3 x3 hr3 => ?_
      simp
      refine cond_ndec (fun hlt => ?_) fun hlt => ?_
      · simp
        exact hK _ _ hr3 hpp (hI.end2 ho ch hlt)
      · have g3:=fun L=>sq_ld hr3.row (i:=f+r) (by omega) (L:=L)
        have g4:=fun L=>sq_ld hr3.row (i:=f+(2*r+1+1)) (by omega) (L:=L)
        have w1:=fun L=>sq_w1 hr3 hlim (i:=f+r) (by omega) (L:=L) (gE l' (f+(2*r+1+1)))
        have w2:=fun L=>sq_w2 hr3 hlim (i:=f+r) (j:=f+(2*r+1+1)) (by omega) (L:=L)
        have hr4:=hr3.swap (i:=f+r) (j:=f+(2*r+1+1)) (by omega) (by omega)
        have hps:=hpp.trans (swp_perm (l:=l') (i:=f+r) (j:=f+(2*r+1+1)) (a:=f) (b:=f+hi) ⟨by omega,by omega⟩ ⟨by omega,by omega⟩ (by omega))
        have hI2:=hI.step ho ch (by omega) hlt
        simp (disch:=omega) [f0,f2,f3,f4,f10,wrap_i64,e1,e2,e3,e4,g3,g4,w1,w2,sq_addr,-viaddrS_in,-vstore,-vload_ptrO]
        exact ⟨hi+1-(2*r+1+1),by omega,_,2*r+1+1,by omega,hr4,hps,hI2,by omega,rfl⟩
    · have ch0:=ChR.one ho (hi:=hi) (l:=l') (f:=f) h1 (fun h=>hlt h.2)
      have ch:ChR cf f hi r (2*r+1) l':=ch0
      have hcr:=ch.rng
      have g3:=fun L=>sq_ld hr2.row (i:=f+r) (by omega) (L:=L)
      have g4:=fun L=>sq_ld hr2.row (i:=f+(2*r+1)) (by omega) (L:=L)
      simp (disch:=omega) [f0,f2,f3,f4,f10,wrap_i64,e1,e2,e3,e4,g3,g4,hst,sq_addr,-viaddrS_in,-vload_ptrO]
      refine hc.at hr2 (i:=f+r) (j:=f+(2*r+1)) (by omega) (by omega) fun H3 x3 hr3 => ?_
      simp
      refine cond_ndec (fun hlt => ?_) fun hlt => ?_
      · simp
        exact hK _ _ hr3 hpp (hI.end2 ho ch hlt)
      · have g3:=fun L=>sq_ld hr3.row (i:=f+r) (by omega) (L:=L)
        have g4:=fun L=>sq_ld hr3.row (i:=f+(2*r+1)) (by omega) (L:=L)
        have w1:=fun L=>sq_w1 hr3 hlim (i:=f+r) (by omega) (L:=L) (gE l' (f+(2*r+1)))
        have w2:=fun L=>sq_w2 hr3 hlim (i:=f+r) (j:=f+(2*r+1)) (by omega) (L:=L)
        have hr4:=hr3.swap (i:=f+r) (j:=f+(2*r+1)) (by omega) (by omega)
        have hps:=hpp.trans (swp_perm (l:=l') (i:=f+r) (j:=f+(2*r+1)) (a:=f) (b:=f+hi) ⟨by omega,by omega⟩ ⟨by omega,by omega⟩ (by omega))
        have hI2:=hI.step ho ch (by omega) hlt
        simp (disch:=omega) [f0,f2,f3,f4,f10,wrap_i64,e1,e2,e3,e4,g3,g4,w1,w2,sq_addr,-viaddrS_in,-vstore,-vload_ptrO]
        exact ⟨hi+1-(2*r+1),by omega,_,2*r+1,by omega,hr4,hps,hI2,by omega,rfl⟩
  · have ch0:=ChR.one ho (hi:=hi) (l:=l') (f:=f) h1 (fun h=>h2 h.1)
    have hgd:decide (2*(r:Int)+1+1<(hi:Int))=false:=decide_eq_false (by omega)
    simp (disch:=omega) [f0,f2,f3,f4,f10,hgd,wrap_i64,-viaddrS_in]
    have ch:ChR cf f hi r (2*r+1) l':=ch0
    have hcr:=ch.rng
    have g3:=fun L=>sq_ld hr.row (i:=f+r) (by omega) (L:=L)
    have g4:=fun L=>sq_ld hr.row (i:=f+(2*r+1)) (by omega) (L:=L)
    simp (disch:=omega) [f0,f2,f3,f4,f10,wrap_i64,e1,e2,e3,e4,g3,g4,hst,sq_addr,-viaddrS_in,-vload_ptrO]
    refine hc.at hr (i:=f+r) (j:=f+(2*r+1)) (by omega) (by omega) fun H3 x3 hr3 => ?_
    simp
    refine cond_ndec (fun hlt => ?_) fun hlt => ?_
    · simp
      exact hK _ _ hr3 hpp (hI.end2 ho ch hlt)
    · have g3:=fun L=>sq_ld hr3.row (i:=f+r) (by omega) (L:=L)
      have g4:=fun L=>sq_ld hr3.row (i:=f+(2*r+1)) (by omega) (L:=L)
      have w1:=fun L=>sq_w1 hr3 hlim (i:=f+r) (by omega) (L:=L) (gE l' (f+(2*r+1)))
      have w2:=fun L=>sq_w2 hr3 hlim (i:=f+r) (j:=f+(2*r+1)) (by omega) (L:=L)
      have hr4:=hr3.swap (i:=f+r) (j:=f+(2*r+1)) (by omega) (by omega)
      have hps:=hpp.trans (swp_perm (l:=l') (i:=f+r) (j:=f+(2*r+1)) (a:=f) (b:=f+hi) ⟨by omega,by omega⟩ ⟨by omega,by omega⟩ (by omega))
      have hI2:=hI.step ho ch (by omega) hlt
      simp (disch:=omega) [f0,f2,f3,f4,f10,wrap_i64,e1,e2,e3,e4,g3,g4,w1,w2,sq_addr,-viaddrS_in,-vstore,-vload_ptrO]
      exact ⟨hi+1-(2*r+1),by omega,_,2*r+1,by omega,hr4,hps,hI2,by omega,rfl⟩
theorem sq_heap (hs:SqS b H0 l0 l H)(hlim:lim≤b)(hst:allStor fs=true∧allStor cs=true∧g≠3999999)(hc:CmpQ b g fs cs H0 l0 cf)(ho:Ordr cf){a e:Nat}(hae:a<e∧e≤l0.length)(hl:l0.length≤100000)
    (hK:∀H' l',SqS b H0 l0 l' H'→PermR a e l l'→SortR cf a e l'→K (.tup []) H'):VCall tbl lim 112 [.sl b 0 l0.length 4,.int .i64 a,.int .i64 e,.func (.func g) fs cs] H K:=by
  refine VCall_fn tbl_at112 rfl ?_
  have hn:=hs.n
  obtain ⟨d,rfl⟩:∃d,e=a+d:=⟨e-a,by omega⟩
  have ed:((a+d:Nat):Int)-(a:Int)=(d:Int):=by omega
  have e0:(a:Int)+(d:Int)-(a:Int)=(d:Int):=by omega
  have eq2:((d:Int)-1).tdiv 2=(((d-1) / 2:Nat):Int):=by
    have:(d:Int)-1=((d-1:Nat):Int):=by omega
    rw [this];exact tdiv_nat _ 2
  simp (disch:=omega) [vf112,wrap_i64,ed,e0,eq2]
  refine wLoop_post 0 (fun fr L H'=>∃l',(fr 0=.sl b 0 l0.length 4∧fr 3=.func (.func g) fs cs∧fr 8=.int .i64 a∧fr 9=.int .i64 0∧fr 10=.int .i64 d)∧L=[]∧SqS b H0 l0 l' H'∧PermR a (a+d) l l'∧HpR cf a 0 d l') ?_ ?_
  · refine wLoop_m (n:=(d-1) / 2+1) (fun m fr L H'=>∃l',(fr 0=.sl b 0 l0.length 4∧fr 3=.func (.func g) fs cs∧fr 8=.int .i64 a∧fr 9=.int .i64 0∧fr 10=.int .i64 d∧fr 11=.int .i64 ((m:Nat)-1:Int))∧L=[]∧SqS b H0 l0 l' H'∧PermR a (a+d) l l'∧HpR cf a m d l'∧m≤(d-1) / 2+1) ⟨l,by simp,rfl,hs,PermR.refl,HpR.none,Nat.le_refl _⟩ ?_
    rintro m fr L H' ⟨l',⟨f0,f3,f8,f9,f10,f11⟩,rfl,hr,hp,hH,hm⟩
    have hlen:=hp.len
    simp [f0,f3,f8,f9,f10,f11]
    refine cond_dec (fun ht => ?_) fun ht => ?_
    · obtain ⟨k,rfl⟩:∃k,m=k+1:=⟨m-1,by omega⟩
      have e1:((k+1:Nat):Int)-1=(k:Int):=by omega
      have e2:(k:Int)+1-1=(k:Int):=by omega
      simp [f0,f3,f8,f9,f10,f11,e1,e2,hst]
      refine sq_sift hr hlim hst hc ho (f:=a) (lo:=k) (hi:=d) (by omega) hl hH fun H2 l2 hr2 hp2 hH2 => ?_
      simp (disch:=omega) [f0,f3,f8,f9,f10,f11,e1,e2,wrap_i64]
      exact ⟨k,by omega,by omega,l2,hr2,hp.trans hp2,hH2,by omega⟩
    · have:m=0:=by omega
      subst this
      simp [f0,f3,f8,f9,f10]
      exact ⟨l',hr,hp,hH⟩
  rintro fr L H' ⟨l',⟨f0,f3,f8,f9,f10⟩,rfl,hr,hp,hH⟩
  simp (disch:=omega) [f0,f3,f8,f9,f10,wrap_i64]
  refine wLoop_m (n:=d) (fun m fr L H'=>∃l',(fr 0=.sl b 0 l0.length 4∧fr 3=.func (.func g) fs cs∧fr 8=.int .i64 a∧fr 9=.int .i64 0∧fr 10=.int .i64 d∧fr 12=.int .i64 ((m:Nat)-1:Int))∧L=[]∧SqS b H0 l0 l' H'∧PermR a (a+d) l l'∧HpR cf a 0 m l'∧OutR cf a (a+d) a (a+m) l'∧m≤d) ⟨l',by simp [f0,f3,f8,f9,f10],rfl,hr,hp,hH,OutR.start (by omega),Nat.le_refl _⟩ ?_
  clear f0 f3 f8 f9 f10 hr hp hH l'
  rintro m fr L H' ⟨l',⟨f0,f3,f8,f9,f10,f12⟩,rfl,hr,hp,hH,hO,hm⟩
  have hlen:=hp.len
  simp [f0,f3,f8,f9,f10,f12]
  refine cond_dec (fun ht => ?_) fun ht => ?_
  · obtain ⟨k,rfl⟩:∃k,m=k+1:=⟨m-1,by omega⟩
    have e1:((k+1:Nat):Int)-1=(k:Int):=by omega
    have e2:(k:Int)+1-1=(k:Int):=by omega
    have e3:((a:Int)+(k:Int)).toNat=a+k:=by omega
    have g1:=fun L=>sq_ld hr.row (i:=a) (by omega) (L:=L)
    have g2:=fun L=>sq_ld hr.row (i:=a+k) (by omega) (L:=L)
    have w1:=fun L=>sq_w1 hr hlim (i:=a) (by omega) (L:=L) (gE l' (a+k))
    have w2:=fun L=>sq_w2 hr hlim (i:=a) (j:=a+k) (by omega) (L:=L)
    have hr4:=hr.swap (i:=a) (j:=a+k) (by omega) (by omega)
    have hps:=hp.trans (swp_perm (l:=l') (i:=a) (j:=a+k) (a:=a) (b:=a+d) ⟨by omega,by omega⟩ ⟨by omega,by omega⟩ (by omega))
    obtain ⟨hH1,hO1⟩:=hH.pop ho hO (by omega)
    simp (disch:=omega) [f0,f3,f8,f9,f10,f12,e1,e2,e3,wrap_i64,g1,g2,w1,w2,hst,sq_addr,-viaddrS_in,-vstore,-vload_ptrO]
    refine sq_sift hr4 hlim hst hc ho (f:=a) (lo:=0) (hi:=k) (by omega) hl hH1 fun H2 l2 hr2 hp2 hH2 => ?_
    simp (disch:=omega) [f0,f3,f8,f9,f10,f12,e1,e2,wrap_i64]
    exact ⟨k,by omega,by omega,l2,hr2,hps.trans (hp2.wide (Nat.le_refl _) (by omega)),hH2,hO1.perm hp2 (by rw [swp_len];omega),by omega⟩
  · have:m=0:=by omega
    subst this
    simp
    exact hK _ _ hr hp (hO.sort fun p q h1 h2 h3=>by omega)
theorem sq_part (hs:SqS b H0 l0 l H) (hlim:lim≤b) (hst:allStor fs=true∧allStor cs=true∧g≠3999999) (hc:CmpQ b g fs cs H0 l0 cf) (ho:Ordr cf) {a e v:Nat} (hae:a≤v∧v<e∧e≤l0.length) (hl:l0.length≤100000)
    (hK:∀H' l' m ok,SqS b H0 l0 l' H'→PermR a e l l'→PartR cf a e m l'→K (.tup [.int .i64 (m:Nat),.bool ok]) H'):VCall tbl lim 118 [.sl b 0 l0.length 4,.int .i64 a,.int .i64 e,.int .i64 v,.func (.func g) fs cs] H K:=by
  refine VCall_fn tbl_at118 rfl ?_
  have hn:=hs.n
  have g1:=fun L=>sq_ld hs.row (i:=a) (by omega) (L:=L)
  have g2:=fun L=>sq_ld hs.row (i:=v) (by omega) (L:=L)
  have w1:=fun L=>sq_w1 hs hlim (i:=a) (by omega) (L:=L) (gE l v)
  have w2:=fun L=>sq_w2 hs hlim (i:=a) (j:=v) (by omega) (L:=L)
  have hs1:=hs.swap (i:=a) (j:=v) (by omega) (by omega)
  have hp1:PermR a e l (swp l a v):=swp_perm ⟨by omega,by omega⟩ ⟨by omega,by omega⟩ (by omega)
  have e0:(e:Int)-1=((e-1:Nat):Int):=by omega
  simp (disch:=omega) [vf118,wrap_i64,g1,g2,w1,w2,hst,sq_addr,e0,-viaddrS_in,-vstore,-vload_ptrO]
  refine wLoop_post 0 (fun fr L H'=>∃l' i j,(fr 0=.sl b 0 l0.length 4∧fr 1=.int .i64 a∧fr 4=.func (.func g) fs cs∧fr 12=.int .i64 (i:Nat)∧fr 13=.int .i64 (j:Nat))∧L=[]∧SqS b H0 l0 l' H'∧PermR a e l l'∧PtI cf a e i j l'∧j+1-i≤(e-a)∧(i≤j→¬cf (gE l' i) (gE l' a)<0)) ?_ ?_
  · refine wLoop_m (n:=(e-a)) (fun m fr L H'=>∃l' i j,(fr 0=.sl b 0 l0.length 4∧fr 1=.int .i64 a∧fr 4=.func (.func g) fs cs∧fr 12=.int .i64 (i:Nat)∧fr 13=.int .i64 (j:Nat))∧L=[]∧SqS b H0 l0 l' H'∧PermR a e l l'∧PtI cf a e i j l'∧j+1-i≤m∧m≤(e-a)) ⟨swp l a v,a+1,e-1,by simp,rfl,hs1,hp1,PtI.start (by omega),by omega,Nat.le_refl _⟩ ?_
    rintro m fr L H' ⟨l',i,j,⟨f0,f1,f4,f12,f13⟩,rfl,hr,hp,hI,hm,hm2⟩
    have hrg:=hI.rng
    have hlen:=hp.len
    by_cases hij:i≤j
    · have hgt:((i:Int)≤(j:Int))=True:=eq_true (by omega)
      have g1:=fun L=>sq_ld hr.row (i:=i) (by omega) (L:=L)
      have g2:=fun L=>sq_ld hr.row (i:=a) (by omega) (L:=L)
      simp (disch:=omega) [f0,f1,f4,f12,f13,hgt,wrap_i64,g1,g2,hst,sq_addr,-viaddrS_in,-vload_ptrO]
      refine hc.at hr (i:=i) (j:=a) (by omega) (by omega) fun H2 x2 hr2 => ?_
      simp
      refine cond_dec (fun hlt => ?_) fun hlt => ?_
      · simp (disch:=omega) [f0,f1,f4,f12,f13,wrap_i64]
        exact ⟨m-1,by omega,l',i+1,j,by omega,hr2,hp,hI.up hij hlt,by omega,by omega⟩
      · simp [f0,f1,f4,f12,f13]
        exact ⟨l',i,j,by omega,hr2,hp,hI,by omega,fun _=>by omega⟩
    · have hgt:((i:Int)≤(j:Int))=False:=eq_false (by omega)
      simp (disch:=omega) [f0,f1,f4,f12,f13,hgt]
      exact ⟨l',i,j,by omega,hr,hp,hI,by omega,fun h=>absurd h hij⟩
  rintro fr L H' ⟨l',i,j,⟨f0,f1,f4,f12,f13⟩,rfl,hr,hp,hI,hm,hup⟩
  simp [f0,f1,f4,f12,f13]
  refine wLoop_post 2 (fun fr L H'=>∃l' i j,(fr 0=.sl b 0 l0.length 4∧fr 1=.int .i64 a∧fr 4=.func (.func g) fs cs∧fr 12=.int .i64 (i:Nat)∧fr 13=.int .i64 (j:Nat))∧L=[]∧SqS b H0 l0 l' H'∧PermR a e l l'∧PtI cf a e i j l'∧j+1-i≤(e-a)∧(i≤j→¬cf (gE l' i) (gE l' a)<0)∧(i≤j→cf (gE l' j) (gE l' a)<0)) ?_ ?_
  · refine wLoop_m (n:=(e-a)) (fun m fr L H'=>∃l' i j,(fr 0=.sl b 0 l0.length 4∧fr 1=.int .i64 a∧fr 4=.func (.func g) fs cs∧fr 12=.int .i64 (i:Nat)∧fr 13=.int .i64 (j:Nat))∧L=[]∧SqS b H0 l0 l' H'∧PermR a e l l'∧PtI cf a e i j l'∧(i≤j→¬cf (gE l' i) (gE l' a)<0)∧j+1-i≤m∧m≤(e-a)) ⟨l',i,j,by simp [f0,f1,f4,f12,f13],rfl,hr,hp,hI,hup,hm,Nat.le_refl _⟩ ?_
    clear f0 f1 f4 f12 f13 hr hp hI hup hm l' i j
    rintro m fr L H' ⟨l',i,j,⟨f0,f1,f4,f12,f13⟩,rfl,hr,hp,hI,hup,hm,hm2⟩
    have hrg:=hI.rng
    have hlen:=hp.len
    by_cases hij:i≤j
    · have hgt:((i:Int)≤(j:Int))=True:=eq_true (by omega)
      have g1:=fun L=>sq_ld hr.row (i:=j) (by omega) (L:=L)
      have g2:=fun L=>sq_ld hr.row (i:=a) (by omega) (L:=L)
      simp (disch:=omega) [f0,f1,f4,f12,f13,hgt,wrap_i64,g1,g2,hst,sq_addr,-viaddrS_in,-vload_ptrO]
      refine hc.at hr (i:=j) (j:=a) (by omega) (by omega) fun H2 x2 hr2 => ?_
      simp
      refine cond_ndec (fun hlt => ?_) fun hlt => ?_
      · have e1:(j:Int)-1=((j-1:Nat):Int):=by omega
        simp (disch:=omega) [f0,f1,f4,f12,f13,wrap_i64,e1]
        exact ⟨m-1,by omega,l',i,j-1,by omega,hr2,hp,hI.down hij hlt,fun h=>by have:=hup (by omega);omega,by omega,by omega⟩
      · simp [f0,f1,f4,f12,f13]
        exact ⟨l',i,j,by omega,hr2,hp,hI,by omega,fun h=>by have:=hup h;omega,fun _=>by omega⟩
    · have hgt:((i:Int)≤(j:Int))=False:=eq_false (by omega)
      simp (disch:=omega) [f0,f1,f4,f12,f13,hgt]
      exact ⟨l',i,j,by omega,hr,hp,hI,by omega,fun h=>absurd h hij,fun h=>absurd h hij⟩
  clear f0 f1 f4 f12 f13 hr hp hI hup hm l' i j
  rintro fr L H' ⟨l',i,j,⟨f0,f1,f4,f12,f13⟩,rfl,hr,hp,hI,hm,hup,hdn⟩
  have hrg:=hI.rng
  have hlen:=hp.len
  by_cases hij:i≤j
  · have hgt:((j:Int)<(i:Int))=False:=eq_false (by omega)
    have hi0:=hup hij
    have hj0:=hdn hij
    have g1:=fun L=>sq_ld hr.row (i:=i) (by omega) (L:=L)
    have g2:=fun L=>sq_ld hr.row (i:=j) (by omega) (L:=L)
    have w1:=fun L=>sq_w1 hr hlim (i:=i) (by omega) (L:=L) (gE l' j)
    have w2:=fun L=>sq_w2 hr hlim (i:=i) (j:=j) (by omega) (L:=L)
    have hr4:=hr.swap (i:=i) (j:=j) (by omega) (by omega)
    have hps:=hp.trans (swp_perm (l:=l') (i:=i) (j:=j) (a:=a) (b:=e) ⟨by omega,by omega⟩ ⟨by omega,by omega⟩ (by omega))
    have hI2:=hI.swap ho hij (by omega) hi0 hj0
    have hrg2:=hI2.rng
    have e1:(j:Int)-1=((j-1:Nat):Int):=by omega
    simp (disch:=omega) [f0,f1,f4,f12,f13,hgt,e1,wrap_i64,g1,g2,w1,w2,hst,sq_addr,-viaddrS_in,-vstore,-vload_ptrO]
    refine wLoop_m (n:=(e-a)) (fun m fr L H'=>∃l' i j,(fr 0=.sl b 0 l0.length 4∧fr 1=.int .i64 a∧fr 4=.func (.func g) fs cs∧fr 12=.int .i64 (i:Nat)∧fr 13=.int .i64 (j:Nat))∧L=[]∧SqS b H0 l0 l' H'∧PermR a e l l'∧PtI cf a e i j l'∧j+1-i≤m∧m≤(e-a)) ⟨swp l' i j,i+1,j-1,by simp [f0,f1,f4,f12,f13],rfl,hr4,hps,hI2,by omega,Nat.le_refl _⟩ ?_
    clear f0 f1 f4 f12 f13 hr hp hI hup hdn hm hrg hlen hij hgt hi0 hj0 g1 g2 w1 w2 hr4 hps hI2 hrg2 e1 l' i j
    rintro n fr L H' ⟨l',i,j,⟨f0,f1,f4,f12,f13⟩,rfl,hr,hp,hI,hm,hn2⟩
    simp [f0,f1,f4,f12,f13]
    refine wLoop_post 6 (fun fr L H'=>∃l' i j,(fr 0=.sl b 0 l0.length 4∧fr 1=.int .i64 a∧fr 4=.func (.func g) fs cs∧fr 12=.int .i64 (i:Nat)∧fr 13=.int .i64 (j:Nat))∧L=[]∧SqS b H0 l0 l' H'∧PermR a e l l'∧PtI cf a e i j l'∧j+1-i≤n∧(i≤j→¬cf (gE l' i) (gE l' a)<0)) ?_ ?_
    · refine wLoop_m (n:=n) (fun m fr L H'=>∃l' i j,(fr 0=.sl b 0 l0.length 4∧fr 1=.int .i64 a∧fr 4=.func (.func g) fs cs∧fr 12=.int .i64 (i:Nat)∧fr 13=.int .i64 (j:Nat))∧L=[]∧SqS b H0 l0 l' H'∧PermR a e l l'∧PtI cf a e i j l'∧j+1-i≤m∧m≤n) ⟨l',i,j,by simp [f0,f1,f4,f12,f13],rfl,hr,hp,hI,hm,Nat.le_refl _⟩ ?_
      clear f0 f1 f4 f12 f13 hr hp hI hm l' i j
      rintro m fr L H' ⟨l',i,j,⟨f0,f1,f4,f12,f13⟩,rfl,hr,hp,hI,hm,hm2⟩
      have hrg:=hI.rng
      have hlen:=hp.len
      by_cases hij:i≤j
      · have hgt:((i:Int)≤(j:Int))=True:=eq_true (by omega)
        have g1:=fun L=>sq_ld hr.row (i:=i) (by omega) (L:=L)
        have g2:=fun L=>sq_ld hr.row (i:=a) (by omega) (L:=L)
        simp (disch:=omega) [f0,f1,f4,f12,f13,hgt,wrap_i64,g1,g2,hst,sq_addr,-viaddrS_in,-vload_ptrO]
        refine hc.at hr (i:=i) (j:=a) (by omega) (by omega) fun H2 x2 hr2 => ?_
        simp
        refine cond_dec (fun hlt => ?_) fun hlt => ?_
        · simp (disch:=omega) [f0,f1,f4,f12,f13,wrap_i64]
          exact ⟨m-1,by omega,l',i+1,j,by omega,hr2,hp,hI.up hij hlt,by omega,by omega⟩
        · simp [f0,f1,f4,f12,f13]
          exact ⟨l',i,j,by omega,hr2,hp,hI,by omega,fun _=>by omega⟩
      · have hgt:((i:Int)≤(j:Int))=False:=eq_false (by omega)
        simp (disch:=omega) [f0,f1,f4,f12,f13,hgt]
        exact ⟨l',i,j,by omega,hr,hp,hI,by omega,fun h=>absurd h hij⟩
    clear f0 f1 f4 f12 f13 hr hp hI hm l' i j
    rintro fr L H' ⟨l',i,j,⟨f0,f1,f4,f12,f13⟩,rfl,hr,hp,hI,hm,hup⟩
    simp [f0,f1,f4,f12,f13]
    refine wLoop_post 8 (fun fr L H'=>∃l' i j,(fr 0=.sl b 0 l0.length 4∧fr 1=.int .i64 a∧fr 4=.func (.func g) fs cs∧fr 12=.int .i64 (i:Nat)∧fr 13=.int .i64 (j:Nat))∧L=[]∧SqS b H0 l0 l' H'∧PermR a e l l'∧PtI cf a e i j l'∧j+1-i≤n∧(i≤j→¬cf (gE l' i) (gE l' a)<0)∧(i≤j→cf (gE l' j) (gE l' a)<0)) ?_ ?_
    · refine wLoop_m (n:=n) (fun m fr L H'=>∃l' i j,(fr 0=.sl b 0 l0.length 4∧fr 1=.int .i64 a∧fr 4=.func (.func g) fs cs∧fr 12=.int .i64 (i:Nat)∧fr 13=.int .i64 (j:Nat))∧L=[]∧SqS b H0 l0 l' H'∧PermR a e l l'∧PtI cf a e i j l'∧(i≤j→¬cf (gE l' i) (gE l' a)<0)∧j+1-i≤m∧m≤n) ⟨l',i,j,by simp [f0,f1,f4,f12,f13],rfl,hr,hp,hI,hup,hm,Nat.le_refl _⟩ ?_
      clear f0 f1 f4 f12 f13 hr hp hI hup hm l' i j
      rintro m fr L H' ⟨l',i,j,⟨f0,f1,f4,f12,f13⟩,rfl,hr,hp,hI,hup,hm,hm2⟩
      have hrg:=hI.rng
      have hlen:=hp.len
      by_cases hij:i≤j
      · have hgt:((i:Int)≤(j:Int))=True:=eq_true (by omega)
        have g1:=fun L=>sq_ld hr.row (i:=j) (by omega) (L:=L)
        have g2:=fun L=>sq_ld hr.row (i:=a) (by omega) (L:=L)
        simp (disch:=omega) [f0,f1,f4,f12,f13,hgt,wrap_i64,g1,g2,hst,sq_addr,-viaddrS_in,-vload_ptrO]
        refine hc.at hr (i:=j) (j:=a) (by omega) (by omega) fun H2 x2 hr2 => ?_
        simp
        refine cond_ndec (fun hlt => ?_) fun hlt => ?_
        · have e1:(j:Int)-1=((j-1:Nat):Int):=by omega
          simp (disch:=omega) [f0,f1,f4,f12,f13,wrap_i64,e1]
          exact ⟨m-1,by omega,l',i,j-1,by omega,hr2,hp,hI.down hij hlt,fun h=>by have:=hup (by omega);omega,by omega,by omega⟩
        · simp [f0,f1,f4,f12,f13]
          exact ⟨l',i,j,by omega,hr2,hp,hI,by omega,fun h=>by have:=hup h;omega,fun _=>by omega⟩
      · have hgt:((i:Int)≤(j:Int))=False:=eq_false (by omega)
        simp (disch:=omega) [f0,f1,f4,f12,f13,hgt]
        exact ⟨l',i,j,by omega,hr,hp,hI,by omega,fun h=>absurd h hij,fun h=>absurd h hij⟩
    clear f0 f1 f4 f12 f13 hr hp hI hup hm l' i j
    rintro fr L H' ⟨l',i,j,⟨f0,f1,f4,f12,f13⟩,rfl,hr,hp,hI,hm,hup,hdn⟩
    have hrg:=hI.rng
    have hlen:=hp.len
    by_cases hij:i≤j
    · have hgt:((j:Int)<(i:Int))=False:=eq_false (by omega)
      have hi0:=hup hij
      have hj0:=hdn hij
      have g1:=fun L=>sq_ld hr.row (i:=i) (by omega) (L:=L)
      have g2:=fun L=>sq_ld hr.row (i:=j) (by omega) (L:=L)
      have w1:=fun L=>sq_w1 hr hlim (i:=i) (by omega) (L:=L) (gE l' j)
      have w2:=fun L=>sq_w2 hr hlim (i:=i) (j:=j) (by omega) (L:=L)
      have hr4:=hr.swap (i:=i) (j:=j) (by omega) (by omega)
      have hps:=hp.trans (swp_perm (l:=l') (i:=i) (j:=j) (a:=a) (b:=e) ⟨by omega,by omega⟩ ⟨by omega,by omega⟩ (by omega))
      have hI2:=hI.swap ho hij (by omega) hi0 hj0
      have hrg2:=hI2.rng
      have e1:(j:Int)-1=((j-1:Nat):Int):=by omega
      simp (disch:=omega) [f0,f1,f4,f12,f13,hgt,e1,wrap_i64,g1,g2,w1,w2,hst,sq_addr,-viaddrS_in,-vstore,-vload_ptrO]
      exact ⟨n-1,by omega,_,i+1,j-1,by omega,hr4,hps,hI2,by omega,by omega⟩
    · have hgt:((j:Int)<(i:Int))=True:=eq_true (by omega)
      have hij2:¬i≤j:=hij
      have g1:=fun L=>sq_ld hr.row (i:=j) (by omega) (L:=L)
      have g2:=fun L=>sq_ld hr.row (i:=a) (by omega) (L:=L)
      have w1:=fun L=>sq_w1 hr hlim (i:=j) (by omega) (L:=L) (gE l' a)
      have w2:=fun L=>sq_w2 hr hlim (i:=j) (j:=a) (by omega) (L:=L)
      have hr4:=hr.swap (i:=j) (j:=a) (by omega) (by omega)
      have hps:=hp.trans (swp_perm (l:=l') (i:=j) (j:=a) (a:=a) (b:=e) ⟨by omega,by omega⟩ ⟨by omega,by omega⟩ (by omega))
      simp (disch:=omega) [f0,f1,f4,f12,f13,hgt,wrap_i64,g1,g2,w1,w2,hst,sq_addr,-viaddrS_in,-vstore,-vload_ptrO]
      exact hK _ _ j false hr4 hps (hI.done ho hij2 (by omega))
  · have hgt:((j:Int)<(i:Int))=True:=eq_true (by omega)
    have hij2:¬i≤j:=hij
    have g1:=fun L=>sq_ld hr.row (i:=j) (by omega) (L:=L)
    have g2:=fun L=>sq_ld hr.row (i:=a) (by omega) (L:=L)
    have w1:=fun L=>sq_w1 hr hlim (i:=j) (by omega) (L:=L) (gE l' a)
    have w2:=fun L=>sq_w2 hr hlim (i:=j) (j:=a) (by omega) (L:=L)
    have hr4:=hr.swap (i:=j) (j:=a) (by omega) (by omega)
    have hps:=hp.trans (swp_perm (l:=l') (i:=j) (j:=a) (a:=a) (b:=e) ⟨by omega,by omega⟩ ⟨by omega,by omega⟩ (by omega))
    simp (disch:=omega) [f0,f1,f4,f12,f13,hgt,wrap_i64,g1,g2,w1,w2,hst,sq_addr,-viaddrS_in,-vstore,-vload_ptrO]
    exact hK _ _ j true hr4 hps (hI.done ho hij2 (by omega))
end
end Go.Proofs.Ytclghkegfpcdpaa.Vm
namespace Go.Proofs.Ytclghkegfpcdpaa.Vm
open Go
set_option maxRecDepth 100000
set_option maxHeartbeats 1000000
set_option linter.unusedSimpArgs false
set_option linter.unusedVariables false
attribute [-simp] List.getD_eq_getElem?_getD
section
variable {T:Tbl}{lim:Nat}
end
section
variable {lim:Nat}{H H0:Hp}{K:V→Hp→Prop}{b g:Nat}{l l0:List EQ}{cf:EQ→EQ→Int}{fs cs:List V}
theorem sq_partEq (hs:SqS b H0 l0 l H) (hlim:lim≤b) (hst:allStor fs=true∧allStor cs=true∧g≠3999999) (hc:CmpQ b g fs cs H0 l0 cf) (ho:Ordr cf) {a e v:Nat} (hae:a≤v∧v<e∧e≤l0.length) (hl:l0.length≤100000)
    (hmin:∀k,a≤k→k<e→leC cf (l.getD v default) (l.getD k default))
    (hK:∀H' l' m,SqS b H0 l0 l' H'→PermR a e l l'→(a<m∧m≤e)→(∀p q,a≤p→p<m→p<q→q<e→leC cf (l'.getD p default) (l'.getD q default))→K (.int .i64 (m:Nat)) H'):VCall tbl lim 117 [.sl b 0 l0.length 4,.int .i64 a,.int .i64 e,.int .i64 v,.func (.func g) fs cs] H K:=by
  refine VCall_fn tbl_at117 rfl ?_
  have hn:=hs.n
  have g1:=fun L=>sq_ld hs.row (i:=a) (by omega) (L:=L)
  have g2:=fun L=>sq_ld hs.row (i:=v) (by omega) (L:=L)
  have w1:=fun L=>sq_w1 hs hlim (i:=a) (by omega) (L:=L) (gE l v)
  have w2:=fun L=>sq_w2 hs hlim (i:=a) (j:=v) (by omega) (L:=L)
  have hs1:=hs.swap (i:=a) (j:=v) (by omega) (by omega)
  have hp1:PermR a e l (swp l a v):=swp_perm ⟨by omega,by omega⟩ ⟨by omega,by omega⟩ (by omega)
  have e0:(e:Int)-1=((e-1:Nat):Int):=by omega
  have hm1:=least_swp (cf:=cf) (l:=l) (a:=a) (b:=e) (v:=v) (by omega) (by omega) hmin
  simp (disch:=omega) [vf117,wrap_i64,g1,g2,w1,w2,hst,sq_addr,e0,-viaddrS_in,-vstore,-vload_ptrO]
  refine wLoop_m (n:=(e-a)) (fun m fr L H'=>∃l' i j,(fr 0=.sl b 0 l0.length 4∧fr 1=.int .i64 a∧fr 4=.func (.func g) fs cs∧fr 11=.int .i64 (i:Nat)∧fr 12=.int .i64 (j:Nat))∧L=[]∧SqS b H0 l0 l' H'∧PermR a e l l'∧PeI cf a e i j l'∧j+1-i≤m∧m≤(e-a)) ⟨swp l a v,a+1,e-1,by simp,rfl,hs1,hp1,PeI.start (by omega) hm1,by omega,Nat.le_refl _⟩ ?_
  rintro n fr L H' ⟨l',i,j,⟨f0,f1,f4,f11,f12⟩,rfl,hr,hp,hI,hm,hn2⟩
  simp [f0,f1,f4,f11,f12]
  refine wLoop_post 2 (fun fr L H'=>∃l' i j,(fr 0=.sl b 0 l0.length 4∧fr 1=.int .i64 a∧fr 4=.func (.func g) fs cs∧fr 11=.int .i64 (i:Nat)∧fr 12=.int .i64 (j:Nat))∧L=[]∧SqS b H0 l0 l' H'∧PermR a e l l'∧PeI cf a e i j l'∧j+1-i≤n∧(i≤j→cf (gE l' a) (gE l' i)<0)) ?_ ?_
  · refine wLoop_m (n:=n) (fun m fr L H'=>∃l' i j,(fr 0=.sl b 0 l0.length 4∧fr 1=.int .i64 a∧fr 4=.func (.func g) fs cs∧fr 11=.int .i64 (i:Nat)∧fr 12=.int .i64 (j:Nat))∧L=[]∧SqS b H0 l0 l' H'∧PermR a e l l'∧PeI cf a e i j l'∧j+1-i≤m∧m≤n) ⟨l',i,j,by simp [f0,f1,f4,f11,f12],rfl,hr,hp,hI,hm,Nat.le_refl _⟩ ?_
    clear f0 f1 f4 f11 f12 hr hp hI hm l' i j
    rintro m fr L H' ⟨l',i,j,⟨f0,f1,f4,f11,f12⟩,rfl,hr,hp,hI,hm,hm2⟩
    have hrg:=hI.rng
    have hlen:=hp.len
    by_cases hij:i≤j
    · have hgt:((i:Int)≤(j:Int))=True:=eq_true (by omega)
      have g1:=fun L=>sq_ld hr.row (i:=a) (by omega) (L:=L)
      have g2:=fun L=>sq_ld hr.row (i:=i) (by omega) (L:=L)
      simp (disch:=omega) [f0,f1,f4,f11,f12,hgt,wrap_i64,g1,g2,hst,sq_addr,-viaddrS_in,-vload_ptrO]
      refine hc.at hr (i:=a) (j:=i) (by omega) (by omega) fun H2 x2 hr2 => ?_
      simp
      refine cond_ndec (fun hlt => ?_) fun hlt => ?_
      · simp (disch:=omega) [f0,f1,f4,f11,f12,wrap_i64]
        exact ⟨m-1,by omega,l',i+1,j,by omega,hr2,hp,hI.up hij hlt,by omega,by omega⟩
      · simp [f0,f1,f4,f11,f12]
        exact ⟨l',i,j,by omega,hr2,hp,hI,by omega,fun _=>hlt⟩
    · have hgt:((i:Int)≤(j:Int))=False:=eq_false (by omega)
      simp (disch:=omega) [f0,f1,f4,f11,f12,hgt]
      exact ⟨l',i,j,by omega,hr,hp,hI,by omega,fun h=>absurd h hij⟩
  clear f0 f1 f4 f11 f12 hr hp hI hm l' i j
  rintro fr L H' ⟨l',i,j,⟨f0,f1,f4,f11,f12⟩,rfl,hr,hp,hI,hm,hup⟩
  simp [f0,f1,f4,f11,f12]
  refine wLoop_post 4 (fun fr L H'=>∃l' i j,(fr 0=.sl b 0 l0.length 4∧fr 1=.int .i64 a∧fr 4=.func (.func g) fs cs∧fr 11=.int .i64 (i:Nat)∧fr 12=.int .i64 (j:Nat))∧L=[]∧SqS b H0 l0 l' H'∧PermR a e l l'∧PeI cf a e i j l'∧j+1-i≤n∧(i≤j→cf (gE l' a) (gE l' i)<0)∧(i≤j→¬cf (gE l' a) (gE l' j)<0)) ?_ ?_
  · refine wLoop_m (n:=n) (fun m fr L H'=>∃l' i j,(fr 0=.sl b 0 l0.length 4∧fr 1=.int .i64 a∧fr 4=.func (.func g) fs cs∧fr 11=.int .i64 (i:Nat)∧fr 12=.int .i64 (j:Nat))∧L=[]∧SqS b H0 l0 l' H'∧PermR a e l l'∧PeI cf a e i j l'∧(i≤j→cf (gE l' a) (gE l' i)<0)∧j+1-i≤m∧m≤n) ⟨l',i,j,by simp [f0,f1,f4,f11,f12],rfl,hr,hp,hI,hup,hm,Nat.le_refl _⟩ ?_
    clear f0 f1 f4 f11 f12 hr hp hI hup hm l' i j
    rintro m fr L H' ⟨l',i,j,⟨f0,f1,f4,f11,f12⟩,rfl,hr,hp,hI,hup,hm,hm2⟩
    have hrg:=hI.rng
    have hlen:=hp.len
    by_cases hij:i≤j
    · have hgt:((i:Int)≤(j:Int))=True:=eq_true (by omega)
      have g1:=fun L=>sq_ld hr.row (i:=a) (by omega) (L:=L)
      have g2:=fun L=>sq_ld hr.row (i:=j) (by omega) (L:=L)
      simp (disch:=omega) [f0,f1,f4,f11,f12,hgt,wrap_i64,g1,g2,hst,sq_addr,-viaddrS_in,-vload_ptrO]
      refine hc.at hr (i:=a) (j:=j) (by omega) (by omega) fun H2 x2 hr2 => ?_
      simp
      refine cond_dec (fun hlt => ?_) fun hlt => ?_
      · have e1:(j:Int)-1=((j-1:Nat):Int):=by omega
        simp (disch:=omega) [f0,f1,f4,f11,f12,e1,wrap_i64]
        exact ⟨m-1,by omega,l',i,j-1,by omega,hr2,hp,hI.down hij,fun h=>hup (by omega),by omega,by omega⟩
      · simp [f0,f1,f4,f11,f12]
        exact ⟨l',i,j,by omega,hr2,hp,hI,by omega,hup,fun _=>by omega⟩
    · have hgt:((i:Int)≤(j:Int))=False:=eq_false (by omega)
      simp (disch:=omega) [f0,f1,f4,f11,f12,hgt]
      exact ⟨l',i,j,by omega,hr,hp,hI,by omega,fun h=>absurd h hij,fun h=>absurd h hij⟩
  clear f0 f1 f4 f11 f12 hr hp hI hup hm l' i j
  rintro fr L H' ⟨l',i,j,⟨f0,f1,f4,f11,f12⟩,rfl,hr,hp,hI,hm,hup,hdn⟩
  have hrg:=hI.rng
  have hlen:=hp.len
  by_cases hij:i≤j
  · have hgt:((j:Int)<(i:Int))=False:=eq_false (by omega)
    have hi0:=hup hij
    have hj0:=hdn hij
    have g1:=fun L=>sq_ld hr.row (i:=i) (by omega) (L:=L)
    have g2:=fun L=>sq_ld hr.row (i:=j) (by omega) (L:=L)
    have w1:=fun L=>sq_w1 hr hlim (i:=i) (by omega) (L:=L) (gE l' j)
    have w2:=fun L=>sq_w2 hr hlim (i:=i) (j:=j) (by omega) (L:=L)
    have hr4:=hr.swap (i:=i) (j:=j) (by omega) (by omega)
    have hps:=hp.trans (swp_perm (l:=l') (i:=i) (j:=j) (a:=a) (b:=e) ⟨by omega,by omega⟩ ⟨by omega,by omega⟩ (by omega))
    have hI2:=hI.swap ho hij (by omega) hi0 hj0
    have hrg2:=hI2.rng
    have e1:(j:Int)-1=((j-1:Nat):Int):=by omega
    simp (disch:=omega) [f0,f1,f4,f11,f12,hgt,e1,wrap_i64,g1,g2,w1,w2,hst,sq_addr,-viaddrS_in,-vstore,-vload_ptrO]
    exact ⟨n-1,by omega,_,i+1,j-1,by omega,hr4,hps,hI2,by omega,by omega⟩
  · have hgt:((j:Int)<(i:Int))=True:=eq_true (by omega)
    simp [f0,f1,f4,f11,f12,hgt]
    exact hK _ _ i hr hp (by omega) (hI.done ho)
end
end Go.Proofs.Ytclghkegfpcdpaa.Vm
namespace Go.Proofs.Ytclghkegfpcdpaa.Vm
open Go
set_option maxRecDepth 100000
set_option maxHeartbeats 1000000
set_option linter.unusedSimpArgs false
set_option linter.unusedVariables false
attribute [-simp] List.getD_eq_getElem?_getD
section
variable {lim:Nat}{H H0:Hp}{K:V→Hp→Prop}{b g:Nat}{l l0:List EQ}{cf:EQ→EQ→Int}{fs cs:List V}
theorem sq_pis (hs:SqS b H0 l0 l H) (hlim:lim≤b) (hst:allStor fs=true∧allStor cs=true∧g≠3999999) (hc:CmpQ b g fs cs H0 l0 cf) (ho:Ordr cf) {a e:Nat} (hae:a<e∧e≤l0.length) (hl:l0.length≤100000) (hg:GdR cf a e l)
    (hK:∀H' l' ok,SqS b H0 l0 l' H'→PermR a e l l'→(ok=true→SortR cf a e l')→K (.bool ok) H'):VCall tbl lim 116 [.sl b 0 l0.length 4,.int .i64 a,.int .i64 e,.func (.func g) fs cs] H K:=by
  refine VCall_fn tbl_at116 rfl ?_
  have hn:=hs.n
  simp (disch:=omega) [vf116,wrap_i64]
  refine wLoop_up 5 (fun c fr L H'=>∃l' i,(fr 0=.sl b 0 l0.length 4∧fr 1=.int .i64 a∧fr 2=.int .i64 e∧fr 3=.func (.func g) fs cs∧fr 9=.int .i64 (i:Nat)∧fr 10=.int .i64 (c:Nat))∧L=[]∧SqS b H0 l0 l' H'∧PermR a e l l'∧(a+1≤i∧i≤e)∧SortR cf a i l') ⟨l,a+1,by simp,rfl,hs,PermR.refl,by omega,SortR.one (by omega)⟩ ?_
  rintro c hc5 fr L H' ⟨l',i,⟨f0,f1,f2,f3,f9,f10⟩,rfl,hr,hp,hi,hso⟩
  simp [f0,f1,f2,f3,f9,f10]
  refine cond_dec (fun ht => ?_) fun ht => ?_
  case refine_2 =>
    simp
    exact hK _ _ false hr hp (fun h=>by cases h)
  simp [f0,f1,f2,f3,f9,f10]
  refine wLoop_post 2 (fun fr L H'=>∃l' i,(fr 0=.sl b 0 l0.length 4∧fr 1=.int .i64 a∧fr 2=.int .i64 e∧fr 3=.func (.func g) fs cs∧fr 9=.int .i64 (i:Nat)∧fr 10=.int .i64 (c:Nat))∧L=[]∧SqS b H0 l0 l' H'∧PermR a e l l'∧(a+1≤i∧i≤e)∧SortR cf a i l'∧(i<e→cf (gE l' i) (gE l' (i-1))<0)) ?_ ?_
  · refine wLoop_m (n:=e-i) (fun m fr L H'=>∃l' i,(fr 0=.sl b 0 l0.length 4∧fr 1=.int .i64 a∧fr 2=.int .i64 e∧fr 3=.func (.func g) fs cs∧fr 9=.int .i64 (i:Nat)∧fr 10=.int .i64 (c:Nat))∧L=[]∧SqS b H0 l0 l' H'∧PermR a e l l'∧(a+1≤i∧i≤e)∧SortR cf a i l'∧m=e-i) ⟨l',i,by simp [f0,f1,f2,f3,f9,f10],rfl,hr,hp,hi,hso,rfl⟩ ?_
    clear f0 f1 f2 f3 f9 f10 hr hp hi hso l' i
    rintro m fr L H' ⟨l',i,⟨f0,f1,f2,f3,f9,f10⟩,rfl,hr,hp,hi,hso,hm⟩
    have hlen:=hp.len
    by_cases hie:i<e
    · have hgt:((i:Int)<(e:Int))=True:=eq_true (by omega)
      have e1:((i:Int)-1).toNat=i-1:=by omega
      have g1:=fun L=>sq_ld hr.row (i:=i) (by omega) (L:=L)
      have g2:=fun L=>sq_ld hr.row (i:=i-1) (by omega) (L:=L)
      simp (disch:=omega) [f0,f1,f2,f3,f9,f10,hgt,e1,wrap_i64,g1,g2,hst,sq_addr,-viaddrS_in,-vload_ptrO]
      refine hc.at hr (i:=i) (j:=i-1) (by omega) (by omega) fun H2 x2 hr2 => ?_
      simp
      refine cond_ndec (fun hlt => ?_) fun hlt => ?_
      · simp (disch:=omega) [f0,f1,f2,f3,f9,f10,wrap_i64]
        exact ⟨m-1,by omega,l',i+1,by omega,hr2,hp,by omega,hso.next ho (by omega) hlt,by omega⟩
      · simp [f0,f1,f2,f3,f9,f10]
        exact ⟨l',i,by omega,hr2,hp,by omega,hso,fun _=>hlt⟩
    · have hgt:((i:Int)<(e:Int))=False:=eq_false (by omega)
      simp (disch:=omega) [f0,f1,f2,f3,f9,f10,hgt]
      exact ⟨l',i,by omega,hr,hp,by omega,hso,fun h=>absurd h hie⟩
  clear f0 f1 f2 f3 f9 f10 hr hp hi hso l' i
  rintro fr L H' ⟨l',i,⟨f0,f1,f2,f3,f9,f10⟩,rfl,hr,hp,hi,hso,hlt⟩
  have hlen:=hp.len
  simp [f0,f1,f2,f3,f9,f10]
  by_cases hie:i=e
  · subst hie
    simp
    exact hK _ _ true hr hp fun _=>hso
  have hie2:((i:Int)=(e:Int))=False:=eq_false (by omega)
  replace hlt:=hlt (by omega)
  simp (disch:=omega) [hie,hie2,f0,f1,f2,f3,f9,f10,wrap_i64]
  refine cond_dec (fun h50 => ?_) fun h50 => ?_
  · simp
    exact hK _ _ false hr hp (fun h=>by cases h)
  have e1:((i:Int)-1).toNat=i-1:=by omega
  have g1:=fun L=>sq_ld hr.row (i:=i) (by omega) (L:=L)
  have g2:=fun L=>sq_ld hr.row (i:=i-1) (by omega) (L:=L)
  have w1:=fun L=>sq_w1 hr hlim (i:=i) (by omega) (L:=L) (gE l' (i-1))
  have w2:=fun L=>sq_w2 hr hlim (i:=i) (j:=i-1) (by omega) (L:=L)
  have hr4:=hr.swap (i:=i) (j:=i-1) (by omega) (by omega)
  have hps:=hp.trans (swp_perm (l:=l') (i:=i) (j:=i-1) (a:=a) (b:=e) ⟨by omega,by omega⟩ ⟨by omega,by omega⟩ (by omega))
  have hso1:SortR cf a (i-1) (swp l' i (i-1)):=SortR.keep (fun p q h1 h2 h3=>hso p q h1 h2 (by omega)) fun k hk=>by rw [swp_get (by omega) (by omega),if_neg (by omega),if_neg (by omega)]
  simp (disch:=omega) [f0,f1,f2,f3,f9,f10,e1,wrap_i64,g1,g2,w1,w2,hst,sq_addr,-viaddrS_in,-vstore,-vload_ptrO]
  generalize swp l' i (i-1)=l1 at *
  generalize H'.set b (rowB l1)=H1 at *
  clear g1 g2 w1 w2 hr hp hso hlt hlen
  refine wCond_join (fun fr L H'=>∃l',(fr 0=.sl b 0 l0.length 4∧fr 1=.int .i64 a∧fr 2=.int .i64 e∧fr 3=.func (.func g) fs cs∧fr 9=.int .i64 (i:Nat)∧fr 10=.int .i64 (c:Nat))∧L=[]∧SqS b H0 l0 l' H'∧PermR a e l l'∧SortR cf a i l') (fun h2 => ?_) (fun h2 => ?_) ?_
  · simp (disch:=omega) [f0,f1,f2,f3,f9,f10,wrap_i64]
    refine wLoop_m (n:=i-1) (fun m fr L H'=>∃l',(fr 0=.sl b 0 l0.length 4∧fr 1=.int .i64 a∧fr 2=.int .i64 e∧fr 3=.func (.func g) fs cs∧fr 9=.int .i64 (i:Nat)∧fr 10=.int .i64 (c:Nat)∧fr 11=.int .i64 (m:Nat))∧L=[]∧SqS b H0 l0 l' H'∧PermR a e l l'∧InsR cf a (i-1) m l'∧a≤m∧m≤i-1) ⟨l1,by simp [f0,f1,f2,f3,f9,f10];omega,rfl,hr4,hps,InsR.start hso1,by omega,Nat.le_refl _⟩ ?_
    clear f0 f1 f2 f3 f9 f10
    rintro m fr L H' ⟨l',⟨f0,f1,f2,f3,f9,f10,f11⟩,rfl,hr,hp,hI,ha,hm⟩
    have hlen:=hp.len
    simp [f0,f1,f2,f3,f9,f10,f11]
    refine cond_dec (fun h1 => ?_) fun h1 => ?_
    · have e2:((m:Int)-1).toNat=m-1:=by omega
      have g1:=fun L=>sq_ld hr.row (i:=m) (by omega) (L:=L)
      have g2:=fun L=>sq_ld hr.row (i:=m-1) (by omega) (L:=L)
      simp (disch:=omega) [f0,f1,f2,f3,f9,f10,f11,e2,wrap_i64,g1,g2,hst,sq_addr,-viaddrS_in,-vload_ptrO]
      refine hc.at hr (i:=m) (j:=m-1) (by omega) (by omega) fun H2 x2 hr2 => ?_
      simp
      refine cond_ndec (fun hlt => ?_) fun hlt => ?_
      · have hd:=hI.done ho ha hm (Or.inr hlt)
        rw [show i-1+1=i by omega] at hd
        simp [f0,f1,f2,f3,f9,f10]
        exact ⟨l',hr2,hp,hd⟩
      · have ham:a<m:=by
          apply Classical.byContradiction
          intro hn2
          have:m=a:=by omega
          subst this
          exact hg.perm hp (Nat.le_refl _) (Nat.le_refl _) (by omega) (by omega) m (Nat.le_refl _) (by omega) hlt
        have g1:=fun L=>sq_ld hr2.row (i:=m) (by omega) (L:=L)
        have g2:=fun L=>sq_ld hr2.row (i:=m-1) (by omega) (L:=L)
        have w1:=fun L=>sq_w1 hr2 hlim (i:=m) (by omega) (L:=L) (gE l' (m-1))
        have w2:=fun L=>sq_w2 hr2 hlim (i:=m) (j:=m-1) (by omega) (L:=L)
        have hr5:=hr2.swap (i:=m) (j:=m-1) (by omega) (by omega)
        have hsw:=InsR.swap ho hI (by omega) (by omega) (by omega) hlt
        have hps5:=hp.trans (swp_perm (l:=l') (i:=m) (j:=m-1) (a:=a) (b:=e) ⟨by omega,by omega⟩ ⟨by omega,by omega⟩ (by omega))
        have e3:(m:Int)-1=((m-1:Nat):Int):=by omega
        simp (disch:=omega) [f0,f1,f2,f3,f9,f10,f11,e2,wrap_i64,g1,g2,w1,w2,sq_addr,-viaddrS_in,-vstore,-vload_ptrO]
        exact ⟨m-1,by omega,by omega,swp l' m (m-1),hr5,hps5,hsw,by omega,by omega⟩
    · have hd:=hI.done ho ha hm (Or.inl (by omega))
      rw [show i-1+1=i by omega] at hd
      simp [f0,f1,f2,f3,f9,f10]
      exact ⟨l',hr,hp,hd⟩
  · simp [f0,f1,f2,f3,f9,f10]
    exact ⟨l1,hr4,hps,SortR.one (by simp at h2;omega)⟩
  clear f0 f1 f2 f3 f9 f10 hr4 hps hso1 l1 H1
  rintro fr L H' ⟨l',⟨f0,f1,f2,f3,f9,f10⟩,rfl,hr,hp,hso⟩
  simp (disch:=omega) [f0,f1,f2,f3,f9,f10,wrap_i64]
  refine wCond_join (fun fr L H'=>∃l',(fr 0=.sl b 0 l0.length 4∧fr 1=.int .i64 a∧fr 2=.int .i64 e∧fr 3=.func (.func g) fs cs∧fr 9=.int .i64 (i:Nat)∧fr 10=.int .i64 (c:Nat))∧L=[]∧SqS b H0 l0 l' H'∧PermR a e l l'∧SortR cf a i l') (fun h2 => ?_) (fun h2 => ?_) ?_
  · simp (disch:=omega) [f0,f1,f2,f3,f9,f10,wrap_i64]
    refine wLoop_up (e-(i+1)) (fun m fr L H'=>∃l',(fr 0=.sl b 0 l0.length 4∧fr 1=.int .i64 a∧fr 2=.int .i64 e∧fr 3=.func (.func g) fs cs∧fr 9=.int .i64 (i:Nat)∧fr 10=.int .i64 (c:Nat)∧fr 12=.int .i64 ((i+1+m:Nat):Int))∧L=[]∧SqS b H0 l0 l' H'∧PermR a e l l'∧SortR cf a i l') ⟨l',by simp [f0,f1,f2,f3,f9,f10],rfl,hr,hp,hso⟩ ?_
    clear f0 f1 f2 f3 f9 f10 hr hp hso l'
    rintro m hm fr L H' ⟨l',⟨f0,f1,f2,f3,f9,f10,f12⟩,rfl,hr,hp,hso⟩
    have hlen:=hp.len
    simp [f0,f1,f2,f3,f9,f10,f12]
    refine cond_dec (fun h1 => ?_) fun h1 => ?_
    · have e2:((i:Int)+1+(m:Int)).toNat=i+1+m:=by omega
      have e3:((i:Int)+1+(m:Int)-1).toNat=i+m:=by omega
      have g1:=fun L=>sq_ld hr.row (i:=i+1+m) (by omega) (L:=L)
      have g2:=fun L=>sq_ld hr.row (i:=i+m) (by omega) (L:=L)
      simp (disch:=omega) [f0,f1,f2,f3,f9,f10,f12,e2,e3,wrap_i64,g1,g2,hst,sq_addr,-viaddrS_in,-vload_ptrO]
      refine hc.at hr (i:=i+1+m) (j:=i+m) (by omega) (by omega) fun H2 x2 hr2 => ?_
      simp
      refine cond_ndec (fun hlt => ?_) fun hlt => ?_
      · simp [f0,f1,f2,f3,f9,f10]
        exact ⟨l',hr2,hp,hso⟩
      · have g1:=fun L=>sq_ld hr2.row (i:=i+1+m) (by omega) (L:=L)
        have g2:=fun L=>sq_ld hr2.row (i:=i+m) (by omega) (L:=L)
        have w1:=fun L=>sq_w1 hr2 hlim (i:=i+1+m) (by omega) (L:=L) (gE l' (i+m))
        have w2:=fun L=>sq_w2 hr2 hlim (i:=i+1+m) (j:=i+m) (by omega) (L:=L)
        have hr5:=hr2.swap (i:=i+1+m) (j:=i+m) (by omega) (by omega)
        have hps5:=hp.trans (swp_perm (l:=l') (i:=i+1+m) (j:=i+m) (a:=a) (b:=e) ⟨by omega,by omega⟩ ⟨by omega,by omega⟩ (by omega))
        have hso5:SortR cf a i (swp l' (i+1+m) (i+m)):=hso.keep fun k hk=>by rw [swp_get (by omega) (by omega),if_neg (by omega),if_neg (by omega)]
        simp (disch:=omega) [f0,f1,f2,f3,f9,f10,f12,e2,e3,wrap_i64,g1,g2,w1,w2,sq_addr,-viaddrS_in,-vstore,-vload_ptrO]
        exact ⟨by omega,by omega,_,hr5,hps5,hso5⟩
    · simp [f0,f1,f2,f3,f9,f10]
      exact ⟨l',hr,hp,hso⟩
  · simp [f0,f1,f2,f3,f9,f10]
    exact ⟨l',hr,hp,hso⟩
  clear f0 f1 f2 f3 f9 f10 hr hp hso l'
  rintro fr L H' ⟨l',⟨f0,f1,f2,f3,f9,f10⟩,rfl,hr,hp,hso⟩
  simp (disch:=omega) [f0,f1,f2,f3,f9,f10,wrap_i64]
  exact ⟨by omega,l',i,by omega,hr,hp,by omega,hso⟩
theorem sq_pow {x:Nat}(hx:0<x∧x<256)(hlim:lim≤H.length)(hK:∀m:Nat,x<m→m≤2*x→K (.int .u64 m) H):VCall tbl lim 120 [.int .i64 x] H K:=by
  have h:=List.all_eq_true.1 pow_all x (List.mem_range.2 hx.2)
  cases hr:evFn (cloT tbl) 60 0 120 [.int .i64 x] [] with
  | none=>rw [hr] at h;cases h
  | some r =>
    obtain ⟨v,H1⟩:=r
    rw [hr] at h
    unfold powChk at h
    split at h
    · rename_i m he
      cases he
      have:=evFn_sh (G:=H) tbl 60 0 lim _ _ [] _ _ (by omega) hr
      have e:shH H []=H:=by simp [shH]
      rw [e] at this
      simp at h
      refine ⟨60,.int .u64 m,H,by simpa [shs,sh] using this,?_⟩
      have e2:m=((m.toNat:Nat):Int):=by omega
      rw [e2]
      exact hK _ (by omega) (by omega)
    · cases h
theorem sq_bits {x:Nat}(hx:x<256)(hlim:lim≤H.length)(hK:∀m:Nat,m≤100→K (.int .i64 m) H):VCall tbl lim 98 [.int .u64 x] H K:=by
  have h:=List.all_eq_true.1 len_all x (List.mem_range.2 hx)
  cases hr:evFn (cloT tbl) 60 0 98 [.int .u64 x] [] with
  | none=>rw [hr] at h;cases h
  | some r =>
    obtain ⟨v,H1⟩:=r
    rw [hr] at h
    unfold lenChk at h
    split at h
    · rename_i m he
      cases he
      have:=evFn_sh (G:=H) tbl 60 0 lim _ _ [] _ _ (by omega) hr
      have e:shH H []=H:=by simp [shH]
      rw [e] at this
      simp at h
      refine ⟨60,.int .i64 m,H,by simpa [shs,sh] using this,?_⟩
      have e2:m=((m.toNat:Nat):Int):=by omega
      rw [e2]
      exact hK _ (by omega)
    · cases h
theorem sq_next {s:Nat}{w:Int}(h:H[s]? = some (.row [.int .u64 w] true))(hl:lim≤s)(hK:∀z,K (.int .u64 z) (H.set s (.row [.int .u64 z] true))):VCall tbl lim 121 [.ptr s 0] H K:=by
  refine VCall_fn tbl_at121 rfl ?_
  have hb:=(List.getElem?_eq_some_iff.1 h).1
  have ld:=fun L=>su_ld h (L:=L)
  have st:=fun L z=>su_st (lim:=lim) (r:=.row [] true) h hl (L:=L) (z:=z)
  have row:∀z,(H.set s (.row [.int .u64 z] true))[s]? = some (.row [.int .u64 z] true):=fun z=>by simp [hb]
  have ld2:=fun z L=>su_ld (row z) (L:=L)
  have st2:∀y z L,vstore lim L (H.set s (.row [.int .u64 y] true)) (.ptr s 0) (.int .u64 z) 1=some (L,H.set s (.row [.int .u64 z] true)):=fun y z L=>by
    rw [su_st (r:=.row [] true) (row y) hl,List.set_set]
  simp [vf121,ld,st,ld2,st2,shl_u,shl_u2,shr_u,vbin_xor,-vstore,-vload_ptrO]
  exact hK _
end
end Go.Proofs.Ytclghkegfpcdpaa.Vm
